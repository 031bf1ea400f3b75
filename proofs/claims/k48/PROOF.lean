import PyProof.Rows.All
import Wide.All
import OpenK.AllK
import Wide.FinOn
import Lean
import PyProof.EqAt
import PyProof.EqKinds
import PyProof.TupleCall
import KE.KRevIter
import PyProof.EnumMake
import PyProof.EnumFor
import PyProof.ListRange
import PyProof.Rows.Range3
import PyProof.ZipIter
import PyProof.SumWalk
import PyProof.WalksMore
import PyProof.Rows.SetFrom
import PyProof.SetRoads
import PyProof.Rows.SortRunsK
import PyProof.Rows.SortWalk
import KE.KSortTup
import PyProof.Rows.Own
import PyProof.StationsW
import OpenK.KRaise
import KE.KIsAll
import PyProof.ExcArgsOwn
import PyProof.RulesAs
import PyProof.Ns1
import PyProof.Rows.Catch
import OpenK.KOwn
import PyProof.ExcBaseAll.ValueError
import KE.KDictSum
import PyProof.AttrMiss
import PyProof.IsiH_list
import KE.KDictOf
import PyProof.DictList
import KE.KDictList
import PyProof.FactsAll.set
import PyProof.Rows.TupAdd
import KE.KDictMeth
import PyProof.DictWalks
import PyProof.TupleKey
import PyProof.DictStraight
import PyProof.IsRules
import KE.KRevSl
import PySem.Challenge.RW_sinceply_k48_heavy_refused
noncomputable section
set_option Elab.async false
set_option linter.all false

set_option maxRecDepth 100000
namespace L2
open PySem PySem.Spec PyProof.Rows
noncomputable abbrev Key:=Sum Int Str
noncomputable def qY:Key→Value→Bool
 | .inl k,v=>Value.isInt k v
 | .inr x,v=>Value.isStrOf x v
noncomputable def MG (w:World):Key→Int
 | .inl k=>hashInt k
 | .inr x=>hashStr w x
theorem bM:∀ {k:Key} {v:Value},qY k v=true→(∃ i t,k=Sum.inl i∧v=Value.int i t)∨(∃ x t,k=Sum.inr x∧v=Value.str x t)
 | .inl i,v,h=>by
  obtain ⟨t,e⟩:=Value.isInt_shape (k:=i) (v:=v) h
  exact .inl ⟨i,t,rfl,e⟩
 | .inr x,v,h=>by
  obtain ⟨t,e⟩:=Value.isStrOf_shape (x:=x) (v:=v) h
  exact .inr ⟨x,t,rfl,e⟩
theorem zl (i:Int) (t:Tok):qY (.inl i) (.int i t)=true:=by simp [qY,Value.isInt]
theorem zm (x:Str) (t:Tok):qY (.inr x) (.str x t)=true:=by simp [qY,Value.isStrOf]
theorem Hr (a b:Int):decide ((Sum.inl a:Key)=Sum.inl b)=(a == b):=by
 by_cases e:a=b
 ·subst e;simp
 ·have h:¬ (Sum.inl a:Key)=Sum.inl b:=fun q=>e (Sum.inl.inj q)
  rw [decide_eq_false h]
  exact (beq_eq_false_iff_ne.mpr e).symm
theorem Ht (a b:Str):decide ((Sum.inr a:Key)=Sum.inr b)=decide (a=b):=by
 by_cases e:a=b
 ·subst e;simp
 ·have h:¬ (Sum.inr a:Key)=Sum.inr b:=fun q=>e (Sum.inr.inj q)
  rw [decide_eq_false h,decide_eq_false e]
theorem Hu (a:Int) (b:Str):decide ((Sum.inl a:Key)=Sum.inr b)=false:=decide_eq_false (fun q=>nomatch q)
theorem Hw (a:Str) (b:Int):decide ((Sum.inr a:Key)=Sum.inl b)=false:=decide_eq_false (fun q=>nomatch q)
noncomputable def bU (prog:Program) (w:World):PySem.KeyKind prog w Key where
 is:=qY
 hash:=MG w
 inj:=fun v a b ha hb=>by
  rcases bM ha with ⟨i,t,rfl,rfl⟩ | ⟨x,t,rfl,rfl⟩
  ·rcases bM hb with ⟨j,u,rfl,e⟩ | ⟨y,u,rfl,e⟩
   ·injection e with e1 _;rw [e1]
   ·exact nomatch e
  ·rcases bM hb with ⟨j,u,rfl,e⟩ | ⟨y,u,rfl,e⟩
   ·exact nomatch e
   ·injection e with e1 _;rw [e1]
 byValue:=fun k v h=>by
  rcases bM h with ⟨i,t,rfl,rfl⟩ | ⟨x,t,rfl,rfl⟩<;>rfl
 pyHash:=fun hv h=>by
  rcases bM hv with ⟨i,t,rfl,rfl⟩ | ⟨x,t,rfl,rfl⟩
  ·exact wpAny_pyHash_int h
  ·exact wpAny_pyHash_str h
 eqBool:=fun hu hv h=>by
  rcases bM hu with ⟨i,t,rfl,rfl⟩ | ⟨x,t,rfl,rfl⟩
  ·rcases bM hv with ⟨j,u,rfl,rfl⟩ | ⟨y,u,rfl,rfl⟩
   ·rw [Hr] at h;exact wpAny_eqBool_int h
   ·rw [Hu] at h;exact SeqAt.EqAt.int_str i t y u _ _ _ _ h
  ·rcases bM hv with ⟨j,u,rfl,rfl⟩ | ⟨y,u,rfl,rfl⟩
   ·rw [Hw] at h;exact SeqAt.EqAt.str_int x t j u _ _ _ _ h
   ·rw [Ht] at h;exact wpAny_eqBool_str h
 «strs»:=fun k x t v h=>by
  rcases bM h with ⟨i,u,rfl,e⟩ | ⟨y,u,rfl,e⟩
  ·exact nomatch e
  ·injection e with e1 _
   subst e1
   cases v<;>rfl
theorem uu (prog:Program) (w:World) (i:Int) (t:Tok):(bU prog w).is (.inl i) (.int i t)=true:=zl i t
theorem uv (prog:Program) (w:World) (x:Str) (t:Tok):(bU prog w).is (.inr x) (.str x t)=true:=zm x t
inductive V where
 | non | bl (b:Bool) | int (i:Int) | str (x:Str) | byt (b:Array UInt8) | flt (b:UInt64) | ref (a:Addr) | ty (n:String)
 deriving DecidableEq
noncomputable def RelV:V→Value→Prop
 | .non,u=>u=Value.none
 | .bl b,u=>u=Value.bool b
 | .int i,u=>∃ t,u=Value.int i t
 | .str x,u=>∃ t,u=Value.str x t
 | .byt b,u=>∃ t,u=Value.bytes b t
 | .flt b,u=>∃ t,u=Value.float b t
 | .ref a,u=>u=Value.ref a
 | .ty n,u=>u=Value.type n
noncomputable abbrev Vals:List V→List Value→Prop:=Paired RelV
theorem Vals.length {xs:List V} {us:List Value} (r:Vals xs us):xs.length=us.length:=Paired.length r
theorem Vals.get:∀ {xs:List V} {us:List Value} {i:Nat} {x:V},Vals xs us→xs[i]?=some x→∃ u,us[i]?=some u∧RelV x u
 | _,_,_,_,.nil,e=>by simp at e
 | _,_,0,_,.cons r _,e=>by simp at e;subst e;exact ⟨_,rfl,r⟩
 | _,_,i+1,x,.cons _ t,e=>by
  obtain ⟨u,h1,h2⟩:=Vals.get (i:=i) (x:=x) t (by simpa using e)
  exact ⟨u,by simpa using h1,h2⟩
theorem Vals.set {x:V} {u:Value} (r:RelV x u):∀ {xs:List V} {us:List Value} (i:Nat),Vals xs us→Vals (xs.set i x) (us.set i u)
 | _,_,_,.nil=>.nil
 | _,_,0,.cons _ t=>.cons r t
 | _,_,i+1,.cons q t=>.cons q (Vals.set r i t)
theorem Vals.append:∀ {xs ys:List V} {us ws:List Value},Vals xs us→Vals ys ws→Vals (xs++ys) (us++ws)
 | _,_,_,_,.nil,s=>s
 | _,_,_,_,.cons r t,s=>.cons r (Vals.append t s)
theorem Vals.take:∀ {xs:List V} {us:List Value} (n:Nat),Vals xs us→Vals (xs.take n) (us.take n)
 | _,_,0,_=>.nil
 | _,_,_+1,.nil=>.nil
 | _,_,n+1,.cons r t=>.cons r (Vals.take n t)
theorem Vals.drop:∀ {xs:List V} {us:List Value} (n:Nat),Vals xs us→Vals (xs.drop n) (us.drop n)
 | _,_,0,r=>r
 | _,_,_+1,.nil=>.nil
 | _,_,n+1,.cons _ t=>Vals.drop n t
noncomputable def oM:Option V→Option Value→Prop
 | some v,some u=>RelV v u
 | none,none=>True
 | _,_=>False
noncomputable def KV {κ:Type}:List (κ×V)→List (κ×Value)→Prop:=Paired fun (p:κ×V) (q:κ×Value)=>p.1=q.1∧RelV p.2 q.2
noncomputable def kV:Key→V
 | .inl i=>.int i
 | .inr x=>.str x
inductive HO where
 | lst (xs:List V)
 | tup (xs:List V)
 | dK (kvs:List (Key×V)) | dT (kvs:List (List Key×V))
 | set (S:Int→Bool) (n:Nat)
 | ins (C dx:Addr) (fs:List (Str×V))
 | own (x:Addr)
 | xd (fs:List (Str×V))
 | met (f x:Addr)
 | rng (lo hi:Int)
 | frz (o:Obj) (u:HO)
 | tbl (ps:Array Value)
 | ext (φ:Heap→Prop)
noncomputable abbrev Hp:=Addr→Option HO
noncomputable def upd (H:Hp) (a:Addr) (o:HO):Hp:=fun b=>if b=a then some o else H b
theorem aE {H:Hp} {a:Addr} {o:HO}:upd H a o a=some o:=by unfold upd;rw [if_pos rfl]
theorem ay {H:Hp} {a b:Addr} {o:HO} (h:b≠a):upd H a o b=H b:=by unfold upd;rw [if_neg h]
theorem Kn {H:Hp} {a b:Addr} {o u:HO} (h:H a=some o) (h':H b=some u) (d:o≠u):a≠b:=by
 intro e;subst e;rw [h] at h';exact d (Option.some.inj h')
theorem aM {H:Hp} {a b:Addr} {o:HO} (h:H a=some o) (h':H b=none):a≠b:=by
 intro e;subst e;rw [h] at h';cases h'
section
variable (P:Program) (w:World)
noncomputable def bu (H:Hp) (h:Heap) (a:Addr):HO→Prop
 | .lst xs=>xs.length≤sizeLine∧∃ (its:List Value) (n:Nat),Vals xs its∧h.get? a=some { cls:=.type "list",data:=.seq its.toArray n }
 | .tup xs=>xs.length≤sizeLine∧∃ its:List Value,Vals xs its∧IsTup h a its.toArray
 | .dK kvs=>kvs.length≤sizeLine∧(a == sysModules)=false∧∃ vs,KV kvs vs∧h.DictOf (bU P w) a vs
 | .dT kvs=>kvs.length≤sizeLine∧(a == sysModules)=false∧∃ xs:List (List Key×Addr×Value),
   Paired (fun (p:List Key×V) (q:List Key×Addr×Value)=>p.1=q.1∧H q.2.1=some (.tup (p.1.map kV))∧RelV p.2 q.2.2) kvs xs ∧
   ∃ o es ep,h.get? a=some o∧o.ExactDict∧o.data=.dict es ep∧es.toList=xs.map (entryOfKey (tupleKind (bU P w)))∧(xs.map (·.1)).Nodup
 | .set S n=>h.SetOf (intKind P w) a S n
 | .ins C dx fs=>H dx=some (.own a)∧fs.length≤1000∧dx≠a∧h.get? a=some (PySem.W.instObj C dx) ∧
   ∃ mA,h.Ns1 dx mA∧(∀ f,oM (fs.lookup f) (mA f))∧PySem.Within mA (fs.map (·.1))
 | .own _=>∃ o,h.get? a=some o
 | .xd fs=>∃ mA,h.Ns1 a mA∧∀ f,oM (fs.lookup f) (mA f)
 | .rng lo hi=>∃ t u v,h.get? a=some { cls:=.type "range",data:=.fields #[.int lo t,.int hi u,.int 1 v] }
 | .frz o u=>h.get? a=some o∧bu H h a u
 | .tbl ps=>h.get? a=some { cls:=.none,data:=.fields ps }
 | .met f x=>h.get? a=some (PySem.W.methodObj (.ref f) (.ref x))
 | .ext φ=>φ h∧(∃ o,h.get? a=some o)∧∀ h1 h2:Heap,φ h1→(∀ o,h1.get? a=some o→h2.get? a=some o)→φ h2
noncomputable def HOk (H:Hp) (h:Heap):Prop:=∀ a o,H a=some o→bu P w H h a o
end
section
variable {P:Program} {w:World} {H H':Hp} {h h':Heap} {a:Addr} {o:HO}
theorem bu.lt (x:bu P w H h a o):a<h.objs.size:=by
 cases o with
 | lst xs=>obtain ⟨_,_,_,_,e⟩:=x;exact Heap.lt_size e
 | tup xs=>obtain ⟨_,_,_,p⟩:=x;exact p.lt
 | dK kvs=>obtain ⟨_,_,_,_,o,_,_,e,_⟩:=x;exact Heap.lt_size e
 | dT kvs=>obtain ⟨_,_,_,_,o,_,_,e,_⟩:=x;exact Heap.lt_size e
 | set S n=>obtain ⟨o,_,_,_,e,_⟩:=x;exact Heap.lt_size e
 | ins C dx fs=>obtain ⟨_,_,_,e,_⟩:=x;exact Heap.lt_size e
 | own y=>obtain ⟨_,e⟩:=x;exact Heap.lt_size e
 | xd fs=>obtain ⟨_,⟨_,_,_,e,_⟩,_⟩:=x;exact Heap.lt_size e
 | rng lo hi=>obtain ⟨_,_,_,e⟩:=x;exact Heap.lt_size e
 | frz ob u=>obtain ⟨e,_⟩:=x;exact Heap.lt_size e
 | tbl ps=>exact Heap.lt_size (show h.get? a=some _ from x)
 | met f y=>exact Heap.lt_size (show h.get? a=some _ from x)
 | ext φ=>obtain ⟨_,⟨_,e⟩,_⟩:=x;exact Heap.lt_size e
theorem Paired.Hx {α β:Type} {F G:α→β→Prop}:∀ {l₁:List α} {l₂:List β},Paired F l₁ l₂→(∀ a b,F a b→G a b)→Paired G l₁ l₂
 | _,_,.nil,_=>.nil
 | _,_,.cons r t,f=>.cons (f _ _ r) (Paired.Hx t f)
theorem bu.stay (x:bu P w H h a o) (k:∀ b u,(b=a∨H b=some (.own a))→h.get? b=some u→h'.get? b=some u)
  (ho:∀ b,H b=some (.own a)→H' b=some (.own a)) (ht:∀ b xs,H b=some (.tup xs)→H' b=some (.tup xs)):bu P w H' h' a o:=by
 induction o with
 | lst xs=>obtain ⟨z,its,n,r,e⟩:=x;exact ⟨z,its,n,r,k _ _ (.inl rfl) e⟩
 | tup xs=>obtain ⟨z,its,r,ob,e,c⟩:=x;exact ⟨z,its,r,ob,k _ _ (.inl rfl) e,c⟩
 | dK kvs=>obtain ⟨z,y,vs,r,ob,es,ep,e,c⟩:=x;exact ⟨z,y,vs,r,ob,es,ep,k _ _ (.inl rfl) e,c⟩
 | dT kvs=>
  obtain ⟨z,y,xs,r,ob,es,ep,e,c⟩:=x
  exact ⟨z,y,xs,Paired.Hx r fun p q z=>⟨z.1,ht _ _ z.2.1,z.2.2⟩,ob,es,ep,k _ _ (.inl rfl) e,c⟩
 | set S n=>obtain ⟨ob,es,ep,t,e,c⟩:=x;exact ⟨ob,es,ep,t,k _ _ (.inl rfl) e,c⟩
 | ins C dx fs=>
  obtain ⟨d,z,ne,e,mA,⟨od,es,ep,e2,c⟩,r⟩:=x
  exact ⟨ho _ d,z,ne,k _ _ (.inl rfl) e,mA,⟨od,es,ep,k _ _ (.inr d) e2,c⟩,r⟩
 | own y=>obtain ⟨ob,e⟩:=x;exact ⟨ob,k _ _ (.inl rfl) e⟩
 | xd fs=>obtain ⟨mA,⟨od,es,ep,e,c⟩,r⟩:=x;exact ⟨mA,⟨od,es,ep,k _ _ (.inl rfl) e,c⟩,r⟩
 | rng lo hi=>obtain ⟨t,u,v,e⟩:=x;exact ⟨t,u,v,k _ _ (.inl rfl) e⟩
 | frz ob u ih=>obtain ⟨e,q⟩:=x;exact ⟨k _ _ (.inl rfl) e,ih q⟩
 | tbl ps=>
  have e:h.get? a=some { cls:=.none,data:=.fields ps }:=x
  show h'.get? a=some { cls:=.none,data:=.fields ps }
  exact k a _ (.inl rfl) e
 | met f y=>
  have e:h.get? a=some (PySem.W.methodObj (.ref f) (.ref y)):=x
  show h'.get? a=some (PySem.W.methodObj (.ref f) (.ref y))
  exact k a _ (.inl rfl) e
 | ext φ=>obtain ⟨p,⟨o,e⟩,st⟩:=x;exact ⟨st _ _ p fun o q=>k _ _ (.inl rfl) q,⟨o,k _ _ (.inl rfl) e⟩,st⟩
theorem HOk.lt (x:HOk P w H h) (e:H a=some o):a<h.objs.size:=(x a o e).lt
theorem HOk.fresh (x:HOk P w H h) (e:h.objs.size≤a):H a=none:=by
 cases q:H a with
 | none=>rfl
 | some u=>exact absurd (Nat.lt_of_lt_of_le (x.lt q) e) (Nat.lt_irrefl _)
theorem HOk.kept (x:HOk P w H h) (k:∀ b u,h.get? b=some u→h'.get? b=some u):HOk P w H h':=fun a o e=>
 (x a o e).stay (fun b u _ q=>k b u q) (fun _ q=>q) fun _ _ q=>q
theorem HOk.laid (x:HOk P w H h) (k:∀ b u,h.get? b=some u→h'.get? b=some u) (hp:h.objs.size≤a) (new:bu P w (upd H a o) h' a o):HOk P w (upd H a o) h':=fun b u e=>by
 have hn:=x.fresh hp
 by_cases hb:b=a
 ·subst hb;rw [aE] at e;cases e;exact new
 ·rw [ay hb] at e
  exact (x b u e).stay (fun c v _ q=>k c v q) (fun c q=>by rw [ay (aM q hn)];exact q) fun c xs q=>by rw [ay (aM q hn)];exact q
end
noncomputable def Rd (H:Hp) (a:Addr) (u:HO):Prop:=H a=some u∨∃ o,H a=some (.frz o u)
theorem Rd.ok {P:Program} {w:World} {H:Hp} {h:Heap} {a:Addr} {u:HO} (r:Rd H a u) (x:HOk P w H h):bu P w H h a u:=by
 rcases r with r | ⟨o,r⟩
 ·exact x a u r
 ·obtain ⟨_,q⟩:=x a _ r
  exact q
noncomputable def Mut:Option HO→Prop
 | some (.lst _)=>True
 | some (.dK _)=>True
 | some (.dT _)=>True
 | some (.set _ _)=>True
 | some (.ins _ _ _)=>True
 | some (.ext _)=>True
 | _=>False
section
variable {P:Program} {w:World} {H:Hp} {h h':Heap} {x e:Addr} {o':HO}
theorem HOk.write (ok:HOk P w H h) (mu:Mut (H x)) (he:e=x∨H e=some (.own x)) (k:∀ b u,b≠e→h.get? b=some u→h'.get? b=some u) (heo:∃ u,h'.get? e=some u)
  (new:bu P w (upd H x o') h' x o'):HOk P w (upd H x o') h':=fun b u q=>by
 have Ko:∀ c y,H c=some (.own y)→c≠x:=fun c y r z=>by subst z;rw [r] at mu;exact mu
 have MH:∀ c xs,H c=some (.tup xs)→c≠x:=fun c xs r z=>by subst z;rw [r] at mu;exact mu
 by_cases hb:b=x
 ·subst hb;rw [aE] at q;cases q;exact new
 ·rw [ay hb] at q
  by_cases hbe:b=e
  ·have q':H b=some (.own x):=by
    rcases he with z | z
    ·exact absurd (hbe.trans z) hb
    ·rw [hbe];exact z
   rw [q] at q';cases q'
   obtain ⟨v,hv⟩:=heo
   exact ⟨v,by rw [hbe];exact hv⟩
  ·refine (ok b u q).stay (fun c v hc r=>k c v ?_ r) (fun c r=>by rw [ay (Ko c b r)];exact r) fun c xs r=>by rw [ay (MH c xs r)];exact r
   rcases hc with rfl | hc
   ·exact hbe
   ·rintro rfl
    rcases he with z | z
    ·exact Ko c b hc z
    ·rw [hc] at z;cases z;exact hb rfl
end
structure Un (fs ex:List Addr) (H H':Hp) (h h':Heap):Prop where
 keep:∀ b o,h.get? b=some o→H b=none→b∉fs→b∉ex→h'.get? b=some o
 slot:∀ b o,h.get? b=some o→H b=none→b∈fs→b∉ex→∃ sl,h'.get? b=some { o with slots:=sl }
 free:∀ b o,h.get? b=some o→H b=none→b∉ex→H' b=none
 there:∀ b o,h.get? b=some o→b∉ex→∃ o',h'.get? b=some o'
 tups:∀ b xs,H b=some (.tup xs)→H' b=some (.tup xs)
 nX:∀ b o u,H b=some (.frz o u)→H' b=some (.frz o u)
 oN:∀ b ps,H b=some (.tbl ps)→∃ more,H' b=some (.tbl (ps++more))
section
variable {fs fs' ex ex':List Addr} {H H1 H2:Hp} {h h1 h2 h':Heap} {a x e:Addr} {o:HO}
theorem Un.any (u:Un fs ex H H1 h h1) {b:Addr} {ob:Obj} (q:h.get? b=some ob) (n:H b=none) (hx:b∉ex):∃ sl,h1.get? b=some { ob with slots:=sl }:=by
 by_cases hb:b∈fs
 ·exact u.slot b ob q n hb hx
 ·exact ⟨ob.slots,u.keep b ob q n hb hx⟩
theorem Un.kept (k:∀ b u,h.get? b=some u→h'.get? b=some u):Un fs ex H H h h':=
 ⟨fun b ob q _ _ _=>k b ob q,fun b ob q _ _ _=>⟨ob.slots,k b ob q⟩,fun _ _ _ n _=>n,fun b ob q _=>⟨ob,k b ob q⟩,fun _ _ q=>q,fun _ _ _ q=>q,fun _ ps q=>⟨#[],by rw [q];simp⟩⟩
theorem Un.refl:Un fs ex H H h h:=Un.kept fun _ _ q=>q
theorem Un.laid (k:∀ b u,h.get? b=some u→h'.get? b=some u) (hp:h.objs.size≤a) (hn:H a=none):Un fs ex H (upd H a o) h h' where
 keep:=fun b u q _ _ _=>k b u q
 slot:=fun b u q _ _ _=>⟨u.slots,k b u q⟩
 free:=fun b u q n _=>by rw [ay (Nat.ne_of_lt (Nat.lt_of_lt_of_le (Heap.lt_size q) hp))];exact n
 there:=fun b u q _=>⟨u,k b u q⟩
 tups:=fun b xs q=>by rw [ay (aM q hn)];exact q
 nX:=fun b u xs q=>by rw [ay (aM q hn)];exact q
 oN:=fun b ps q=>⟨#[],by rw [ay (aM q hn),q];simp⟩
theorem Un.write (mu:Mut (H x)) (he:e=x∨H e=some (.own x)) (k:∀ b u,b≠e→h.get? b=some u→h'.get? b=some u) (heo:∃ u,h'.get? e=some u):Un fs ex H (upd H x o) h h':=by
 have hx:∀ b,H b=none→b≠x:=fun b n z=>by subst z;rw [n] at mu;exact mu
 have hb:∀ b,H b=none→b≠e:=fun b n z=>by
  subst z
  rcases he with r | r
  ·exact hx b n r
  ·rw [n] at r;cases r
 have hm:∀ b u,H b=some u→¬ Mut (some u)→b≠x:=fun b u q nm z=>by subst z;rw [q] at mu;exact nm mu
 refine ⟨fun b u q n _ _=>k b u (hb b n) q,fun b u q n _ _=>⟨u.slots,k b u (hb b n) q⟩,fun b u q n _=>by rw [ay (hx b n)];exact n,fun b u q _=>?_,
  fun b xs q=>by rw [ay (hm b _ q fun z=>z)];exact q,fun b u xs q=>by rw [ay (hm b _ q fun z=>z)];exact q,fun b ps q=>⟨#[],by rw [ay (hm b _ q fun z=>z),q];simp⟩⟩
 by_cases hbe:b=e
 ·subst hbe;exact heo
 ·exact ⟨u,k b u hbe q⟩
end
noncomputable def trk (h:Heap) (H:Hp):List Addr:=(List.range h.objs.size).filter fun a=>(H a).isSome
noncomputable def sC (h:Heap) (H:Hp):Heap:=PySem.W.hideAll h (trk h H)
theorem zo (h:Heap) (H:Hp):(sC h H).objs.size=h.objs.size:=PySem.W.hideAll_size _ _
theorem As {h:Heap} {H:Hp} {b:Addr} {o:Obj} (e:h.get? b=some o) (n:H b=none):(sC h H).get? b=some o:=
 PySem.W.hideAll_get _ e fun hm=>by
  have q:(H b).isSome=true:=(List.mem_filter.mp hm).2
  rw [n] at q;simp at q
theorem DK {h:Heap} {H:Hp} {b:Addr} {o:Obj} (e:(sC h H).get? b=some o):h.get? b=some o∧H b=none:=by
 have e':h.get? b=some o:=PySem.W.of_hideAll (trk h H) e
 refine ⟨e',?_⟩
 cases q:H b with
 | none=>rfl
 | some x=>
  have hm:b∈trk h H:=List.mem_filter.mpr ⟨List.mem_range.mpr (Heap.lt_size e'),by simp [q]⟩
  have z:(sC h H).get? b=none:=PySem.W.hideAll_none (trk h H) hm
  rw [z] at e;cases e
structure Mod (K:PySem.W.Frag) (mg:Str→Option Value) (base:Heap):Prop where
 kin:K.In base
 glob:base.Ns mainGlobals mg
 blt:∃ mb,base.Ns builtinsNs mb∧∀ x:Str,x ≠ "__name__" → mb x=bootBuiltins x
 nolimit:base.NoLimit
structure Cx where
 prog:Program
 w:World
 K:PySem.W.Frag
 mg:Str→Option Value
 base:Heap
 A:Around
 N:List Str
 s₀:Shared
 H₀:Hp
 env:Env
 outer:List Env
 stack:List Env
 ex:List Addr
 fn:Str→Bool
 calm:Bool
 pn:List (Addr×Obj)
 xe:Value→Shared→Prop
noncomputable def frs (l:List Env):List Addr:=l.filterMap (·.frame)
noncomputable abbrev Cx.fs (X:Cx):List Addr:=frs X.outer
noncomputable def Vis (sc:Scope) (x:Str):Prop:=sc.names.lookup x=some .local∨sc.names.lookup x=some .cell∨sc.names.lookup x=some .free
noncomputable def Loc (sc:Scope) (x:Str):Prop:=sc.names.lookup x=some .local∨sc.names.lookup x=some .cell
noncomputable def Look (env:Env) (h:Heap) (m:Str→Option Value) (x:Str) (u:Value):Prop:=
 (env.kindOf x=some .local∧m x=some u)∨((env.kindOf x=some .cell∨env.kindOf x=some .free)∧∃ c,env.cells.lookup x=some c∧h.IsCell c (some u))
structure Cx.Ok (X:Cx):Prop where
 mod:Mod X.K X.mg X.base
 kind:X.env.scope.kind=.function
 glob:X.env.globals=mainGlobals
 blt:X.env.builtins=builtinsNs
 above:X.s₀.heap.objs.size≤X.env.locals
 inj:∀ x y c,X.env.cells.lookup x=some c→X.env.cells.lookup y=some c→x=y
 has:∀ x,(X.env.kindOf x=some .cell∨X.env.kindOf x=some .free)→∃ c,X.env.cells.lookup x=some c
 cab:∀ x c,X.fn x=true→X.env.cells.lookup x=some c→X.s₀.heap.objs.size≤c
 hd:X.calm=true→X.A.handled=none
 frames:X.A.frames=some X.stack
 stk:X.stack=X.outer∨(X.stack=X.env::X.outer∧X.env.frame=some X.env.locals)
 exf:∀ b∈X.ex,b≠X.env.locals∧∀ x c,X.env.cells.lookup x=some c→c≠b
 bs:∀ b o,X.base.get? b=some o→X.s₀.heap.get? b=some o∧X.H₀ b=none
 bsz:X.base.objs.size≤X.s₀.heap.objs.size
 Au:∀ b o,X.base.get? b=some o→b∉X.ex
 DL:∀ b∈X.ex,b∉X.fs
 nY:X.s₀.heap.FunFrames X.base X.outer
 frf:∀ b∈X.fs,X.H₀ b=none
structure Inv (X:Cx) (pins:List (Addr×Obj)) (σ:List (Option V)) (H:Hp) (s:Shared):Prop where
 ok:X.Ok
 os:s.os=X.s₀.os
 bare:AllBare s.gens
 base:Un X.fs X.ex X.H₀ H X.s₀.heap s.heap
 loc:∃ m,s.heap.Ns X.env.locals m∧∀ (i:Nat) (x:Str) (v:V),X.N[i]?=some x→σ[i]?=some (some v)→Vis X.env.scope x→∃ u,RelV v u∧Look X.env s.heap m x u
 cell:∀ x c,X.env.cells.lookup x=some c→∃ v,s.heap.IsCell c v
 free:H X.env.locals=none
 fu:∀ x c,X.env.cells.lookup x=some c→H c=none
 pin:∀ p∈X.pn++pins,s.heap.get? p.1=some p.2∧H p.1=none∧p.1≠X.env.locals∧p.1∉X.fs∧∀ v,p.2.data≠.cell v
 hok:HOk X.prog X.w H s.heap
 len:σ.length=X.N.length
section
variable {X:Cx} {pins:List (Addr×Obj)} {σ:List (Option V)} {H H':Hp} {s:Shared} {h':Heap}
theorem Cx.Ok.MI (ok:X.Ok) {b:Addr} {o:Obj} (e:X.base.get? b=some o):b∉X.fs:=fun hb=>by
 have:=(ok.nY.mem hb).1
 rw [e] at this;cases this
theorem Inv.bs (I:Inv X pins σ H s):∀ b o,X.base.get? b=some o→s.heap.get? b=some o∧H b=none:=fun b o e=>
 ⟨I.base.keep b o (I.ok.bs b o e).1 (I.ok.bs b o e).2 (I.ok.MI e) (I.ok.Au b o e),I.base.free b o (I.ok.bs b o e).1 (I.ok.bs b o e).2 (I.ok.Au b o e)⟩
theorem Inv.bk (I:Inv X pins σ H s):∀ b o,X.base.get? b=some o→s.heap.get? b=some o:=fun b o e=>(I.bs b o e).1
theorem Inv.mod (I:Inv X pins σ H s):Mod X.K X.mg X.base:=I.ok.mod
theorem Inv.kIn (I:Inv X pins σ H s):X.K.In s.heap:=I.ok.mod.kin.keeps I.bk
theorem Inv.lt (I:Inv X pins σ H s):X.env.locals<s.heap.objs.size:=let ⟨_,hn,_⟩:=I.loc;hn.lt
theorem Inv.sz (I:Inv X pins σ H s):X.s₀.heap.objs.size≤s.heap.objs.size:=Nat.le_trans I.ok.above (Nat.le_of_lt I.lt)
theorem Inv.MJ (I:Inv X pins σ H s) {a:Addr} (h:s.heap.objs.size≤a):a∉X.fs:=fun hb=>by
 obtain ⟨_,o,ho,_⟩:=I.ok.nY.mem hb
 exact absurd (Nat.lt_of_lt_of_le (Heap.lt_size ho) (Nat.le_trans I.sz h)) (Nat.lt_irrefl _)
theorem Inv.cne (I:Inv X pins σ H s):∀ x c,X.env.cells.lookup x=some c→c≠X.env.locals:=fun x c e z=>by
 obtain ⟨v,o,ho,hd⟩:=I.cell x c e
 obtain ⟨m,⟨o',es,ep,ho',hd',_⟩,_⟩:=I.loc
 rw [z,ho'] at ho;cases ho;rw [hd'] at hd;cases hd
theorem Inv.nY (I:Inv X pins σ H s):s.heap.FunFrames X.base X.outer:=by
 have all:∀ (l:List Env),(∀ b∈frs l,b∈X.fs)→X.s₀.heap.FunFrames X.base l→s.heap.FunFrames X.base l:=by
  intro l
  induction l with
  | nil=>intro _ _;trivial
  | cons env r ih=>
   intro hs hl
   obtain ⟨hk,⟨L,o,hf,hn,ho,hd⟩,hr⟩:=hl
   have hL:L∈X.fs:=hs L (by unfold frs;rw [List.filterMap_cons,hf];exact List.mem_cons_self)
   obtain ⟨sl,e⟩:=I.base.slot L o ho (I.ok.frf L hL) hL fun z=>I.ok.DL L z hL
   exact ⟨hk,⟨L,_,hf,hn,e,hd⟩,ih (fun b hb=>hs b (by unfold frs;rw [List.filterMap_cons,hf];exact List.mem_cons_of_mem _ hb)) hr⟩
 exact all X.outer (fun _ hb=>hb) I.ok.nY
theorem Inv.stack (I:Inv X pins σ H s):s.heap.FunFrames X.base X.stack:=by
 rcases I.ok.stk with e | ⟨e,hf⟩
 ·rw [e];exact I.nY
 ·rw [e]
  obtain ⟨m,hn,_⟩:=I.loc
  refine .cons (by rw [I.ok.kind];decide) hf hn ?_ I.nY
  exact Heap.get?_none_of_le (Nat.le_trans I.ok.bsz I.ok.above)
theorem Inv.oO (I:Inv X pins σ H s):∀ b∈frs X.stack,b∈X.env.locals::X.fs:=fun b hb=>by
 rcases I.ok.stk with e | ⟨e,hf⟩
 ·rw [e] at hb;exact List.mem_cons_of_mem _ hb
 ·rw [e] at hb
  unfold frs at hb
  rw [List.filterMap_cons,hf] at hb
  exact hb
theorem Inv.sD (I:Inv X pins σ H s):∀ b∈frs X.stack,H b=none:=fun b hb=>by
 rcases List.mem_cons.mp (I.oO b hb) with e | hb
 ·rw [e];exact I.free
 ·obtain ⟨_,o,ho,_⟩:=I.ok.nY.mem hb
  exact I.base.free b o ho (I.ok.frf b hb) fun z=>I.ok.DL b z hb
theorem Inv.step {g':Array GenState} {t':Nat} {d':Drawn} {ch:List Addr} (I:Inv X pins σ H s)
  (hch:∀ b∈ch,(b∈X.ex∨X.s₀.heap.objs.size≤b)∧b≠X.env.locals∧(∀ x c,X.env.cells.lookup x=some c→c≠b)∧∀ p∈X.pn++pins,p.1≠b)
  (keep:∀ b o,b≠X.env.locals→b∉X.fs→b∉ch→s.heap.get? b=some o→H b=none→h'.get? b=some o)
  (slot:∀ b o,b≠X.env.locals→b∈X.fs→b∉ch→s.heap.get? b=some o→H b=none→∃ sl,h'.get? b=some { o with slots:=sl }) (free:∀ b o,b∉ch→s.heap.get? b=some o→H b=none→H' b=none)
  (there:∀ b o,b∉ch→s.heap.get? b=some o→∃ o',h'.get? b=some o')
  (tups:∀ b xs,H b=some (.tup xs)→H' b=some (.tup xs)) (nX:∀ b o u,H b=some (.frz o u)→H' b=some (.frz o u)) (oN:∀ b ps,H b=some (.tbl ps)→∃ more,H' b=some (.tbl (ps++more)))
  (ns:∀ m,s.heap.Ns X.env.locals m→h'.Ns X.env.locals m) (hok:HOk X.prog X.w H' h') (hg:AllBare g') :
  Inv X pins σ H' { s with heap:=h',gens:=g',drawn:=d',toks:=t' }:=by
 have neL:∀ b o,X.s₀.heap.get? b=some o→b≠X.env.locals:=fun b o e=>Nat.ne_of_lt (Nat.lt_of_lt_of_le (Heap.lt_size e) I.ok.above)
 have neC:∀ b o,X.s₀.heap.get? b=some o→b∉X.ex→b∉ch:=fun b o e hx hb=>by
  rcases (hch b hb).1 with z | z
  ·exact hx z
  ·exact absurd (Nat.lt_of_lt_of_le (Heap.lt_size e) z) (Nat.lt_irrefl _)
 have cellK:∀ x c,X.env.cells.lookup x=some c→∀ v,s.heap.IsCell c v→h'.IsCell c v:=fun x c e v ⟨o,ho,hd⟩=>by
  have nch:c∉ch:=fun z=>(hch c z).2.2.1 x c e rfl
  by_cases hc:c∈X.fs
  ·obtain ⟨sl,q⟩:=slot c o (I.cne x c e) hc nch ho (I.fu x c e)
   exact ⟨_,q,hd⟩
  ·exact ⟨o,keep c o (I.cne x c e) hc nch ho (I.fu x c e),hd⟩
 refine ⟨I.ok,I.os,hg,⟨fun b o e n hb hx=>?_,fun b o e n hb hx=>?_,fun b o e n hx=>?_,fun b o e hx=>?_,fun b xs e=>tups b xs (I.base.tups b xs e),fun b o xs e=>nX b o xs (I.base.nX b o xs e),fun b ps e=>?_⟩,?_,fun x c e=>?_,?_,fun x c e=>?_,fun p hp=>?_,hok,I.len⟩
 ·exact keep b o (neL b o e) hb (neC b o e hx) (I.base.keep b o e n hb hx) (I.base.free b o e n hx)
 ·obtain ⟨sl,e1⟩:=I.base.slot b o e n hb hx
  obtain ⟨sl',e2⟩:=slot b _ (neL b o e) hb (neC b o e hx) e1 (I.base.free b o e n hx)
  exact ⟨sl',e2⟩
 ·obtain ⟨o',e1⟩:=I.base.there b o e hx
  exact free b o' (neC b o e hx) e1 (I.base.free b o e n hx)
 ·obtain ⟨o',e1⟩:=I.base.there b o e hx
  exact there b o' (neC b o e hx) e1
 ·obtain ⟨m1,e1⟩:=I.base.oN b ps e
  obtain ⟨m2,e2⟩:=oN b _ e1
  exact ⟨m1++m2,by rw [e2,Array.append_assoc]⟩
 ·obtain ⟨m,hn,hl⟩:=I.loc
  refine ⟨m,ns m hn,fun i x v e1 e2 e3=>?_⟩
  obtain ⟨u,r,l⟩:=hl i x v e1 e2 e3
  refine ⟨u,r,?_⟩
  rcases l with l | ⟨k,c,e,z⟩
  ·exact .inl l
  ·exact .inr ⟨k,c,e,cellK x c e _ z⟩
 ·obtain ⟨v,z⟩:=I.cell x c e
  exact ⟨v,cellK x c e v z⟩
 ·obtain ⟨m,⟨o,_,_,ho,_⟩,_⟩:=I.loc
  exact free _ o (fun z=>(hch _ z).2.1 rfl) ho I.free
 ·obtain ⟨v,o,ho,hd⟩:=I.cell x c e
  exact free c o (fun z=>(hch c z).2.2.1 x c e rfl) ho (I.fu x c e)
 ·obtain ⟨e,n,ne,nf,d⟩:=I.pin p hp
  have nch:p.1∉ch:=fun z=>(hch p.1 z).2.2.2 p hp rfl
  exact ⟨keep p.1 p.2 ne nf nch e n,free p.1 p.2 nch e n,ne,nf,d⟩
theorem Inv.un {t':Nat} (I:Inv X pins σ H s) (u:Un X.fs [] H H' s.heap h') (hok:HOk X.prog X.w H' h'):Inv X pins σ H' { s with heap:=h',toks:=t' }:=by
 obtain ⟨m,⟨o,es,ep,ho,r⟩,_⟩:=id I.loc
 obtain ⟨sl,hL⟩:=u.any ho I.free (by simp)
 exact I.step (g':=s.gens) (d':=s.drawn) (ch:=[]) (fun _ z=>nomatch z) (fun b o _ hb _ e n=>u.keep b o e n hb (by simp)) (fun b o _ hb _ e n=>u.slot b o e n hb (by simp)) (fun b o _ e n=>u.free b o e n (by simp)) (fun b o _ e=>u.there b o e (by simp)) u.tups u.nX u.oN (fun m' hm=>by
  obtain ⟨o',es',ep',ho',r'⟩:=hm
  rw [ho] at ho';cases ho'
  exact ⟨_,es',ep',hL,r'⟩) hok I.bare
theorem Inv.call {g':Array GenState} {t':Nat} {d':Drawn} {ch:List Addr} (I:Inv X pins σ H s) (u:Un (frs X.stack) ch H H' s.heap h') (hok:HOk X.prog X.w H' h') (hg:AllBare g')
  (hch:∀ b∈ch,(b∈X.ex∨X.s₀.heap.objs.size≤b)∧b≠X.env.locals∧(∀ x c,X.env.cells.lookup x=some c→c≠b)∧∀ p∈X.pn++pins,p.1≠b) :
  Inv X pins σ H' { s with heap:=h',gens:=g',drawn:=d',toks:=t' }:=by
 obtain ⟨m,⟨o,es,ep,ho,r⟩,_⟩:=id I.loc
 obtain ⟨sl,hL⟩:=u.any ho I.free fun z=>(hch _ z).2.1 rfl
 exact I.step (ch:=ch) hch (fun b o hL hb hc e n=>u.keep b o e n (fun z=>(List.mem_cons.mp (I.oO b z)).elim hL hb) hc) (fun b o _ _ hc e n=>u.any e n hc) (fun b o hc e n=>u.free b o e n hc) (fun b o hc e=>u.there b o e hc) u.tups u.nX u.oN (fun m' hm=>by
  obtain ⟨o',es',ep',ho',r'⟩:=hm
  rw [ho] at ho';cases ho'
  exact ⟨_,es',ep',hL,r'⟩) hok hg
theorem Inv.turned {t':Nat} {it:Addr} (I:Inv X pins σ H s) (k:∀ b o,b≠it→s.heap.get? b=some o→h'.get? b=some o) (hn:H it=none) (hL:it≠X.env.locals)
  (h1:it∈X.ex∨X.s₀.heap.objs.size≤it) (h2:∀ x c,X.env.cells.lookup x=some c→c≠it) (h3:∀ p∈X.pn++pins,p.1≠it):Inv X pins σ H { s with heap:=h',toks:=t' }:=by
 have nit:∀ b u,H b=some u→b≠it:=fun b u e z=>by rw [z,hn] at e;cases e
 refine I.step (g':=s.gens) (d':=s.drawn) (ch:=[it]) (fun b hb=>?_) (fun b o _ _ hc e _=>k b o (fun z=>hc (by simp [z])) e) (fun b o _ _ hc e _=>⟨o.slots,k b o (fun z=>hc (by simp [z])) e⟩) (fun _ _ _ _ n=>n)
  (fun b o hc e=>⟨o,k b o (fun z=>hc (by simp [z])) e⟩) (fun _ _ e=>e) (fun _ _ _ e=>e) (fun b ps e=>⟨#[],by rw [e];simp⟩) (fun m hm=>?_) (fun b u e=>?_) I.bare
 ·have e:b=it:=by simpa using hb
  subst e
  exact ⟨h1,hL,h2,h3⟩
 ·obtain ⟨o,es,ep,ho,r⟩:=hm
  exact ⟨o,es,ep,k _ o (Ne.symm hL) ho,r⟩
 ·refine (I.hok b u e).stay (fun c v hc q=>k c v ?_ q) (fun _ q=>q) fun _ _ q=>q
  rcases hc with z | z
  ·rw [z];exact nit b u e
  ·exact nit c _ z
theorem Inv.tok (I:Inv X pins σ H s) (t:Nat):Inv X pins σ H { s with toks:=t }:=I.un (h':=s.heap) (t':=t) Un.refl I.hok
theorem Inv.kept {t':Nat} (I:Inv X pins σ H s) (k:∀ b u,s.heap.get? b=some u→h'.get? b=some u):Inv X pins σ H { s with heap:=h',toks:=t' }:=I.un (Un.kept k) (I.hok.kept k)
theorem Inv.laid {a:Addr} {o:HO} {t':Nat} (I:Inv X pins σ H s) (k:∀ b u,s.heap.get? b=some u→h'.get? b=some u) (hp:s.heap.objs.size≤a) (new:bu X.prog X.w (upd H a o) h' a o) :
  Inv X pins σ (upd H a o) { s with heap:=h',toks:=t' }:=I.un (Un.laid k hp (I.hok.fresh hp)) (I.hok.laid k hp new)
theorem Inv.write {x e:Addr} {o:HO} {t':Nat} (I:Inv X pins σ H s) (mu:Mut (H x)) (he:e=x∨H e=some (.own x)) (k:∀ b u,b≠e→s.heap.get? b=some u→h'.get? b=some u) (heo:∃ u,h'.get? e=some u)
  (new:bu X.prog X.w (upd H x o) h' x o):Inv X pins σ (upd H x o) { s with heap:=h',toks:=t' }:=I.un (Un.write mu he k heo) (I.hok.write mu he k heo new)
theorem Inv.xZ {F_:List (Addr×Obj)} (I:Inv X pins σ H s) (h:∀ p∈F_,s.heap.get? p.1=some p.2∧H p.1=none∧p.1≠X.env.locals∧p.1∉X.fs∧∀ v,p.2.data≠.cell v):Inv X F_ σ H s:=
 ⟨I.ok,I.os,I.bare,I.base,I.loc,I.cell,I.free,I.fu,fun p hp=>(List.mem_append.mp hp).elim (fun z=>I.pin p (List.mem_append_left _ z)) (h p),I.hok,I.len⟩
theorem oQ {N:List Str} (hN:N.Nodup) {i j:Nat} {x:Str} (a:N[i]?=some x) (b:N[j]?=some x):i=j:=by
 obtain ⟨h1,e1⟩:=List.getElem?_eq_some_iff.mp a
 obtain ⟨h2,e2⟩:=List.getElem?_eq_some_iff.mp b
 exact (List.getElem_inj hN).mp (e1.trans e2.symm)
theorem mG {M:Model} {A:Around} {E:Value→Shared→Prop} {i:Nat} {x:Str} {v:V} {u:Value} {Q:Unit→Shared→Prop} (I:Inv X pins σ H s) (hN:X.N.Nodup) (hi:X.N[i]?=some x) (hx:Loc X.env.scope x) (r:RelV v u)
  (h:∀ s',Inv X pins (σ.set i (some v)) H s'→(∃ a,Heap.SameBut a s.heap s'.heap∧(a=X.env.locals∨X.env.cells.lookup x=some a))→Q () s') (hf:X.fn x=true∨X.env.scope.names.lookup x=some .local:=by first | exact .inl rfl | exact .inr rfl | assumption):wpAny M A (storeName X.env x u) Q E s:=by
 obtain ⟨m,hn,hl⟩:=id I.loc
 have hcls:(X.env.scope.kind == .class||(X.env.scope.kind == .module&&X.env.locals != X.env.globals))=false:=by rw [I.ok.kind];rfl
 have hiσ:i<σ.length:=by rw [I.len];exact (List.getElem?_eq_some_iff.mp hi).1
 have cne:=I.cne
 have tracked:∀ {a:Addr} {h':Heap},(∃ o,s.heap.get? a=some o∧H a=none)→Heap.SameBut a s.heap h'→HOk X.prog X.w H h':=fun {a h'} ha hs b ob e=>by
  obtain ⟨_,_,hfree⟩:=ha
  refine (I.hok b ob e).stay (fun c w' hc q=>(hs.2 c ?_).trans q) (fun _ q=>q) fun _ _ q=>q
  rintro rfl
  rcases hc with rfl | hc
  ·rw [hfree] at e;cases e
  ·rw [hfree] at hc;cases hc
 rcases hx with hk | hk
 ·refine wpAny_storeName_local hk hn (fun h' hn' hs=>?_) hcls
  obtain ⟨oL,_,_,hoL,_⟩:=id hn
  refine h _ ⟨I.ok,I.os,I.bare,⟨fun b o e n hb hx=>?_,fun b o e n hb hx=>?_,I.base.free,fun b o e hx=>?_,I.base.tups,I.base.nX,I.base.oN⟩,⟨_,hn',fun j y v' e1 e2 e3=>?_⟩,fun y c e=>?_,I.free,I.fu,fun p hp=>?_,tracked ⟨oL,hoL,I.free⟩ hs,by simpa using I.len⟩ ⟨_,hs,.inl rfl⟩
  ·exact (hs.2 b (Nat.ne_of_lt (Nat.lt_of_lt_of_le (Heap.lt_size e) I.ok.above))).trans (I.base.keep b o e n hb hx)
  ·obtain ⟨sl,e1⟩:=I.base.slot b o e n hb hx
   exact ⟨sl,(hs.2 b (Nat.ne_of_lt (Nat.lt_of_lt_of_le (Heap.lt_size e) I.ok.above))).trans e1⟩
  ·obtain ⟨o',e1⟩:=I.base.there b o e hx
   exact ⟨o',(hs.2 b (Nat.ne_of_lt (Nat.lt_of_lt_of_le (Heap.lt_size e) I.ok.above))).trans e1⟩
  ·by_cases hj:j=i
   ·subst hj
    rw [hi] at e1;cases e1
    rw [List.getElem?_set_self hiσ] at e2
    cases e2
    exact ⟨u,r,.inl ⟨hk,by simp⟩⟩
   ·rw [List.getElem?_set_ne (Ne.symm hj)] at e2
    obtain ⟨u',r',q⟩:=hl j y v' e1 e2 e3
    refine ⟨u',r',?_⟩
    rcases q with ⟨k,e⟩ | ⟨k,c,e,z⟩
    ·refine .inl ⟨k,?_⟩
     have:y≠x:=fun e=>hj (oQ hN e1 (e▸hi))
     simp [this,e]
    ·exact .inr ⟨k,c,e,z.sameBut hs (cne y c e)⟩
  ·obtain ⟨w',z⟩:=I.cell y c e
   exact ⟨w',z.sameBut hs (cne y c e)⟩
  ·obtain ⟨e,n,ne,nf,d⟩:=I.pin p hp
   exact ⟨(hs.2 p.1 ne).trans e,n,ne,nf,d⟩
 ·have hfn:X.fn x=true:=by
   rcases hf with z | z
   ·exact z
   ·rw [z] at hk;cases hk
  obtain ⟨c,hc⟩:=I.ok.has x (.inl hk)
  obtain ⟨w',z⟩:=I.cell x c hc
  refine wpAny_storeName_cell I.ok.kind hk hc z (fun h' hc' hs=>?_)
  obtain ⟨oc,hoc,MK⟩:=id z
  refine h { s with heap:=h' } ⟨I.ok,I.os,I.bare,⟨fun b o e n hb hx=>?_,fun b o e n hb hx=>?_,I.base.free,fun b o e hx=>?_,I.base.tups,I.base.nX,I.base.oN⟩,⟨m,hn.sameBut hs (Ne.symm (cne x c hc)),fun j y v' e1 e2 e3=>?_⟩,fun y c' e=>?_,I.free,I.fu,fun p hp=>?_,tracked ⟨oc,hoc,I.fu x c hc⟩ hs,by simpa using I.len⟩ ⟨c,hs,.inr hc⟩
  ·exact (hs.2 b (Nat.ne_of_lt (Nat.lt_of_lt_of_le (Heap.lt_size e) (I.ok.cab x c hfn hc)))).trans (I.base.keep b o e n hb hx)
  ·obtain ⟨sl,e1⟩:=I.base.slot b o e n hb hx
   exact ⟨sl,(hs.2 b (Nat.ne_of_lt (Nat.lt_of_lt_of_le (Heap.lt_size e) (I.ok.cab x c hfn hc)))).trans e1⟩
  ·obtain ⟨o',e1⟩:=I.base.there b o e hx
   exact ⟨o',(hs.2 b (Nat.ne_of_lt (Nat.lt_of_lt_of_le (Heap.lt_size e) (I.ok.cab x c hfn hc)))).trans e1⟩
  ·by_cases hj:j=i
   ·subst hj
    rw [hi] at e1;cases e1
    rw [List.getElem?_set_self hiσ] at e2
    cases e2
    exact ⟨u,r,.inr ⟨.inl hk,c,hc,hc'⟩⟩
   ·rw [List.getElem?_set_ne (Ne.symm hj)] at e2
    obtain ⟨u',r',q⟩:=hl j y v' e1 e2 e3
    refine ⟨u',r',?_⟩
    rcases q with q | ⟨k,c',e,z'⟩
    ·exact .inl q
    ·refine .inr ⟨k,c',e,z'.sameBut hs ?_⟩
     rintro rfl
     exact hj (oQ hN e1 (I.ok.inj _ _ _ e hc▸hi))
  ·by_cases hcc:c'=c
   ·subst hcc;exact ⟨_,hc'⟩
   ·obtain ⟨w2,z2⟩:=I.cell y c' e
    exact ⟨w2,z2.sameBut hs hcc⟩
  ·obtain ⟨e,n,ne,nf,d⟩:=I.pin p hp
   refine ⟨(hs.2 p.1 ?_).trans e,n,ne,nf,d⟩
   intro q
   rw [q,hoc] at e
   have q':oc=p.2:=Option.some.inj e
   exact d w' (by rw [← q'];exact MK)
theorem uw {M:Model} {A:Around} {E:Value→Shared→Prop} {i:Nat} {x:Str} {v:V} {u:Value} {Q:Unit→Shared→Prop} (I:Inv X pins σ H s) (hN:X.N.Nodup) (hi:X.N[i]?=some x) (hx:Loc X.env.scope x) (r:RelV v u)
  (h:∀ s',Inv X pins (σ.set i (some v)) H s'→Q () s') (hf:X.fn x=true∨X.env.scope.names.lookup x=some .local:=by first | exact .inl rfl | exact .inr rfl | assumption):wpAny M A (storeName X.env x u) Q E s:=
 mG I hN hi hx r (fun s' I' _=>h s' I') hf
theorem Inv.Kp {s':Shared} {ch:List Addr} (I:Inv X pins σ H s) (ho:s'.os=s.os) (u:Un (frs X.stack) ch H H' s.heap s'.heap) (hok:HOk X.prog X.w H' s'.heap) (hg:AllBare s'.gens)
  (hch:∀ b∈ch,(b∈X.ex∨X.s₀.heap.objs.size≤b)∧b≠X.env.locals∧(∀ x c,X.env.cells.lookup x=some c→c≠b)∧∀ p∈X.pn++pins,p.1≠b):Inv X pins σ H' s':=by
 obtain ⟨h',g',d',t',o'⟩:=s'
 have e:o'=s.os:=ho
 subst e
 exact I.call (g':=g') (t':=t') (d':=d') u hok hg hch
end
noncomputable abbrev XK:=Value→Option Addr→Hp→Prop
noncomputable abbrev St:=List (Option V)
noncomputable abbrev VK:=V→Hp→Prop
noncomputable abbrev TE:=St→Hp→VK→Prop
noncomputable abbrev TT:=St→Hp→(Bool→Hp→Prop)→Prop
noncomputable abbrev TA:=St→Hp→(List V→Hp→Prop)→Prop
structure Ends where
 nx:St→Hp→Prop
 rt:VK
 bk:St→Hp→Prop:=fun _ _=>False
 ct:St→Hp→Prop:=fun _ _=>False
noncomputable abbrev TS:=Ends→St→Hp→Prop
noncomputable def EP (X:Cx) (pins:List (Addr×Obj)) (σ:St) (Q:VK) (u:Value) (s':Shared):Prop:=∃ v H',Inv X pins σ H' s'∧RelV v u∧Q v H'
noncomputable def TP (X:Cx) (pins:List (Addr×Obj)) (σ:St) (Q:Bool→Hp→Prop) (b:Bool) (s':Shared):Prop:=∃ H',Inv X pins σ H' s'∧Q b H'
noncomputable def AP (X:Cx) (pins:List (Addr×Obj)) (σ:St) (Q:List V→Hp→Prop) (us:List Value) (s':Shared):Prop:=∃ vs H',Inv X pins σ H' s'∧Vals vs us∧Q vs H'
noncomputable def SP (X:Cx) (pins:List (Addr×Obj)) (D:Ends) (f:Flow) (s':Shared):Prop:=
 match f with
 | .next=>∃ σ' H',Inv X pins σ' H' s'∧D.nx σ' H'
 | .brk=>∃ σ' H',Inv X pins σ' H' s'∧D.bk σ' H'
 | .cont=>∃ σ' H',Inv X pins σ' H' s'∧D.ct σ' H'
 | .ret u=>∃ v σ' H',Inv X pins σ' H' s'∧RelV v u∧D.rt v H'
noncomputable def PE (X:Cx) (e:Expr) (t:TE):Prop:=
 ∀ (pins:List (Addr×Obj)) (s:Shared) (σ:St) (H:Hp) (Q:VK),Inv X pins σ H s→t σ H Q→wpAny (model X.prog X.w) X.A (eval e X.env) (EP X pins σ Q) X.xe s
noncomputable def PT (X:Cx) (e:Expr) (t:TT):Prop:=
 ∀ (pins:List (Addr×Obj)) (s:Shared) (σ:St) (H:Hp) (Q:Bool→Hp→Prop),Inv X pins σ H s→t σ H Q→wpAny (model X.prog X.w) X.A (isTrue e X.env (eval e X.env)) (TP X pins σ Q) X.xe s
noncomputable def PW (X:Cx) (e:Expr) (t:TT):Prop:=
 ∀ (whole:Sem Value) (pins:List (Addr×Obj)) (s:Shared) (σ:St) (H:Hp) (Q:Bool→Hp→Prop),Inv X pins σ H s→t σ H Q→wpAny (model X.prog X.w) X.A (isTrue e X.env whole) (TP X pins σ Q) X.xe s
theorem PW.pt {X:Cx} {e:Expr} {t:TT} (h:PW X e t):PT X e t:=h _
noncomputable def PA (X:Cx) (es:List Expr) (t:TA):Prop:=
 ∀ (pos:Pos) (pins:List (Addr×Obj)) (s:Shared) (σ:St) (H:Hp) (Q:List V→Hp→Prop),Inv X pins σ H s→t σ H Q→wpAny (model X.prog X.w) X.A (spliced (backTo pos (starEach es X.env))) (AP X pins σ Q) X.xe s
noncomputable def PS (X:Cx) (st:Stmt) (t:TS):Prop:=
 ∀ (pins:List (Addr×Obj)) (s:Shared) (σ:St) (H:Hp) (D:Ends),Inv X pins σ H s→t D σ H→wpAny (model X.prog X.w) X.A (exec st X.env) (SP X pins D) X.xe s
noncomputable def PSs (X:Cx) (st:List Stmt) (t:TS):Prop:=
 ∀ (pins:List (Addr×Obj)) (s:Shared) (σ:St) (H:Hp) (D:Ends),Inv X pins σ H s→t D σ H→wpAny (model X.prog X.w) X.A (execs st X.env) (SP X pins D) X.xe s
theorem thn {α:Type} {t:Sem α} {Q Q':α→Shared→Prop} {M:Model} {A:Around} {E:Value→Shared→Prop} {s:Shared} (h:wpAny M A t Q E s) (hQ:∀ a s,Q a s→Q' a s):wpAny M A t Q' E s:=wpAny_mono h hQ fun _ _ x=>x
section
variable {X:Cx}
noncomputable def ux (i:Nat):TE:=fun σ H Q=>∃ v,σ[i]?=some (some v)∧Q v H
noncomputable def tC (v:V):TE:=fun _ H Q=>Q v H
theorem jY {i:Nat} {x:Str} {pos:Pos} (hN:X.N[i]?=some x) (hv:Vis X.env.scope x) (hd:(x == ("__debug__" : Str))=false:=by decide) (hcd:(x == ("__classdict__" : Str))=false:=by decide):PE X (.Name x pos) (ux i):=by
 intro pins s σ H Q I h
 obtain ⟨v,e,h⟩:=h
 obtain ⟨m,hn,hl⟩:=I.loc
 obtain ⟨u,r,l⟩:=hl i x v hN e hv
 have fin:EP X pins σ Q u s:=⟨v,H,I,r,h⟩
 rcases l with ⟨hk,hm⟩ | ⟨hk,c,hc,hcell⟩
 ·exact wpAny_Name (wpAny_loadName_local I.ok.kind hk hn hm fin) hd
 ·rcases hk with hk | hk
  ·exact wpAny_Name (wpAny_loadName_cell I.ok.kind hk hc hcell fin) hd
  ·exact wpAny_Name (wpAny_loadName_free I.ok.kind hk hc hcell fin hcd) hd
theorem Hy {i j pos}:PE X (.Constant (.int i) j pos) (tC (.int i)):=fun _ _ _ H _ I h=>wpAny_Constant_int ⟨.int i,H,I.tok _,⟨_,rfl⟩,h⟩
theorem Kq {b j pos}:PE X (.Constant (.bool b) j pos) (tC (.bl b)):=fun _ _ _ H _ I h=>Constant_bool ⟨.bl b,H,I,rfl,h⟩
theorem Hz {j pos}:PE X (.Constant .none j pos) (tC .non):=fun _ _ _ H _ I h=>Constant_none ⟨.non,H,I,rfl,h⟩
theorem HA {x j pos}:PE X (.Constant (.str x) j pos) (tC (.str x)):=fun _ _ _ H _ I h=>Calls.Constant_str ⟨.str x,H,I.tok _,⟨_,rfl⟩,h⟩
noncomputable def Gl (X:Cx) (x:Str):Prop:=X.env.kindOf x=some .globalImplicit
theorem jG {E:Value→Shared→Prop} {pins:List (Addr×Obj)} {s:Shared} {σ:St} {H:Hp} {x:Str} {u:Value} {pos:Pos} {Q:Value→Shared→Prop} (I:Inv X pins σ H s) (hg:Gl X x) (hm:X.mg x=some u) (h:Q u s)
  (hd:(x == ("__debug__" : Str))=false:=by decide):wpAny (model X.prog X.w) X.A (eval (.Name x pos) X.env) Q E s:=
 Calls.Name_function_global I.ok.kind hg (Calls.loadGlobal_global (by rw [I.ok.glob];exact I.mod.glob.keeps I.bk) hm h) hd
theorem gp {E:Value→Shared→Prop} {pins:List (Addr×Obj)} {s:Shared} {σ:St} {H:Hp} {x:Str} {u:Value} {pos:Pos} {Q:Value→Shared→Prop} (I:Inv X pins σ H s) (hg:Gl X x) (hm:X.mg x=none) (hv:bootBuiltins x=some u) (h:Q u s)
  (hn:x ≠ "__name__" := by decide) (hd:(x == ("__debug__" : Str))=false:=by decide):wpAny (model X.prog X.w) X.A (eval (.Name x pos) X.env) Q E s:=by
 obtain ⟨mb,h1,h2⟩:=I.mod.blt
 exact Calls.Name_function_global I.ok.kind hg (Calls.loadGlobal_builtin (by rw [I.ok.glob];exact I.mod.glob.keeps I.bk) hm (by rw [I.ok.blt];exact h1.keeps I.bk) ((h2 x hn).trans hv) h) hd
theorem x8 {x:Str} {v:V} {u:Value} {pos:Pos} (hg:Gl X x) (hm:X.mg x=some u) (r:RelV v u) (hd:(x == ("__debug__" : Str))=false:=by decide):PE X (.Name x pos) (tC v):=
 fun _ _ _ H _ I h=>jG I hg hm ⟨v,H,I,r,h⟩ hd
theorem x9 {x:Str} {v:V} {u:Value} {pos:Pos} (hg:Gl X x) (hm:X.mg x=none) (hv:bootBuiltins x=some u) (r:RelV v u) (hn:x ≠ "__name__" := by decide) (hd:(x == ("__debug__" : Str))=false:=by decide):PE X (.Name x pos) (tC v):=
 fun _ _ _ H _ I h=>gp I hg hm hv ⟨v,H,I,r,h⟩ hn hd
variable {a b:Expr} {ta tb:TE} {pos:Pos}
noncomputable def PC (X:Cx) (op:CmpOp) (a b:Expr) (t:TE):Prop:=
 ∀ (pins:List (Addr×Obj)) (s:Shared) (σ:St) (H:Hp) (Q:VK),Inv X pins σ H s→t σ H Q →
  wpAny (model X.prog X.w) X.A (eval a X.env) (fun v s₁=>wpAny (model X.prog X.w) X.A (eval b X.env) (fun u s₂=>wpAny (model X.prog X.w) X.A (compareOp op v u) (EP X pins σ Q) X.xe s₂) X.xe s₁) X.xe s
noncomputable def tB (t:TE):TT:=fun σ H Q=>t σ H fun x H1=>∃ c,x=.bl c∧Q c H1
theorem Av {op:CmpOp} {t:TE} (h:PC X op a b t) (h1:behindInMarks op b=false:=by first | exact Kr _ (by decide) (by decide) | rfl):PT X (.Compare a [op] [b] pos) (tB t):=by
 intro pins s σ H Q I hw
 refine wpAny_isTrue_Compare1 (thn (h pins s σ H _ I hw) fun v s1 h1=>thn h1 fun u s2 h2=>thn h2 fun c s3 ⟨x,H1,I1,r1,q1⟩=>?_) h1
 obtain ⟨d,rfl,q⟩:=q1
 cases r1
 exact wpAny_truthy_bool ⟨H1,I1,q⟩
theorem HB {e:Expr} {t:TE} (h:PE X e t) (he:∀ whole,isTrue e X.env whole=(do let v ← whole;standAt e.pos;holding [v] (truthy v)):=by intro _;rfl):PT X e (tB t):=by
 intro pins s σ H Q I hw
 refine isTrue_plain (thn (h pins s σ H _ I hw) fun v s1 ⟨x,H1,I1,r1,q1⟩=>?_) (he _)
 obtain ⟨d,rfl,q⟩:=q1
 cases r1
 exact wpAny_truthy_bool ⟨H1,I1,q⟩
variable {tA tB':TT} {rest:List Expr}
noncomputable def fV (t u:TT):TT:=fun σ H Q=>t σ H fun c H1=>if c=true then u σ H1 Q else Q false H1
noncomputable def tOr (t u:TT):TT:=fun σ H Q=>t σ H fun c H1=>if c=true then Q true H1 else u σ H1 Q
noncomputable def bY (t:TT):TT:=fun σ H Q=>t σ H fun c H1=>Q (!c) H1
theorem pw_and1 (ha:PT X a tA):PW X (.BoolOp .And [a] pos) tA:=by
 intro wh pins s σ H Q I h
 refine isTrue_and (thn (ha pins s σ H Q I h) fun c s1 e=>?_)
 cases c with
 | true=>exact isTrue_and_nil e
 | false=>exact e
theorem pw_or1 (ha:PT X a tA):PW X (.BoolOp .Or [a] pos) tA:=by
 intro wh pins s σ H Q I h
 refine isTrue_or (thn (ha pins s σ H Q I h) fun c s1 e=>?_)
 cases c with
 | false=>exact isTrue_or_nil e
 | true=>exact e
theorem pw_and (ha:PT X a tA) (hb:PW X (.BoolOp .And (b::rest) pos) tB'):PW X (.BoolOp .And (a::b::rest) pos) (fV tA tB'):=by
 intro wh pins s σ H Q I h
 refine isTrue_and (thn (ha pins s σ H _ I h) fun c s1 ⟨H1,I1,q1⟩=>?_)
 cases c with
 | true=>exact hb wh pins s1 σ H1 Q I1 q1
 | false=>exact ⟨H1,I1,q1⟩
theorem pw_or (ha:PT X a tA) (hb:PW X (.BoolOp .Or (b::rest) pos) tB'):PW X (.BoolOp .Or (a::b::rest) pos) (tOr tA tB'):=by
 intro wh pins s σ H Q I h
 refine isTrue_or (thn (ha pins s σ H _ I h) fun c s1 ⟨H1,I1,q1⟩=>?_)
 cases c with
 | true=>exact ⟨H1,I1,q1⟩
 | false=>exact hb wh pins s1 σ H1 Q I1 q1
theorem HC (ha:PT X a tA):PT X (.UnaryOp .Not a pos) (bY tA):=by
 intro pins s σ H Q I h
 exact isTrue_not (ha pins s σ H (fun c H1=>Q (!c) H1) I h)
noncomputable def Ga (ta tb:TE):TE:=fun σ H Q=>ta σ H fun x H1=>∃ c,x=.bl c∧if c=true then tb σ H1 Q else Q (.bl false) H1
noncomputable def Gb (ta:TE):TE:=fun σ H Q=>ta σ H fun x H1=>∃ c,x=.bl c∧Q (.bl (!c)) H1
theorem HD {op} {t:TE} (h:PE X a t):PE X (.BoolOp op [a] pos) t:=fun pins s σ H Q I hw=>BoolOp_one (h pins s σ H Q I hw)
theorem HE (ha:PE X a ta) (hb:PE X (.BoolOp .And (b::rest) pos) tb):PE X (.BoolOp .And (a::b::rest) pos) (Ga ta tb):=by
 intro pins s σ H Q I h
 refine BoolOp_and (thn (ha pins s σ H _ I h) fun v s1 ⟨x,H1,I1,r1,q1⟩=>?_)
 obtain ⟨c,rfl,q1⟩:=q1
 cases r1
 refine wpAny_truthy_bool ?_
 cases c with
 | true=>exact hb pins s1 σ H1 Q I1 q1
 | false=>exact ⟨.bl false,H1,I1,rfl,q1⟩
theorem HF (ha:PE X a ta):PE X (.UnaryOp .Not a pos) (Gb ta):=by
 intro pins s σ H Q I h
 refine UnaryOp_ (thn (ha pins s σ H _ I h) fun v s1 ⟨x,H1,I1,r1,q1⟩=>?_)
 obtain ⟨c,rfl,q1⟩:=q1
 cases r1
 exact not_of (wpAny_truthy_bool ⟨.bl (!c),H1,I1,rfl,q1⟩)
end
noncomputable def SqL (K:PySem.W.Frag) (H:Hp) (a:Addr) (xs:List V):Prop:=
 Rd H a (.lst xs) ∨
  ∃ (o:Obj) (its:Array Value) (n:Nat),K.lookup a=some o∧o.cls=.type "list" ∧ o.dict=none∧o.data=.seq its n∧its.size≤sizeLine∧Vals xs its.toList
noncomputable def SqT (K:PySem.W.Frag) (H:Hp) (a:Addr) (xs:List V):Prop:=
 Rd H a (.tup xs) ∨
  ∃ (o:Obj) (its:Array Value) (n:Nat),K.lookup a=some o∧o.cls=.type "tuple" ∧ o.data=.seq its n∧its.size≤sizeLine∧Vals xs its.toList
noncomputable def ML:Value→Option V
 | .none=>some .non
 | .bool b=>some (.bl b)
 | .int i _=>some (.int i)
 | .str x _=>some (.str x)
 | .bytes b _=>some (.byt b)
 | .float b _=>some (.flt b)
 | .ref a=>some (.ref a)
 | .type n=>some (.ty n)
 | _=>none
theorem RelV.abs {x:V} {u:Value} (r:RelV x u):ML u=some x:=by
 cases x with
 | non=>cases r;rfl
 | bl _=>cases r;rfl
 | int _=>obtain ⟨t,rfl⟩:=r;rfl
 | str _=>obtain ⟨t,rfl⟩:=r;rfl
 | byt _=>obtain ⟨t,rfl⟩:=r;rfl
 | flt _=>obtain ⟨t,rfl⟩:=r;rfl
 | ref _=>cases r;rfl
 | ty _=>cases r;rfl
theorem RelV.inj {x y:V} {u:Value} (r:RelV x u) (q:RelV y u):x=y:=Option.some.inj (r.abs.symm.trans q.abs)
theorem Vals.inj:∀ {xs ys:List V} {us:List Value},Vals xs us→Vals ys us→xs=ys
 | _,_,_,.nil,.nil=>rfl
 | _,_,_,.cons r t,.cons r' t'=>by rw [r.inj r',Vals.inj t t']
section
variable {X:Cx} {pins:List (Addr×Obj)} {σ:St} {H:Hp} {s:Shared} {a:Addr} {xs ys:List V}
theorem SqT.of {K:PySem.W.Frag} (h:H a=some (.tup xs)):SqT K H a xs:=.inl (.inl h)
theorem Inv.list (I:Inv X pins σ H s) (h:SqL X.K H a xs):∃ its:List Value,Vals xs its∧PlainL s.heap a its.toArray∧xs.length≤sizeLine:=by
 rcases h with h | ⟨o,its,n,hk,hc,hd,hs,hz,r⟩
 ·obtain ⟨z,its,n,r,e⟩:=h.ok I.hok
  exact ⟨its,r,⟨_,n,e,rfl,rfl,rfl⟩,z⟩
 ·refine ⟨its.toList,r,⟨o,n,I.kIn a o hk,hc,hd,by simpa using hs⟩,?_⟩
  have e:=r.length
  simp only [Array.length_toList] at e
  omega
theorem Inv.tuple (I:Inv X pins σ H s) (h:SqT X.K H a xs):∃ its:List Value,Vals xs its∧IsTup s.heap a its.toArray∧xs.length≤sizeLine:=by
 rcases h with h | ⟨o,its,n,hk,hc,hs,hz,r⟩
 ·obtain ⟨z,its,r,p⟩:=h.ok I.hok
  exact ⟨its,r,p,z⟩
 ·refine ⟨its.toList,r,⟨o,I.kIn a o hk,hc,n,by simpa using hs⟩,?_⟩
  have e:=r.length
  simp only [Array.length_toList] at e
  omega
theorem Inv.uy (I:Inv X pins σ H s) (h:SqL X.K H a xs) (h':SqL X.K H a ys):xs=ys:=by
 obtain ⟨its,r,⟨o,n,e,_,_,d⟩,_⟩:=I.list h
 obtain ⟨its',r',⟨o',n',e',_,_,d'⟩,_⟩:=I.list h'
 rw [e] at e';cases e'
 rw [d] at d'
 injection d' with d1 _
 have:its=its':=by simpa using congrArg Array.toList d1
 subst this
 exact r.inj r'
theorem Inv.zp (I:Inv X pins σ H s) (h:SqT X.K H a xs) (h':SqT X.K H a ys):xs=ys:=by
 obtain ⟨its,r,⟨o,e,_,n,d⟩,_⟩:=I.tuple h
 obtain ⟨its',r',⟨o',e',_,n',d'⟩,_⟩:=I.tuple h'
 rw [e] at e';cases e'
 rw [d] at d'
 injection d' with d1 _
 have:its=its':=by simpa using congrArg Array.toList d1
 subst this
 exact r.inj r'
end
noncomputable abbrev Cx.qO (X:Cx) (E:Value→Shared→Prop):Cx:={ X with xe:=E }
noncomputable abbrev Cx.nox (X:Cx):Cx:=X.qO fun _ _=>False
theorem Cx.Ok.qO {X:Cx} (ok:X.Ok) (E:Value→Shared→Prop):(X.qO E).Ok:=
 ⟨ok.mod,ok.kind,ok.glob,ok.blt,ok.above,ok.inj,ok.has,ok.cab,ok.hd,ok.frames,ok.stk,ok.exf,ok.bs,ok.bsz,ok.Au,ok.DL,ok.nY,ok.frf⟩
theorem Cx.Ok.iR {X:Cx} {E:Value→Shared→Prop} (ok:(X.qO E).Ok):X.Ok:=
 ⟨ok.mod,ok.kind,ok.glob,ok.blt,ok.above,ok.inj,ok.has,ok.cab,ok.hd,ok.frames,ok.stk,ok.exf,ok.bs,ok.bsz,ok.Au,ok.DL,ok.nY,ok.frf⟩
section
variable {X:Cx} {pins:List (Addr×Obj)} {σ:St} {H:Hp} {s:Shared} {E:Value→Shared→Prop}
theorem Inv.qO (I:Inv X pins σ H s) (E:Value→Shared→Prop):Inv (X.qO E) pins σ H s:=⟨I.ok.qO E,I.os,I.bare,I.base,I.loc,I.cell,I.free,I.fu,I.pin,I.hok,I.len⟩
theorem Inv.iR (I:Inv (X.qO E) pins σ H s):Inv X pins σ H s:=⟨I.ok.iR,I.os,I.bare,I.base,I.loc,I.cell,I.free,I.fu,I.pin,I.hok,I.len⟩
theorem SP.iR {D:Ends} {f:Flow} {s':Shared} (h:SP (X.qO E) pins D f s'):SP X pins D f s':=by
 cases f with
 | next=>obtain ⟨σ',H',I,q⟩:=h;exact ⟨σ',H',I.iR,q⟩
 | brk=>obtain ⟨σ',H',I,q⟩:=h;exact ⟨σ',H',I.iR,q⟩
 | cont=>obtain ⟨σ',H',I,q⟩:=h;exact ⟨σ',H',I.iR,q⟩
 | ret u=>obtain ⟨v,σ',H',I,r,q⟩:=h;exact ⟨v,σ',H',I.iR,r,q⟩
theorem PSs.nox {st:List Stmt} {t:TS} (h:PSs X.nox st t):PSs X st t:=fun pins s σ H D I hw=>
 wpAny_mono (h pins s σ H D (I.qO _) hw) (fun _ _ q=>q.iR) fun _ _ z=>False.elim z
end
section
variable {X:Cx} {st:Stmt} {rest:List Stmt} {t u:TS} {e:Expr} {te:TE} {pos:Pos}
noncomputable def Aw:TS:=fun D σ H=>D.nx σ H
noncomputable def zq (t u:TS):TS:=fun D σ H=>t { D with nx:=u D } σ H
theorem x_:PSs X [] Aw:=fun _ _ σ H _ I h=>wpAny_execs_nil ⟨σ,H,I,h⟩
theorem iU (h1:PS X st t) (h2:PSs X rest u):PSs X (st::rest) (zq t u):=by
 intro pins s σ H D I h
 refine wpAny_execs_cons (thn (h1 pins s σ H { D with nx:=u D } I h) fun f s1 q=>?_)
 cases f with
 | next=>
  obtain ⟨σ',H',I',q⟩:=q
  exact h2 pins s1 σ' H' D I' q
 | ret v=>exact q
 | brk=>exact q
 | cont=>exact q
theorem ya (h1:PS X st t):PSs X [st] t:=by
 intro pins s σ H D I h
 refine wpAny_execs_cons (thn (h1 pins s σ H D I h) fun f s1 q=>?_)
 cases f with
 | next=>exact wpAny_execs_nil q
 | ret v=>exact q
 | brk=>exact q
 | cont=>exact q
theorem Inv.quiet {pins:List (Addr×Obj)} {σ:St} {H:Hp} {s:Shared} (I:Inv X pins σ H s):interactive X.env=false:=by simp [interactive,I.ok.kind]
noncomputable def uz (te:TE):TS:=fun D σ H=>te σ H fun _ H1=>D.nx σ H1
theorem k6 (he:PE X e te) (hs:swapsWith e none pos.line X.env=pure false:=by rfl):PS X (.Expr e pos) (uz te):=by
 intro pins s σ H D I h
 exact wpAny_Expr_any (thn (he pins s σ H _ I h) fun v s1 ⟨x,H1,I1,r1,q1⟩=>⟨σ,H1,I1,q1⟩) I.quiet hs
noncomputable def Ks (te:TE):TS:=fun D σ H=>te σ H D.rt
theorem HG (he:PE X e te):PS X (.Return (some e) pos) (Ks te):=by
 intro pins s σ H D I h
 exact wpAny_Return_some (thn (he pins s σ H _ I h) fun v s1 ⟨x,H1,I1,r1,q1⟩=>⟨x,σ,H1,I1,r1,q1⟩)
noncomputable def HH (c:TT) (t u:TS):TS:=fun D σ H=>c σ H fun b H1=>if b=true then t D σ H1 else u D σ H1
theorem Ax {c:Expr} {a b:List Stmt} {tc:TT} (hc:PT X c tc) (ha:PSs X a t) (hb:PSs X b u):PS X (.If c a b pos) (HH tc t u):=by
 intro pins s σ H D I h
 refine wpAny_If (thn (hc pins s σ H _ I h) fun d s1 ⟨H1,I1,q1⟩=>?_)
 cases d with
 | true=>exact ha pins s1 σ H1 D I1 q1
 | false=>exact hb pins s1 σ H1 D I1 q1
noncomputable def HJ:TS:=fun _ _ _=>False
theorem Ay:PS X st HJ:=fun _ _ _ _ _ _ h=>h.elim
end
noncomputable abbrev TG:=V→St→Hp→(St→Hp→Prop)→Prop
noncomputable abbrev TGs:=List V→St→Hp→(St→Hp→Prop)→Prop
noncomputable def PG (X:Cx) (target:Expr) (t:TG):Prop:=
 ∀ (pins:List (Addr×Obj)) (s:Shared) (σ:St) (H:Hp) (v:V) (u:Value) (Q:St→Hp→Prop),Inv X pins σ H s→RelV v u→t v σ H Q →
  wpAny (model X.prog X.w) X.A (assign target X.env u) (fun _ s'=>∃ σ' H',Inv X pins σ' H' s'∧Q σ' H') X.xe s
noncomputable def PGs (X:Cx) (ts:List Expr) (t:TGs):Prop:=
 ∀ (pins:List (Addr×Obj)) (s:Shared) (σ:St) (H:Hp) (vs:List V) (us:List Value) (Q:St→Hp→Prop),Inv X pins σ H s→Vals vs us→t vs σ H Q →
  wpAny (model X.prog X.w) X.A (assignInOrder ((assignEach ts X.env).map (·.2)) us) (fun _ s'=>∃ σ' H',Inv X pins σ' H' s'∧Q σ' H') X.xe s
noncomputable abbrev HK:=V→V→V→Hp→(Hp→Prop)→Prop
noncomputable def Ku (X:Cx) (t:HK):Prop:=
 ∀ (pins:List (Addr×Obj)) (s:Shared) (σ:St) (H:Hp) (o i v:V) (ov iv u:Value) (Q:Hp→Prop),Inv X pins σ H s→RelV o ov→RelV i iv→RelV v u→t o i v H Q →
  wpAny (model X.prog X.w) X.A (setItem ov iv u) (fun _ s'=>∃ H',Inv X pins σ H' s'∧Q H') X.xe s
section
variable {X:Cx} {pos:Pos}
noncomputable def k7 (i:Nat):TG:=fun v σ H Q=>Q (σ.set i (some v)) H
theorem sF {i:Nat} {x:Str} (hN:X.N.Nodup) (hi:X.N[i]?=some x) (hx:Loc X.env.scope x) (hf:X.fn x=true∨X.env.scope.names.lookup x=some .local:=by first | exact .inl rfl | exact .inr rfl | assumption):PG X (.Name x pos) (k7 i):=by
 intro pins s σ H v u Q I r h
 exact wpAny_assign_Name (uw I hN hi hx r (fun s' I'=>⟨_,H,I',h⟩) hf)
noncomputable def Kv:TGs:=fun vs σ H Q=>vs=[]∧Q σ H
noncomputable def Gd (t:TG) (u:TGs):TGs:=fun vs σ H Q=>∃ v r,vs=v::r∧t v σ H fun σ' H'=>u r σ' H' Q
theorem DM:PGs X [] Kv:=by
 intro pins s σ H vs us Q I r h
 obtain ⟨e,h⟩:=h
 subst e
 cases r
 exact assignInOrder_nil ⟨σ,H,I,h⟩
theorem Az {e:Expr} {es:List Expr} {t:TG} {u:TGs} (h1:PG X e t) (h2:PGs X es u)
  (hs:(assignEach (e::es) X.env).map (·.2)=assign e X.env::(assignEach es X.env).map (·.2):=by rfl):PGs X (e::es) (Gd t u):=by
 intro pins s σ H vs us Q I r h
 obtain ⟨v,vr,e1,h⟩:=h
 subst e1
 cases r with
 | cons r rr=>
  rw [hs]
  refine assignInOrder_cons (thn (h1 pins s σ H _ _ _ I r h) fun _ s1 ⟨σ1,H1,I1,q1⟩=>?_)
  exact h2 pins s1 σ1 H1 _ _ Q I1 rr q1
noncomputable def HL (K:PySem.W.Frag) (n:Nat) (t:TGs):TG:=fun v σ H Q=>∃ a xs,v=.ref a∧SqT K H a xs∧xs.length=n∧t xs σ H Q
theorem wk {es:List Expr} {k:Nat} {t:TGs} {n:Nat} (hc:X.calm=true) (h:PGs X es t)
  (hn:(assignEach es X.env).length=n:=by rfl) (hst:(assignEach es X.env).findIdx? (·.1)=none:=by rfl):PG X (.Tuple es k pos) (HL X.K n t):=by
 intro pins s σ H v u Q I r hw
 obtain ⟨a,xs,e1,hq,hl,hw⟩:=hw
 subst e1
 cases r
 obtain ⟨its,rv,ht,hz⟩:=I.tuple hq
 refine assign_Tuple_tuple (I.ok.hd hc) ht (by simp [hn,← hl,rv.length]) hst fun h' hx=>?_
 have I1:Inv X pins σ H { s with heap:=h' }:=I.kept (t':=s.toks) fun b o e=>hx b o (Nat.ne_of_lt (Heap.lt_size e)) e
 exact h pins _ σ H xs _ Q I1 (by simpa using rv) hw
noncomputable def gX (to ti:TE) (t:HK):TG:=fun v σ H Q=>to σ H fun o H1=>ti σ H1 fun i H2=>t o i v H2 fun H3=>Q σ H3
theorem HM {o i:Expr} {to ti:TE} {t:HK} (ho:PE X o to) (hi:PE X i ti) (hs:Ku X t)
  (ha:∀ v,assign (.Subscript o i pos) X.env v=(do
   let ov ← holding [v] (eval o X.env)
   let iv ← holding [v,ov] (eval i X.env)
   standAt pos
   holding [v,ov,iv] (setItem ov iv v)
   release [v,ov,iv] []):=by intro _;rfl):PG X (.Subscript o i pos) (gX to ti t):=by
 intro pins s σ H v u Q I r h
 rw [ha]
 refine wpAny_bind (wpAny_holding (thn (ho pins s σ H _ I h) fun ov s1 ⟨x,H1,I1,r1,q1⟩=>?_))
 refine wpAny_bind (wpAny_holding (thn (hi pins s1 σ H1 _ I1 q1) fun iv s2 ⟨y,H2,I2,r2,q2⟩=>?_))
 refine wpAny_bind (wpAny_standAt (wpAny_bind (wpAny_holding (thn (hs pins s2 σ H2 x y v ov iv u _ I2 r1 r2 r q2) fun _ s3 ⟨H3,I3,q3⟩=>?_))))
 exact wpAny_release ⟨σ,H3,I3,q3⟩
noncomputable def wm (te:TE) (g:TG):TS:=fun D σ H=>te σ H fun x H1=>g x σ H1 D.nx
theorem AA {tg e:Expr} {te:TE} {g:TG} (he:PE X e te) (hg:PG X tg g) (hs:swapsWithSole [tg] e pos.line X.env=pure false:=by rfl) (hw:swappedStores [tg] e X.env=pure none:=by rfl)
  (h1:(assignEach [tg] X.env).map (·.2)=[assign tg X.env]:=by rfl):PS X (.Assign [tg] e pos) (wm te g):=by
 intro pins s σ H D I h
 refine wpAny_Assign_stores (thn (he pins s σ H _ I h) fun v s1 ⟨x,H1,I1,r1,q1⟩=>?_) hs hw
 rw [h1]
 exact thn (hg pins s1 σ H1 x v _ I1 r1 q1) fun _ s2 q=>q
theorem AB {i:Nat} {x:Str} {e:Expr} {te:TE} {pos':Pos} (hN:X.N.Nodup) (hi:X.N[i]?=some x) (hx:Loc X.env.scope x) (he:PE X e te) (hs:swapsWith e (some (.Name x pos')) pos.line X.env=pure false:=by rfl) (hf:X.fn x=true∨X.env.scope.names.lookup x=some .local:=by first | exact .inl rfl | exact .inr rfl | assumption) :
  PS X (.Assign [.Name x pos'] e pos) (wm te (k7 i)):=by
 intro pins s σ H D I h
 refine wpAny_Assign_Name (thn (he pins s σ H _ I h) fun v s1 ⟨y,H1,I1,r1,q1⟩=>?_) hs
 exact uw I1 hN hi hx r1 (fun s2 I2=>⟨_,H1,I2,q1⟩) hf
end
section
variable {X:Cx} {pos:Pos}
noncomputable def AD (c:TT) (tb:TS):TS:=fun D σ H=>∃ W:Nat→St→Hp→Prop,(∃ m,W m σ H)∧∀ m σ H,W m σ H →
 c σ H fun b H1=>if b=true then ∃ N:St→Hp→Prop,(∀ σ' H',N σ' H'→∃ m',m'<m∧W m' σ' H')∧tb { D with nx:=N,ct:=N,bk:=D.nx } σ H1 else D.nx σ H1
theorem AE {c:Expr} {body:List Stmt} {tc:TT} {tb:TS} (hp:PassesOwn (model X.prog X.w) X.A X.env X.xe) (hc:PT X c tc) (hb:PSs X body tb):PS X (.While c body [] pos) (AD tc tb):=by
 intro pins s σ H D I h
 obtain ⟨W,⟨m0,w0⟩,turn⟩:=h
 refine wpAny_While (codeAny_whileLoop (fun n s'=>∃ σ' H',Inv X pins σ' H' s'∧W n σ' H') ?_ m0 ⟨σ,H,I,w0⟩)
 rintro n s1 ⟨σ1,H1,I1,w1⟩
 refine wpAny_passesOwn hp (thn (hc pins s1 σ1 H1 _ I1 (turn n σ1 H1 w1)) fun b s2 ⟨H2,I2,q2⟩=>?_)
 cases b with
 | true=>
  obtain ⟨N,hN,q2⟩:=q2
  rw [if_pos rfl]
  refine wpAny_passesOwn hp (thn (hb pins s2 σ1 H2 _ I2 q2) fun f s3 q3=>?_)
  cases f with
  | next=>
   obtain ⟨σ3,H3,I3,n3⟩:=q3
   obtain ⟨m',hm,w3⟩:=hN σ3 H3 n3
   exact ⟨m',hm,σ3,H3,I3,w3⟩
  | cont=>
   obtain ⟨σ3,H3,I3,n3⟩:=q3
   obtain ⟨m',hm,w3⟩:=hN σ3 H3 n3
   exact ⟨m',hm,σ3,H3,I3,w3⟩
  | brk=>exact q3
  | ret v=>exact q3
 | false=>
  rw [if_neg Bool.false_ne_true]
  exact wpAny_execs_nil ⟨σ1,H2,I2,q2⟩
end
structure It where
 go:Nat→Hp→Prop
 yld:Nat→Hp→V→Hp→Prop
 stop:Nat→Hp→Prop
noncomputable def sG (X:Cx) (pins:List (Addr×Obj)) (H:Hp) (b:Addr):Prop:=
 H b=none∧b≠X.env.locals∧b∉X.fs∧(b∈X.ex∨X.s₀.heap.objs.size≤b)∧(∀ x c,X.env.cells.lookup x=some c→c≠b)∧∀ p∈X.pn++pins,p.1≠b
theorem Inv.DO {X:Cx} {pins:List (Addr×Obj)} {σ:St} {H H':Hp} {s:Shared} {b:Addr} (I:Inv X pins σ H s) (hb:s.heap.objs.size≤b) (hn:H' b=none):sG X pins H' b:=by
 refine ⟨hn,Nat.ne_of_gt (Nat.lt_of_lt_of_le I.lt hb),I.MJ hb,.inr (Nat.le_trans I.sz hb),fun x c e z=>?_,fun p hp z=>?_⟩
 ·obtain ⟨v,q⟩:=I.cell x c e
  exact absurd (Nat.lt_of_lt_of_le q.lt (by rw [z];exact hb)) (Nat.lt_irrefl _)
 ·exact absurd (Nat.lt_of_lt_of_le (Heap.lt_size (I.pin p hp).1) (by rw [z];exact hb)) (Nat.lt_irrefl _)
structure Turn (P:Program) (w:World) (K:PySem.W.Frag) (tg:Expr) (J:It) (fp:List Addr) (it:Addr) (tn:Nat→Heap→Prop):Prop where
 mem:it∈fp
 obj:∀ i h,tn i h→∀ b∈fp,∃ o,h.get? b=some o∧∀ v,o.data≠.cell v
 keep:∀ i h h',tn i h→(∀ b∈fp,∀ o,h.get? b=some o→h'.get? b=some o)→tn i h'
 item:∀ (X:Cx),X.prog=P→X.w=w→X.K=K→X.calm=true→∀ (i:Nat) (pins:List (Addr×Obj)) (s:Shared) (σ:St) (H:Hp) (E:Value→Shared→Prop),Inv X pins σ H s→(∀ b∈fp,sG X pins H b)→tn i s.heap→J.go i H →
  wpAny (model P w) X.A (pyNext (.ref it)) (fun r s1=>∃ u,r=some u ∧
   wpAny (model P w) X.A (letOwnedTupleGo tg (.ref it) u) (fun _ s2=>∃ x H',Inv X pins σ H' s2∧RelV x u∧J.yld i H x H'∧tn (i+1) s2.heap∧∀ b∈fp,H' b=none) E s1) E s
 done:∀ (X:Cx),X.prog=P→X.w=w→X.K=K→X.calm=true→∀ (i:Nat) (pins:List (Addr×Obj)) (s:Shared) (σ:St) (H:Hp) (E:Value→Shared→Prop),Inv X pins σ H s→(∀ b∈fp,sG X pins H b)→tn i s.heap→J.stop i H →
  wpAny (model P w) X.A (pyNext (.ref it)) (fun r s1=>r=none∧Inv X pins σ H s1) E s
 self:∀ (A:Around) (i:Nat) (s:Shared) (Q:Value→Shared→Prop) (E:Value→Shared→Prop),tn i s.heap→Q (.ref it) s→wpAny (model P w) A (pyIter (.ref it)) Q E s
noncomputable abbrev TI:=St→Hp→(It→Hp→Prop)→Prop
noncomputable def PIE (X:Cx) (pins:List (Addr×Obj)) (σ:St) (tg:Expr) (R:It→Hp→Prop) (itv:Value) (s2:Shared):Prop:=
 ∃ (it:Addr) (fp:List Addr) (tn:Nat→Heap→Prop) (J:It) (H':Hp),itv=.ref it∧Inv X pins σ H' s2∧Turn X.prog X.w X.K tg J fp it tn∧tn 0 s2.heap∧(∀ b∈fp,sG X pins H' b)∧R J H'
noncomputable def PI (X:Cx) (tg iter:Expr) (wi:TI):Prop:=
 ∀ (pins:List (Addr×Obj)) (s:Shared) (σ:St) (H:Hp) (R:It→Hp→Prop),Inv X pins σ H s→wi σ H R →
  wpAny (model X.prog X.w) X.A (eval iter X.env) (fun v s1=>wpAny (model X.prog X.w) X.A (pyIter v) (PIE X pins σ tg R) X.xe s1) X.xe s
theorem AF {M:Model} {A:Around} {E:Value→Shared→Prop} {s:Shared} {tg:Expr} {it:Addr} {u:Value} {o:Obj} {n:String} {vs:Array Value} {Q:Unit→Shared→Prop} (ho:s.heap.get? it=some o) (hc:o.cls=.type n) (hd:o.data=.fields vs)
  (hn:["enumerate","zip","dict_itemiterator","dict_reverseitemiterator","odict_iterator","itertools.zip_longest","itertools.pairwise"].contains n=false) (hQ:Q () s):wpAny M A (letOwnedTupleGo tg (.ref it) u) Q E s:=by
 unfold letOwnedTupleGo
 cases tg<;>first
  | exact wpAny_pure hQ
  | (cases u<;>first
    | exact wpAny_pure hQ
    | (refine wpAny_bind (wpAny_load ho ?_)
       rw [hc,hd]
       show wpAny M A (if (["enumerate","zip","dict_itemiterator","dict_reverseitemiterator","odict_iterator","itertools.zip_longest","itertools.pairwise"].contains n&&vs[0]? == some (rawInt _))=true then _ else _) Q E s
       rw [if_neg (by intro h;rw [hn,Bool.false_and] at h;cases h)]
       exact wpAny_pure hQ))
noncomputable def Itl (K:PySem.W.Frag) (a:Addr):It:=
 ⟨fun i H=>∃ xs x,SqL K H a xs∧xs[i]?=some x,fun i H x H'=>H'=H∧∀ xs,SqL K H a xs→xs[i]?=some x,fun i H=>∃ xs,SqL K H a xs∧xs.length≤i⟩
noncomputable def Itt (K:PySem.W.Frag) (a:Addr):It:=
 ⟨fun i H=>∃ xs x,SqT K H a xs∧xs[i]?=some x,fun i H x H'=>H'=H∧∀ xs,SqT K H a xs→xs[i]?=some x,fun i H=>∃ xs,SqT K H a xs∧xs.length≤i⟩
noncomputable def Itr (lo:Int) (n:Nat):It:=⟨fun i _=>i<n,fun i H x H'=>H'=H∧x=.int (lo+i),fun i _=>n≤i⟩
theorem zu {P:Program} {w:World} {K:PySem.W.Frag} {tg:Expr} (a it:Addr):Turn P w K tg (Itl K a) [it] it (fun i h=>h.IsListIter it a i) where
 mem:=by simp
 obj:=fun i h st b hb=>by
  have e:b=it:=by simpa using hb
  subst e
  obtain ⟨o,e,c,d⟩:=st
  exact ⟨o,e,fun v z=>by rw [d] at z;cases z⟩
 keep:=fun i h h' st k=>st.at fun o e=>k it (by simp) o e
 item:=by
  intro X hP hw hK hc i pins s σ H E I hf st hg
  subst hP hw hK
  obtain ⟨xs,x,hq,hx⟩:=hg
  obtain ⟨its,rv,p,hz⟩:=I.list hq
  obtain ⟨u,hu,ru⟩:=rv.get hx
  obtain ⟨f0,f1,f2,f3,f4,f5⟩:=hf it (by simp)
  refine wpAny_pyNext_list_item st p.isList (x:=u) (by simpa using hu) fun h' st' sb=>?_
  have I1:Inv X pins σ H { s with heap:=h' }:=I.turned (t':=s.toks) (fun b o hb e=>(sb.2 b hb).trans e) f0 f1 f3 f4 f5
  obtain ⟨o,e,c,d⟩:=id st'
  exact ⟨u,rfl,AF (s:={ s with heap:=h' }) e c d (by decide) ⟨x,H,I1,ru,⟨rfl,fun ys hy=>by rw [I.uy hy hq];exact hx⟩,st',fun b hb=>(hf b hb).1⟩⟩
 done:=by
  intro X hP hw hK hc i pins s σ H E I hf st hg
  subst hP hw hK
  obtain ⟨xs,hq,hx⟩:=hg
  obtain ⟨its,rv,p,hz⟩:=I.list hq
  obtain ⟨f0,f1,f2,f3,f4,f5⟩:=hf it (by simp)
  have hl:=rv.length
  exact wpAny_pyNext_list_end (I.ok.hd hc) st p.isList (by simp;omega) fun h' eb=>⟨rfl,I.turned (t':=s.toks) (fun b o hb e=>eb b o hb e) f0 f1 f3 f4 f5⟩
 self:=fun _ _ _ _ _ st h=>wpAny_pyIter_listiter st h
theorem wo {P:Program} {w:World} {K:PySem.W.Frag} {tg:Expr} (a it:Addr):Turn P w K tg (Itt K a) [it] it (fun i h=>h.IsTupleIter it a i) where
 mem:=by simp
 obj:=fun i h st b hb=>by
  have e:b=it:=by simpa using hb
  subst e
  obtain ⟨o,e,c,d⟩:=st
  exact ⟨o,e,fun v z=>by rw [d] at z;cases z⟩
 keep:=fun i h h' st k=>st.at fun o e=>k it (by simp) o e
 item:=by
  intro X hP hw hK hc i pins s σ H E I hf st hg
  subst hP hw hK
  obtain ⟨xs,x,hq,hx⟩:=hg
  obtain ⟨its,rv,p,hz⟩:=I.tuple hq
  obtain ⟨u,hu,ru⟩:=rv.get hx
  obtain ⟨f0,f1,f2,f3,f4,f5⟩:=hf it (by simp)
  refine wpAny_pyNext_tuple_item st (show s.heap.IsTuple a its.toArray from p) (x:=u) (by simpa using hu) fun h' st' sb=>?_
  have I1:Inv X pins σ H { s with heap:=h' }:=I.turned (t':=s.toks) (fun b o hb e=>(sb.2 b hb).trans e) f0 f1 f3 f4 f5
  obtain ⟨o,e,c,d⟩:=id st'
  exact ⟨u,rfl,AF (s:={ s with heap:=h' }) e c d (by decide) ⟨x,H,I1,ru,⟨rfl,fun ys hy=>by rw [I.zp hy hq];exact hx⟩,st',fun b hb=>(hf b hb).1⟩⟩
 done:=by
  intro X hP hw hK hc i pins s σ H E I hf st hg
  subst hP hw hK
  obtain ⟨xs,hq,hx⟩:=hg
  obtain ⟨its,rv,p,hz⟩:=I.tuple hq
  obtain ⟨f0,f1,f2,f3,f4,f5⟩:=hf it (by simp)
  have hl:=rv.length
  exact wpAny_pyNext_tuple_end (I.ok.hd hc) st (show s.heap.IsTuple a its.toArray from p) (by simp;omega) fun h' eb=>⟨rfl,I.turned (t':=s.toks) (fun b o hb e=>eb b o hb e) f0 f1 f3 f4 f5⟩
 self:=fun _ _ _ _ _ st h=>wpAny_pyIter_tupleiter st h
theorem wu {P:Program} {w:World} {K:PySem.W.Frag} {tg:Expr} (it:Addr) (lo:Int) (n:Nat):Turn P w K tg (Itr lo n) [it] it (fun i h=>IsRangeIter h it (lo+(i:Nat)*1) ((n:Int)-(i:Nat)) 1) where
 mem:=by simp
 obj:=fun i h st b hb=>by
  have e:b=it:=by simpa using hb
  subst e
  exact ⟨_,st,fun v z=>by
   have z':Data.fields _=Data.cell v:=z
   cases z'⟩
 keep:=fun i h h' st k=>k it (by simp) _ st
 item:=by
  intro X hP hw hK hc i pins s σ H E I hf st hg
  subst hP hw hK
  obtain ⟨f0,f1,f2,f3,f4,f5⟩:=hf it (by simp)
  have W:=Walks.range (prog:=X.prog) (w:=X.w) (I.ok.hd hc) it lo 1 n
  refine W.item i s _ _ hg st fun v h' tk hv st' kk=>?_
  obtain ⟨t,rfl⟩:=hv
  have I1:Inv X pins σ H { s with heap:=h',toks:=tk }:=I.turned (fun b o hb e=>kk b o (by simpa using hb) e) f0 f1 f3 f4 f5
  refine ⟨_,rfl,AF (s:={ s with heap:=h',toks:=tk }) (n := "range_iterator") st' rfl rfl (by decide) ⟨.int (lo+i),H,I1,⟨t,?_⟩,⟨rfl,rfl⟩,st',fun b hb=>(hf b hb).1⟩⟩
  rw [Int.mul_one]
 done:=by
  intro X hP hw hK hc i pins s σ H E I hf st hg
  subst hP hw hK
  obtain ⟨f0,f1,f2,f3,f4,f5⟩:=hf it (by simp)
  exact wpAny_pyNext_range_end (I.ok.hd hc) st (by have:n≤i:=hg;omega) fun h' eb=>⟨rfl,I.turned (t':=s.toks) (fun b o hb e=>eb b o hb e) f0 f1 f3 f4 f5⟩
 self:=fun _ _ _ _ _ st h=>wpAny_pyIter_rangeiter st h
section
variable {X:Cx} {tg:Expr}
noncomputable def uA (K:PySem.W.Frag) (tl:TE):TI:=fun σ H R=>tl σ H fun x H1=>∃ a,x=.ref a∧(∃ xs,SqL K H1 a xs)∧R (Itl K a) H1
noncomputable def AG (K:PySem.W.Frag) (tl:TE):TI:=fun σ H R=>tl σ H fun x H1=>∃ a,x=.ref a∧(∃ xs,SqT K H1 a xs)∧R (Itt K a) H1
theorem yb {l:Expr} {tl:TE} (hl:PE X l tl):PI X tg l (uA X.K tl):=by
 intro pins s σ H R I h
 refine thn (hl pins s σ H _ I h) fun v s1 ⟨x,H1,I1,r1,q1⟩=>?_
 obtain ⟨a,e,⟨xs,hq⟩,q⟩:=q1
 subst e
 cases r1
 obtain ⟨its,rv,p,hz⟩:=I1.list hq
 refine wpAny_pyIter_list p.isList ?_
 refine ⟨s1.heap.objs.size,[s1.heap.objs.size],_,_,H1,rfl,I1.kept (t':=s1.toks) fun b o e=>Heap.get?_push_of_some _ e,zu a _,⟨_,Heap.get?_push_size _ rfl,rfl,rfl⟩,fun b hb=>?_,q⟩
 have e:b=s1.heap.objs.size:=by simpa using hb
 subst e
 exact I1.DO (Nat.le_refl _) (I1.hok.fresh (Nat.le_refl _))
theorem AH {l:Expr} {tl:TE} (hl:PE X l tl):PI X tg l (AG X.K tl):=by
 intro pins s σ H R I h
 refine thn (hl pins s σ H _ I h) fun v s1 ⟨x,H1,I1,r1,q1⟩=>?_
 obtain ⟨a,e,⟨xs,hq⟩,q⟩:=q1
 subst e
 cases r1
 obtain ⟨its,rv,p,hz⟩:=I1.tuple hq
 refine wpAny_pyIter_tuple (show s1.heap.IsTuple a its.toArray from p) ?_
 refine ⟨s1.heap.objs.size,[s1.heap.objs.size],_,_,H1,rfl,I1.kept (t':=s1.toks) fun b o e=>Heap.get?_push_of_some _ e,wo a _,⟨_,Heap.get?_push_size _ rfl,rfl,rfl⟩,fun b hb=>?_,q⟩
 have e:b=s1.heap.objs.size:=by simpa using hb
 subst e
 exact I1.DO (Nat.le_refl _) (I1.hok.fresh (Nat.le_refl _))
theorem uB {pins:List (Addr×Obj)} {σ:St} {H:Hp} {s:Shared} {R:It→Hp→Prop} {E:Value→Shared→Prop} {lo hi:Int} {t u v:Tok} {tk:Nat} (I:Inv X pins σ H s) (h1:-(2 ^ 62)≤lo) (h2:lo<2 ^ 62) (h3:-(2 ^ 62)≤hi) (h4:hi<2 ^ 62)
  (q:R (Itr lo (hi-lo).toNat) H):wpAny (model X.prog X.w) X.A (pyIter (.ref s.heap.objs.size)) (PIE X pins σ tg R) E { s with heap:=s.heap.push { cls:=.type "range",data:=.fields #[.int lo t,.int hi u,.int 1 v] },toks:=tk }:=by
 refine wpAny_pyIter_range (IsRange.new ..) (small_one h1 h2 h3 h4) ?_
 have I1:Inv X pins σ H { s with heap:=s.heap.push { cls:=.type "range",data:=.fields #[.int lo t,.int hi u,.int 1 v] },toks:=tk }:=I.kept fun b o e=>Heap.get?_push_of_some _ e
 refine ⟨(s.heap.push { cls:=.type "range",data:=.fields #[.int lo t,.int hi u,.int 1 v] }).objs.size,[(s.heap.push { cls:=.type "range",data:=.fields #[.int lo t,.int hi u,.int 1 v] }).objs.size],_,_,H,rfl,
  I1.kept (t':=tk) fun b o e=>Heap.get?_push_of_some _ e,wu _ lo (hi-lo).toNat,?_,fun b hb=>?_,q⟩
 ·have e1:lo+((0:Nat):Int)*1=lo:=by simp
  have e2:(((hi-lo).toNat:Nat):Int)-((0:Nat):Int)=Builtin.Range.rangeSize lo hi 1:=by rw [rangeSize_one];split<;>omega
  show IsRangeIter _ _ (lo+((0:Nat):Int)*1) ((((hi-lo).toNat:Nat):Int)-((0:Nat):Int)) 1
  rw [e1,e2]
  exact Heap.get?_push_size _ rfl
 ·have e:b=(s.heap.push { cls:=.type "range",data:=.fields #[.int lo t,.int hi u,.int 1 v] }).objs.size:=by simpa using hb
  subst e
  exact I1.DO (Nat.le_refl _) (I1.hok.fresh (Nat.le_refl _))
noncomputable def Ge (ta:TA):TI:=fun σ H R=>ta σ H fun vs H1=>∃ j:Int,vs=[.int j]∧-(2 ^ 62)≤j∧j<2 ^ 62∧R (Itr 0 j.toNat) H1
noncomputable def Gf (ta:TA):TI:=fun σ H R=>ta σ H fun vs H1=>∃ i j:Int,vs=[.int i,.int j]∧(-(2 ^ 62)≤i∧i<2 ^ 62∧-(2 ^ 62)≤j∧j<2 ^ 62)∧R (Itr i (j-i).toNat) H1
theorem zv {a:Expr} {ta:TA} {p pos:Pos} (hg:Gl X "range") (hm:X.mg "range" = none) (ha:PA X [a] ta) (hs:starEach [a] X.env=[(false,eval a X.env)]:=by rfl):PI X tg (.Call (.Name "range" p) [a] [] pos) (Ge ta):=by
 intro pins s σ H R I h
 refine Call_ (gp I hg hm boot_range (PyProof.Rows.callWith_type1 (thn (ha pos pins s σ H _ I h) fun us s1 ⟨vs,H1,I1,r1,q1⟩=>?_) hs rfl))
 obtain ⟨j,e,q1,q2,q⟩:=q1
 subst e
 cases r1 with
 | cons r rr=>
  cases rr
  obtain ⟨t,rfl⟩:=r
  exact call_range_1 (uB I1 (by omega) (by omega) q1 q2 (by simpa using q))
theorem zw {a b:Expr} {ta:TA} {p pos:Pos} (hg:Gl X "range") (hm:X.mg "range" = none) (ha:PA X [a,b] ta) (hs:starEach [a,b] X.env=[(false,eval a X.env),(false,eval b X.env)]:=by rfl) (hs2:starEach [b] X.env=[(false,eval b X.env)]:=by rfl) :
  PI X tg (.Call (.Name "range" p) [a,b] [] pos) (Gf ta):=by
 intro pins s σ H R I h
 refine Call_ (gp I hg hm boot_range (PyProof.Rows.callWith_type1 (thn (ha pos pins s σ H _ I h) fun us s1 ⟨vs,H1,I1,r1,q1⟩=>?_) (by rw [hs,hs2]) (by rw [hs2];rfl)))
 obtain ⟨i,j,e,⟨q1,q2,q3,q4⟩,q⟩:=q1
 subst e
 cases r1 with
 | cons r rr=>
  cases rr with
  | cons r' rr=>
   cases rr
   obtain ⟨t,rfl⟩:=r
   obtain ⟨t',rfl⟩:=r'
   exact call_range_2 (uB I1 q1 q2 q3 q4 q)
noncomputable def HN (wi:TI) (g:TG) (tb:TS):TS:=fun D σ H=>wi σ H fun J H1=>∃ W:Nat→Nat→St→Hp→Prop,(∃ m,W 0 m σ H1)∧∀ i m σ H,W i m σ H →
 (J.stop i H∧D.nx σ H)∨(J.go i H∧∃ N:St→Hp→Prop,(∀ σ' H',N σ' H'→∃ m',m'<m∧W (i+1) m' σ' H')∧∀ x H',J.yld i H x H'→g x σ H' fun σ2 H2=>tb { D with nx:=N,ct:=N,bk:=D.nx } σ2 H2)
noncomputable def oR (fp:List Addr) (h:Heap):List (Addr×Obj):=fp.filterMap fun b=>(h.get? b).map fun o=>(b,o)
theorem gY {fp:List Addr} {h:Heap} {b:Addr} {o:Obj} (hb:b∈fp) (e:h.get? b=some o):(b,o)∈oR fp h:=List.mem_filterMap.mpr ⟨b,hb,by rw [e];rfl⟩
theorem zx {fp:List Addr} {h:Heap} {p:Addr×Obj} (hp:p∈oR fp h):p.1∈fp∧h.get? p.1=some p.2:=by
 obtain ⟨b,hb,e⟩:=List.mem_filterMap.mp hp
 cases q:h.get? b with
 | none=>rw [q] at e;cases e
 | some o=>
  rw [q] at e
  have e':(b,o)=p:=Option.some.inj e
  subst e'
  exact ⟨hb,q⟩
theorem Inv.pinned {pins:List (Addr×Obj)} {σ:St} {H:Hp} {s:Shared} {fp:List Addr} (I:Inv X pins σ H s) (hf:∀ b∈fp,sG X pins H b) (ho:∀ b∈fp,∃ o,s.heap.get? b=some o∧∀ v,o.data≠.cell v):Inv X (pins++oR fp s.heap) σ H s:=
 I.xZ fun p hp=>(List.mem_append.mp hp).elim (fun z=>I.pin p (List.mem_append_right _ z)) fun z=>by
  obtain ⟨hb,e⟩:=zx z
  obtain ⟨f0,f1,f2,_⟩:=hf p.1 hb
  obtain ⟨o,e',d⟩:=ho p.1 hb
  rw [e] at e';cases e'
  exact ⟨e,f0,f1,f2,d⟩
theorem Inv.k8 {pins pl:List (Addr×Obj)} {σ:St} {H:Hp} {s:Shared} (I:Inv X (pins++pl) σ H s):Inv X pins σ H s:=I.xZ fun p hp=>I.pin p (List.mem_append_right _ (List.mem_append_left _ hp))
theorem AI {iter:Expr} {body:List Stmt} {wi:TI} {g:TG} {tb:TS} {pos:Pos} (hp:PassesOwn (model X.prog X.w) X.A X.env X.xe) (hc:X.calm=true) (hi:PI X tg iter wi) (hg:PG X tg g) (hb:PSs X body tb)
  (hs:∀ x,foldedSetIterable iter X.env x=pure x:=by intro _;rfl):PS X (.For tg iter body [] pos) (HN wi g tb):=by
 intro pins s σ H D I h
 refine wpAny_For (thn (hi pins s σ H _ I h) fun v s1 h1=>thn h1 fun itv s2 h2=>?_) hs
 obtain ⟨it,fp,tn,J,H2,e,I2,T,st2,f2,W,⟨m0,w0⟩,turn⟩:=h2
 subst e
 have stat:∀ {H':Hp},(∀ b∈fp,H' b=none)→∀ b∈fp,sG X pins H' b:=fun hn b hb=>⟨hn b hb,(f2 b hb).2⟩
 refine codeAny_forLoop_any (fun n s'=>∃ i σ' H',Inv X pins σ' H' s'∧tn i s'.heap∧(∀ b∈fp,H' b=none)∧W i n σ' H') ?_ m0 ⟨0,σ,H2,I2,st2,fun b hb=>(f2 b hb).1,w0⟩
 rintro n s3 ⟨i,σ3,H3,I3,st3,fr3,w3⟩
 rcases turn i n σ3 H3 w3 with ⟨stop,qn⟩ | ⟨go,N,hN,step⟩
 ·refine wpAny_passesOwn hp (thn (T.done X rfl rfl rfl hc i pins s3 σ3 H3 X.xe I3 (stat fr3) st3 stop) fun r s4 ⟨hr,I4⟩=>?_)
  subst hr
  exact wpAny_execs_nil ⟨σ3,H3,I4,qn⟩
 ·refine wpAny_passesOwn hp (thn (T.item X rfl rfl rfl hc i pins s3 σ3 H3 X.xe I3 (stat fr3) st3 go) fun r s4 ⟨u,hr,h4⟩=>?_)
  subst hr
  refine wpAny_passesOwn hp (thn h4 fun _ s5 ⟨x,H5,I5,r5,y5,st5,fr5⟩=>?_)
  have I5':=I5.pinned (stat fr5) (T.obj _ _ st5)
  refine wpAny_passesOwn hp (thn (hg _ s5 σ3 H5 x u _ I5' r5 (step x H5 y5)) fun _ s6 ⟨σ6,H6,I6,q6⟩=>?_)
  refine wpAny_passesOwn hp (thn (hb _ s6 σ6 H6 _ I6 q6) fun f s7 q7=>?_)
  have again:∀ {σ7:St} {H7:Hp},Inv X (pins++oR fp s5.heap) σ7 H7 s7→N σ7 H7→∃ m,m<n∧∃ i σ' H',Inv X pins σ' H' s7∧tn i s7.heap∧(∀ b∈fp,H' b=none)∧W i m σ' H':=fun {σ7 H7} I7 n7=>by
   obtain ⟨m',hm,w7⟩:=hN σ7 H7 n7
   refine ⟨m',hm,i+1,σ7,H7,I7.k8,T.keep _ _ _ st5 fun b hb o e=>(I7.pin (b,o) (List.mem_append_right _ (List.mem_append_right _ (gY hb e)))).1,fun b hb=>?_,w7⟩
   obtain ⟨o,e,d⟩:=T.obj _ _ st5 b hb
   exact (I7.pin (b,o) (List.mem_append_right _ (List.mem_append_right _ (gY hb e)))).2.1
  cases f with
  | next=>obtain ⟨σ7,H7,I7,n7⟩:=q7;exact again I7 n7
  | cont=>obtain ⟨σ7,H7,I7,n7⟩:=q7;exact again I7 n7
  | brk=>obtain ⟨σ7,H7,I7,q7⟩:=q7;exact ⟨σ7,H7,I7.k8,q7⟩
  | ret v=>obtain ⟨x7,σ7,H7,I7,r7,q7⟩:=q7;exact ⟨x7,σ7,H7,I7.k8,r7,q7⟩
end
noncomputable abbrev R2:=V→V→Hp→VK→Prop
noncomputable def OpR (X:Cx) (f:Value→Value→Sem Value) (r:R2):Prop:=
 ∀ (pins:List (Addr×Obj)) (s:Shared) (σ:St) (H:Hp) (x y:V) (v u:Value) (Q:VK),Inv X pins σ H s→RelV x v→RelV y u→r x y H Q →
  wpAny (model X.prog X.w) X.A (f v u) (EP X pins σ Q) X.xe s
noncomputable def UnR (X:Cx) (f:Value→Sem Value) (r:V→Hp→VK→Prop):Prop:=
 ∀ (pins:List (Addr×Obj)) (s:Shared) (σ:St) (H:Hp) (x:V) (v:Value) (Q:VK),Inv X pins σ H s→RelV x v→r x H Q →
  wpAny (model X.prog X.w) X.A (f v) (EP X pins σ Q) X.xe s
noncomputable def fW (X:Cx) (f:Value) (r:List V→Hp→VK→Prop):Prop:=
 ∀ (pins:List (Addr×Obj)) (s:Shared) (σ:St) (H:Hp) (xs:List V) (us:List Value) (Q:VK),Inv X pins σ H s→Vals xs us→r xs H Q →
  wpAny (model X.prog X.w) X.A (call f us) (EP X pins σ Q) X.xe s
noncomputable def MM (X:Cx) (r:V→Hp→(Bool→Hp→Prop)→Prop):Prop:=
 ∀ (pins:List (Addr×Obj)) (s:Shared) (σ:St) (H:Hp) (x:V) (v:Value) (Q:Bool→Hp→Prop),Inv X pins σ H s→RelV x v→r x H Q →
  wpAny (model X.prog X.w) X.A (truthy v) (TP X pins σ Q) X.xe s
noncomputable def tOp (r:R2) (ta tb:TE):TE:=fun σ H Q=>ta σ H fun x H1=>tb σ H1 fun y H2=>r x y H2 Q
noncomputable def tUn (r:V→Hp→VK→Prop) (ta:TE):TE:=fun σ H Q=>ta σ H fun x H1=>r x H1 Q
noncomputable def rI (C:Int→Int→Prop) (g:Int→Int→V):R2:=fun x y H Q=>∃ i j,x=.int i∧y=.int j∧C i j∧Q (g i j) H
noncomputable def rI0 (g:Int→Int→V):R2:=fun x y H Q=>∃ i j,x=.int i∧y=.int j∧Q (g i j) H
noncomputable def rU (g:Int→V):V→Hp→VK→Prop:=fun x H Q=>∃ i,x=.int i∧Q (g i) H
section
variable {X:Cx} {a b c:Expr} {ta tb tc:TE} {pos:Pos}
theorem HQ (ha:PE X a ta) (hb:PE X b tb) {pins:List (Addr×Obj)} {s:Shared} {σ:St} {H:Hp} {R:V→V→Hp→Prop} (I:Inv X pins σ H s)
  (h:ta σ H fun x H1=>tb σ H1 fun y H2=>R x y H2) {Q:Value→Shared→Prop} {f:Value→Value→Sem Value}
  (hf:∀ v u s2 x y H2,Inv X pins σ H2 s2→RelV x v→RelV y u→R x y H2→wpAny (model X.prog X.w) X.A (f v u) Q X.xe s2) :
  wpAny (model X.prog X.w) X.A (eval a X.env) (fun v s₁=>wpAny (model X.prog X.w) X.A (eval b X.env) (fun u s₂=>wpAny (model X.prog X.w) X.A (f v u) Q X.xe s₂) X.xe s₁) X.xe s:=by
 refine thn (ha pins s σ H _ I h) fun v s1 ⟨x,H1,I1,r1,q1⟩=>?_
 refine thn (hb pins s1 σ H1 _ I1 q1) fun u s2 ⟨y,H2,I2,r2,q2⟩=>?_
 exact hf v u s2 x y H2 I2 r1 r2 q2
theorem Kw {op:Operator} {r:R2} (ho:OpR X (binaryOp op) r) (ha:PE X a ta) (hb:PE X b tb):PE X (.BinOp a op b pos) (tOp r ta tb):=by
 intro pins s σ H Q I h
 exact wpAny_BinOp (HQ ha hb I h fun v u s2 x y H2 I2 rx ry q=>ho pins s2 σ H2 x y v u Q I2 rx ry q)
theorem Ky {op:UnaryOp} {r:V→Hp→VK→Prop} (ho:UnR X (unaryOp op) r) (ha:PE X a ta):PE X (.UnaryOp op a pos) (tUn r ta):=by
 intro pins s σ H Q I h
 exact UnaryOp_ (thn (ha pins s σ H _ I h) fun v s1 ⟨x,H1,I1,r1,q1⟩=>ho pins s1 σ H1 x v Q I1 r1 q1)
theorem opI {f:Value→Value→Sem Value} {C:Int→Int→Prop} {g:Int→Int→Int}
  (rule:∀ (i j:Int) (t u:Tok) (s:Shared) (Q:Value→Shared→Prop) (E:Value→Shared→Prop),C i j→Q (.int (g i j) s.toks) { s with toks:=s.toks+1 }→wpAny (model X.prog X.w) X.A (f (.int i t) (.int j u)) Q E s) :
  OpR X f (rI C fun i j=>.int (g i j)):=by
 intro pins s σ H x y v u Q I rx ry h
 obtain ⟨i,j,rfl,rfl,hc,q⟩:=h
 obtain ⟨t,rfl⟩:=rx
 obtain ⟨t',rfl⟩:=ry
 exact rule i j t t' s _ _ hc ⟨.int (g i j),H,I.tok _,⟨_,rfl⟩,q⟩
theorem Kz {f:Value→Value→Sem Value} {g:Int→Int→Int}
  (rule:∀ (i j:Int) (t u:Tok) (s:Shared) (Q:Value→Shared→Prop) (E:Value→Shared→Prop),Q (.int (g i j) s.toks) { s with toks:=s.toks+1 }→wpAny (model X.prog X.w) X.A (f (.int i t) (.int j u)) Q E s) :
  OpR X f (rI0 fun i j=>.int (g i j)):=by
 intro pins s σ H x y v u Q I rx ry h
 obtain ⟨i,j,rfl,rfl,q⟩:=h
 obtain ⟨t,rfl⟩:=rx
 obtain ⟨t',rfl⟩:=ry
 exact rule i j t t' s _ _ ⟨.int (g i j),H,I.tok _,⟨_,rfl⟩,q⟩
theorem DP {f:Value→Value→Sem Value} {g:Int→Int→Bool}
  (rule:∀ (i j:Int) (t u:Tok) (s:Shared) (Q:Value→Shared→Prop) (E:Value→Shared→Prop),Q (.bool (g i j)) s→wpAny (model X.prog X.w) X.A (f (.int i t) (.int j u)) Q E s) :
  OpR X f (rI0 fun i j=>.bl (g i j)):=by
 intro pins s σ H x y v u Q I rx ry h
 obtain ⟨i,j,rfl,rfl,q⟩:=h
 obtain ⟨t,rfl⟩:=rx
 obtain ⟨t',rfl⟩:=ry
 exact rule i j t t' s _ _ ⟨.bl (g i j),H,I,rfl,q⟩
noncomputable def KA (i j:Int):Prop:=0≤j∧j≤1000000∧i.natAbs<2 ^ 64
noncomputable def AJ (i j:Int):Prop:=(-(2 ^ 64)<i∧i<2 ^ 64)∨(-(2 ^ 64)<j∧j<2 ^ 64)
theorem AJ.ok {i j:Int} (h:AJ i j):IntMulOk i j:=by
 rcases h with ⟨h1,h2⟩ | ⟨h1,h2⟩
 ·exact .of_left (intBits_le_64 h1 h2)
 ·exact .of_right (intBits_le_64 h1 h2)
theorem HR:OpR X (binaryOp .Add) (rI0 fun i j=>.int (i+j)):=Kz fun _ _ _ _ _ _ _ q=>add_int q
theorem HS:OpR X (binaryOp .Sub) (rI0 fun i j=>.int (i-j)):=Kz fun _ _ _ _ _ _ _ q=>sub_int q
theorem HU:OpR X (binaryOp .Mult) (rI AJ fun i j=>.int (i*j)):=opI fun _ _ _ _ _ _ _ hc q=>mul_int q hc.ok
theorem HV:OpR X (binaryOp .Mod) (rI (fun _ j=>0<j) fun i j=>.int (i % j)):=opI fun i j _ _ _ _ _ hc q=>by
 have h1:(0:Int)<j:=hc
 exact mod_int' (by omega) (by rw [Int.fmod_eq_emod_of_nonneg i (by omega)];exact q)
theorem HX:OpR X (binaryOp .Pow) (rI KA fun i j=>.int (i ^ j.toNat)):=opI fun _ _ _ _ _ _ _ hc q=>pow_int_small hc.1 hc.2.1 hc.2.2 q
theorem unI {f:Value→Sem Value} {g:Int→Int}
  (rule:∀ (i:Int) (t:Tok) (s:Shared) (Q:Value→Shared→Prop) (E:Value→Shared→Prop),Q (.int (g i) s.toks) { s with toks:=s.toks+1 }→wpAny (model X.prog X.w) X.A (f (.int i t)) Q E s) :
  UnR X f (rU fun i=>.int (g i)):=by
 intro pins s σ H x v Q I rx h
 obtain ⟨i,rfl,q⟩:=h
 obtain ⟨t,rfl⟩:=rx
 exact rule i t s _ _ ⟨.int (g i),H,I.tok _,⟨_,rfl⟩,q⟩
theorem HY:UnR X (unaryOp .USub) (rU fun i=>.int (-i)):=unI fun _ _ _ _ _ q=>neg_int q
end
section
variable {X:Cx} {a b c:Expr} {ta tb tc:TE} {pos:Pos}
theorem Gg:OpR X (compareOp .Lt) (rI0 fun i j=>.bl (decide (i<j))):=DP fun _ _ _ _ _ _ _ q=>lt_int q
theorem Gh:OpR X (compareOp .LtE) (rI0 fun i j=>.bl (decide (i≤j))):=DP fun _ _ _ _ _ _ _ q=>le_int q
theorem KC:OpR X (compareOp .Gt) (rI0 fun i j=>.bl (decide (j<i))):=DP fun _ _ _ _ _ _ _ q=>gt_int q
theorem KD:OpR X (compareOp .GtE) (rI0 fun i j=>.bl (decide (j≤i))):=DP fun _ _ _ _ _ _ _ q=>ge_int q
theorem OpR.or {f:Value→Value→Sem Value} {r r':R2} (h:OpR X f r) (h':OpR X f r'):OpR X f (fun x y H Q=>r x y H Q∨r' x y H Q):=by
 intro pins s σ H x y v u Q I rx ry q
 rcases q with q | q
 ·exact h pins s σ H x y v u Q I rx ry q
 ·exact h' pins s σ H x y v u Q I rx ry q
theorem gZ (b:Expr) {op:CmpOp} (h:op≠.In:=by decide) (h2:op≠.NotIn:=by decide):behindInMarks op b=false:=by
 have e1:(op == CmpOp.In)=false:=by cases op<;>first | rfl | exact absurd rfl h
 have e2:(op == CmpOp.NotIn)=false:=by cases op<;>first | rfl | exact absurd rfl h2
 cases b<;>simp [behindInMarks,e1,e2]
theorem DQ {op:CmpOp} {r:R2} (ho:OpR X (compareOp op) r) (ha:PE X a ta) (hb:PE X b tb) (hm:behindInMarks op b=false):PE X (.Compare a [op] [b] pos) (tOp r ta tb):=by
 intro pins s σ H Q I h
 exact wpAny_Compare1 (HQ ha hb I h fun v u s2 x y H2 I2 rx ry q=>ho pins s2 σ H2 x y v u Q I2 rx ry q) hm
noncomputable def Gi (t:TE):TT:=fun σ H Q=>t σ H fun x H'=>∃ k,x=.bl k∧Q k H'
theorem DR {op:CmpOp} {r:R2} (ho:OpR X (compareOp op) r) (ha:PE X a ta) (hb:PE X b tb) (hm:behindInMarks op b=false):PT X (.Compare a [op] [b] pos) (Gi (tOp r ta tb)):=by
 intro pins s σ H Q I h
 refine wpAny_isTrue_Compare1 (thn (ha pins s σ H _ I h) fun v s1 ⟨x,H1,I1,r1,q1⟩=>thn (hb pins s1 σ H1 _ I1 q1) fun u s2 ⟨y,H2,I2,r2,q2⟩=>
  thn (ho pins s2 σ H2 x y v u _ I2 r1 r2 q2) fun c s3 ⟨z,H3,I3,r3,k,e,q3⟩=>?_) hm
 subst e
 cases r3
 exact wpAny_truthy_bool ⟨H3,I3,q3⟩
noncomputable def AK (r r':R2) (ta tb tc:TE):TE:=fun σ H Q=>ta σ H fun x H1=>tb σ H1 fun y H2=>r x y H2 fun z H3=>∃ k,z=.bl k ∧
 (if k=true then tc σ H3 fun w' H4=>r' y w' H4 Q else Q (.bl false) H3)
theorem AL {op op':CmpOp} {r r':R2} (ho:OpR X (compareOp op) r) (ho':OpR X (compareOp op') r') (ha:PE X a ta) (hb:PE X b tb) (hc:PE X c tc)
  (hm:lastMarks [op,op'] [b,c]=false:=by with_unfolding_all rfl):PE X (.Compare a [op,op'] [b,c] pos) (AK r r' ta tb tc):=by
 intro pins s σ H Q I h
 refine Compare_chain (thn (ha pins s σ H _ I h) fun v s1 ⟨x,H1,I1,r1,q1⟩=>chain_link (thn (hb pins s1 σ H1 _ I1 q1) fun u s2 ⟨y,H2,I2,r2,q2⟩=>
  thn (ho pins s2 σ H2 x y v u _ I2 r1 r2 q2) fun d s3 ⟨z,H3,I3,r3,k,e,q3⟩=>?_)) hm
 subst e
 cases r3
 refine wpAny_truthy_bool ?_
 cases k with
 | false=>exact ite_ff ⟨.bl false,H3,I3,rfl,q3⟩
 | true=>exact ite_tt (chain_last (thn (hc pins s3 σ H3 _ I3 q3) fun w' s4 ⟨z',H4,I4,r4,q4⟩=>ho' pins s4 σ H4 y z' u w' Q I4 r2 r4 q4))
noncomputable def HZ (K:PySem.W.Frag) (x:V) (H:Hp) (k:Bool):Prop:=
 match x with
 | .non=>k=false
 | .bl b=>k=b
 | .int i=>k=(i != 0)
 | .str y=>y.length≤sizeLine∧k=((y.length:Int) != 0)
 | .byt y=>y.size≤sizeLine∧k=((y.size:Int) != 0)
 | .ref p=>(∃ xs,SqL K H p xs∧k=!xs.isEmpty)∨(∃ xs,SqT K H p xs∧k=!xs.isEmpty)∨∃ kvs,H p=some (.dK kvs)∧k=!kvs.isEmpty
 | _=>False
theorem wz {κ:Type} {kvs:List (κ×V)} {vs:List (κ×Value)} (r:KV kvs vs):(!vs.isEmpty)=!kvs.isEmpty:=by
 cases r<;>rfl
theorem oS {xs:List V} {its:List Value} (r:Vals xs its):(!its.toArray.isEmpty)=!xs.isEmpty:=by
 cases r<;>simp
theorem oU:(sizeLine:Nat)<2 ^ 63:=by rw [sizeLine_eq];decide
theorem H_:MM X (fun x H Q=>∃ k,HZ X.K x H k∧Q k H):=by
 intro pins s σ H x v Q I rx h
 obtain ⟨k,e,q⟩:=h
 have hl:=oU
 have hs:sizeLine=16777216:=sizeLine_eq
 cases x with
 | non=>
  cases rx
  have e':k=false:=e
  subst e'
  exact truthy_none ⟨H,I,q⟩
 | bl b=>
  cases rx
  have e':k=b:=e
  subst e'
  exact wpAny_truthy_bool ⟨H,I,q⟩
 | int i=>
  obtain ⟨t,rfl⟩:=rx
  have e':k=(i != 0):=e
  subst e'
  exact PySem.P.truthy_int ⟨H,I,q⟩
 | str y=>
  obtain ⟨t,rfl⟩:=rx
  obtain ⟨hy,e'⟩:y.length≤sizeLine∧k=((y.length:Int) != 0):=e
  subst e'
  exact PySem.P.truthy_str (by omega) ⟨H,I.tok _,q⟩
 | byt y=>
  obtain ⟨t,rfl⟩:=rx
  obtain ⟨hy,e'⟩:y.size≤sizeLine∧k=((y.size:Int) != 0):=e
  subst e'
  exact PySem.W.truthy_bytes (by omega) ⟨H,I.tok _,q⟩
 | ref p=>
  cases rx
  have e':(∃ xs,SqL X.K H p xs∧k=!xs.isEmpty)∨(∃ xs,SqT X.K H p xs∧k=!xs.isEmpty)∨∃ kvs,H p=some (.dK kvs)∧k=!kvs.isEmpty:=e
  rcases e' with ⟨xs,hx,e'⟩ | ⟨xs,hx,e'⟩ | ⟨kvs,hx,e'⟩
  ·subst e'
   obtain ⟨its,r,pl,hz⟩:=I.list hx
   have hlen:=r.length
   exact wpAny_truthy_list pl.isList (by simp only [List.size_toArray];omega) ⟨H,I.tok _,by rw [oS r];exact q⟩
  ·subst e'
   obtain ⟨its,r,pl,hz⟩:=I.tuple hx
   have hlen:=r.length
   exact truthy_tuple pl (by simp only [List.size_toArray];omega) ⟨H,I.tok _,by rw [oS r];exact q⟩
  ·subst e'
   obtain ⟨hz,hS,vs,r,m⟩:kvs.length≤sizeLine∧(p == sysModules)=false∧∃ vs,KV kvs vs∧s.heap.DictOf (bU X.prog X.w) p vs:=I.hok p _ hx
   have hlen:kvs.length=vs.length:=Paired.length r
   exact wpAny_truthy_dict hS m (by omega) ⟨H,I.tok _,by rw [wz r];exact q⟩
 | _=>exact (show False from e).elim
theorem AM (ha:PE X a ta) (he:∀ whole,isTrue a X.env whole=(do let v ← whole;standAt a.pos;holding [v] (truthy v))) :
  PT X a (fun σ H Q=>ta σ H fun x H'=>∃ k,HZ X.K x H' k∧Q k H'):=by
 intro pins s σ H Q I h
 exact isTrue_plain (thn (ha pins s σ H _ I h) fun v s1 ⟨x,H1,I1,r1,q1⟩=>H_ pins s1 σ H1 x v Q I1 r1 q1) (he _)
theorem vals1 {x:V} {us:List Value} (r:Vals [x] us):∃ u,us=[u]∧RelV x u:=by
 cases r with
 | cons r1 r2=>cases r2;exact ⟨_,rfl,r1⟩
theorem vals2 {x y:V} {us:List Value} (r:Vals [x,y] us):∃ u w',us=[u,w']∧RelV x u∧RelV y w':=by
 cases r with
 | cons r1 r2=>
  cases r2 with
  | cons r3 r4=>cases r4;exact ⟨_,_,rfl,r1,r3⟩
theorem zy (hc:X.calm=true):fW X (.builtin "max") (fun xs H Q=>∃ i j,xs=[.int i,.int j]∧Q (.int (if j>i then j else i)) H):=by
 intro pins s σ H xs us Q I r h
 obtain ⟨i,j,rfl,q⟩:=h
 obtain ⟨u,w',rfl,⟨t,rfl⟩,⟨t',rfl⟩⟩:=vals2 r
 refine max_two_ints (I.ok.hd hc) fun h' tk k=>⟨_,H,I.kept k,?_,q⟩
 by_cases hj:j>i
 ·rw [if_pos hj,if_pos hj];exact ⟨_,rfl⟩
 ·rw [if_neg hj,if_neg hj];exact ⟨_,rfl⟩
theorem zz (hc:X.calm=true):fW X (.builtin "min") (fun xs H Q=>∃ i j,xs=[.int i,.int j]∧Q (.int (if j<i then j else i)) H):=by
 intro pins s σ H xs us Q I r h
 obtain ⟨i,j,rfl,q⟩:=h
 obtain ⟨u,w',rfl,⟨t,rfl⟩,⟨t',rfl⟩⟩:=vals2 r
 refine min_two_ints (I.ok.hd hc) fun h' tk k=>⟨_,H,I.kept k,?_,q⟩
 by_cases hj:j<i
 ·rw [if_pos hj,if_pos hj];exact ⟨_,rfl⟩
 ·rw [if_neg hj,if_neg hj];exact ⟨_,rfl⟩
end
structure Ia (h:Heap) (x dx C:Addr) (mA:Str→Option Value):Prop where
 obj:h.get? x=some (PySem.W.instObj C dx)
 ns:h.Ns1 dx mA
 ne:dx≠x
theorem zA {h:Heap} {dx:Addr} {mA:Str→Option Value} (n:h.Ns1 dx mA):∃ od,h.get? dx=some od∧∀ name,PySem.W.lookIn name od=some (mA name):=by
 obtain ⟨o,es,ep,ho,hd,hk,_,hm⟩:=n
 refine ⟨o,ho,fun name=>?_⟩
 have e:=hm name
 unfold nsFind findBy at e
 rw [← Array.find?_toList] at e
 unfold PySem.W.lookIn
 rw [hd]
 dsimp only
 split
 ·rename_i y q
  rw [q] at e
  exact congrArg some e
 ·rename_i q
  rw [q] at e
  have a:es.toList.any (·.refKey)=false:=by
   rw [List.any_eq_false]
   intro y hy
   obtain ⟨z,t,hkey⟩:=hk y (Array.mem_toList_iff.mp hy)
   simp [DictEntry.refKey,hkey]
  have a':¬ es.toList.any (·.refKey)=true:=by rw [a];exact Bool.false_ne_true
  rw [if_neg a']
  exact congrArg some e
theorem Ia.look {h:Heap} {x dx C:Addr} {mA:Str→Option Value} (I:Ia h x dx C mA):∃ od,PySem.W.InstAt h x (PySem.W.instObj C dx) C (some od)∧∀ name,PySem.W.lookIn name od=some (mA name):=
 let ⟨od,ho,hl⟩:=zA I.ns
 ⟨od,⟨I.obj,rfl,rfl,ho⟩,hl⟩
section
variable {prog:Program} {w:World} {A:Around} {E:Value→Shared→Prop} {s:Shared} {K:PySem.W.Frag} {x dx C f:Addr} {mA:Str→Option Value} {name:Str} {v:Value}
end
theorem oM.some_of {v:V} {o:Option Value} (r:oM (some v) o):∃ u,o=some u∧RelV v u:=by
 cases o with
 | none=>exact (show False from r).elim
 | some u=>exact ⟨u,rfl,r⟩
section
variable {P:Program} {w:World} {H H':Hp} {h h':Heap} {a C dx:Addr} {fs fs':List (Str×V)}
theorem DU (hok:HOk P w H h) (e:H a=some (.ins C dx fs)):∃ mA,Ia h a dx C mA∧(∀ f,oM (fs.lookup f) (mA f))∧PySem.Within mA (fs.map (·.1))∧fs.length≤1000∧H dx=some (.own a):=by
 obtain ⟨d,z,ne,ob,mA,n,r,q⟩:=(show bu P w H h a (.ins C dx fs) from hok a _ e)
 exact ⟨mA,⟨ob,n,ne⟩,r,q,z,d⟩
end
structure Cls (K:PySem.W.Frag) (C:Addr):Prop where
 pg:PySem.W.plainGet K C Str.empty=true
 hd:PySem.W.hasDictIn K C=true
 po:PySem.W.plainOver K C=true
 sa:PySem.W.findIn K (.ref C) "__setattr__" = some (some (.builtin "object.__setattr__"))
theorem Cls.get {K:PySem.W.Frag} {C:Addr} (c:Cls K C) (f:Str):PySem.W.plainGet K C f=true:=c.pg
section
variable {X:Cx} {pins:List (Addr×Obj)} {σ:St} {H:Hp} {s:Shared} {a C dx:Addr} {fs:List (Str×V)} {f:Str} {v:V} {A:Around} {E:Value→Shared→Prop}
end
section
variable {X:Cx} {o e value:Expr} {f:Str} {pos pos' tpos:Pos} {ta tv:TE}
end
section
variable {X:Cx} {pins:List (Addr×Obj)} {σ:St} {H:Hp} {s:Shared} {A:Around} {E:Value→Shared→Prop} {Q:Value→Shared→Prop} {c:Value} {b:Bool}
inductive k9 (K:PySem.W.Frag) (H:Hp):V→Value→Prop where
 | non:k9 K H .non (.type "NoneType")
 | bl (x:Bool):k9 K H (.bl x) (.type "bool")
 | int (i:Int):k9 K H (.int i) (.type "int")
 | str (x:Str):k9 K H (.str x) (.type "str")
 | flt (x:UInt64):k9 K H (.flt x) (.type "float")
 | lst {a:Addr} {xs:List V} (e:H a=some (.lst xs)):k9 K H (.ref a) (.type "list")
 | frz {a:Addr} {o:Obj} {xs:List V} (e:H a=some (.frz o (.lst xs))):k9 K H (.ref a) (.type "list")
 | tup {a:Addr} {xs:List V} (e:H a=some (.tup xs)):k9 K H (.ref a) (.type "tuple")
 | dK {a:Addr} {kvs:List (Key×V)} (e:H a=some (.dK kvs)):k9 K H (.ref a) (.type "dict")
 | dT {a:Addr} {kvs:List (List Key×V)} (e:H a=some (.dT kvs)):k9 K H (.ref a) (.type "dict")
 | ins {a C dx:Addr} {fs:List (Str×V)} (e:H a=some (.ins C dx fs)) (cl:Cls K C) (ha:PySem.W.findIn K (.ref C) "__class__" = some (some (.builtin "object.__class__")))
   (hn:PySem.W.specialIn K (.builtin "object.__class__") "__get__" = some (some (.builtin "getset_descriptor.__get__"))) (htk:PySem.W.takesIn K (.builtin "object.__class__")=some true)
   (hm:PySem.W.mroIn K C (.type "object")=some true):k9 K H (.ref a) (.ref C)
theorem zB {x:V} {u t:Value} (I:Inv X pins σ H s) (rx:RelV x u) (ty:k9 X.K H x t) (e:PySem.W.kitOne X.K t c=some b) (h:∀ tk,Q (.bool b) { s with toks:=tk }) :
  wpAny (model X.prog X.w) A (call (.builtin "isinstance") [u,c]) Q E s:=by
 cases ty with
 | non=>cases (show u=Value.none from rx);exact PySem.W.kia_one PySem.W.kitx_none I.kIn True.intro e (fun z=>nomatch z) h
 | bl y=>cases (show u=Value.bool y from rx);exact PySem.W.kia_one PySem.W.kitx_bool I.kIn True.intro e (fun z=>nomatch z) h
 | int i=>obtain ⟨t,q⟩:=(show ∃ t,u=Value.int i t from rx);cases q;exact PySem.W.kia_one PySem.W.kitx_int I.kIn True.intro e (fun z=>nomatch z) h
 | str y=>obtain ⟨t,q⟩:=(show ∃ t,u=Value.str y t from rx);cases q;exact PySem.W.kia_one PySem.W.kitx_str I.kIn True.intro e (fun z=>nomatch z) h
 | flt y=>obtain ⟨t,q⟩:=(show ∃ t,u=Value.float y t from rx);cases q;exact PySem.W.kia_one PySem.W.kitx_float I.kIn True.intro e (fun z=>nomatch z) h
 | @lst a xs ea=>
  cases (show u=Value.ref a from rx)
  obtain ⟨_,_,n,_,h1⟩:=(show bu X.prog X.w H s.heap a (.lst xs) from I.hok a _ ea)
  exact PySem.W.kia_one PySem.W.kitx_list I.kIn ⟨_,h1,rfl⟩ e (fun z=>nomatch z) h
 | @frz a ob xs ea=>
  cases (show u=Value.ref a from rx)
  obtain ⟨_,_,_,n,_,h1⟩:=(show bu X.prog X.w H s.heap a (.frz ob (.lst xs)) from I.hok a _ ea)
  exact PySem.W.kia_one PySem.W.kitx_list I.kIn ⟨_,h1,rfl⟩ e (fun z=>nomatch z) h
 | @tup a xs ea=>
  cases (show u=Value.ref a from rx)
  obtain ⟨_,_,_,p⟩:=(show bu X.prog X.w H s.heap a (.tup xs) from I.hok a _ ea)
  obtain ⟨o,h1,h2,_⟩:=p
  exact PySem.W.kia_one PySem.W.kitx_tuple I.kIn ⟨o,h1,h2⟩ e (fun z=>nomatch z) h
 | @dK a kvs ea=>
  cases (show u=Value.ref a from rx)
  obtain ⟨_,_,vs,_,p⟩:=(show bu X.prog X.w H s.heap a (.dK kvs) from I.hok a _ ea)
  obtain ⟨o,es,ep,h1,h2,_⟩:=p
  exact PySem.W.kia_one PySem.W.kitx_dict I.kIn ⟨o,h1,h2.1⟩ e (fun z=>nomatch z) h
 | @dT a kvs ea=>
  cases (show u=Value.ref a from rx)
  obtain ⟨_,_,xs,_,o,es,ep,h1,h2,_⟩:=(show bu X.prog X.w H s.heap a (.dT kvs) from I.hok a _ ea)
  exact PySem.W.kia_one PySem.W.kitx_dict I.kIn ⟨o,h1,h2.1⟩ e (fun z=>nomatch z) h
 | @ins a C dx fs ea cl ha hn htk hm=>
  cases (show u=Value.ref a from rx)
  obtain ⟨mA,O,_⟩:=DU I.hok ea
  obtain ⟨od,J,_⟩:=O.look
  exact PySem.W.kia_one (PySem.W.kitx_own (cl.get _) cl.hd ha hn htk hm) I.kIn J e (fun z=>nomatch z) h
end
structure bL (k:Nat) (A:Around):Prop where
 hd:A.handled=none
 dp:A.depth+3*k+5<recursionLimit
 un:A.units+16*k+200<cLine
theorem bL.mono {j k:Nat} {A:Around} (r:bL k A) (h:j≤k):bL j A:=⟨r.hd,by have:=r.dp;omega,by have:=r.un;omega⟩
theorem bL.deeper {k:Nat} {A:Around} (r:bL (k+1) A) (env:Env):bL k (A.deeper env):=
 ⟨r.hd,by have:=r.dp;show A.depth+1+3*k+5<_;omega,by have:=r.un;show A.units+3+16*k+200<_;omega⟩
theorem bL.depth {k:Nat} {A:Around} (r:bL k A):A.depth<recursionLimit:=by have:=r.dp;omega
theorem bL.units {k:Nat} {A:Around} (r:bL k A):A.units+64<cLine:=by have:=r.un;omega
noncomputable def zC:TA:=fun _ H Q=>Q [] H
noncomputable def qZ (ta:TE) (tr:TA):TA:=fun σ H Q=>ta σ H fun x H1=>tr σ H1 fun xs H2=>Q (x::xs) H2
section
variable {X:Cx} {e:Expr} {es:List Expr} {te:TE} {t:TA} {pos:Pos}
theorem oV:PA X [] zC:=fun _ _ _ _ H Q I h=>Calls.spliced_nil ⟨[],H,I,.nil,h⟩
theorem g4 (ha:PE X e te) (hr:PA X es t) (hs:starEach (e::es) X.env=(false,eval e X.env)::starEach es X.env:=by rfl):PA X (e::es) (qZ te t):=by
 intro pos pins s σ H Q I h
 rw [hs]
 show wpAny _ _ (spliced ((false,eval e X.env)::backTo pos (starEach es X.env))) _ _ s
 refine Calls.spliced_cons (thn (ha pins s σ H _ I h) fun u s1 ⟨x,H1,I1,r1,q1⟩=>?_)
 exact thn (hr pos pins s1 σ H1 _ I1 q1) fun us s2 ⟨xs,H2,I2,r2,q2⟩=>⟨x::xs,H2,I2,.cons r1 r2,q2⟩
noncomputable def KG (t:TA):TE:=fun σ H Q=>t σ H fun xs H1=>xs.length≤sizeLine∧∀ p,H1 p=none→Q (.ref p) (upd H1 p (.tup xs))
noncomputable def DV (t:TA):TE:=fun σ H Q=>t σ H fun xs H1=>xs.length≤sizeLine∧∀ p,H1 p=none→Q (.ref p) (upd H1 p (.lst xs))
theorem Ib {x1} (h:PA X es t):PE X (.Tuple es x1 pos) (KG t):=by
 intro pins s σ H Q I hq
 refine wpAny_Tuple_spliced (thn (h pos pins s σ H _ I hq) fun us s1 ⟨xs,H1,I1,r,z,q⟩=>⟨by rw [← r.length];exact z,?_⟩)
 have hf:H1 s1.heap.objs.size=none:=I1.hok.fresh (Nat.le_refl _)
 refine ⟨.ref s1.heap.objs.size,upd H1 s1.heap.objs.size (.tup xs),I1.laid (t':=s1.toks) (fun b u e=>Heap.get?_push_of_some _ e) (Nat.le_refl _) ?_,rfl,q _ hf⟩
 exact ⟨z,us,r,⟨_,Heap.get?_push_size _ rfl,rfl,_,rfl⟩⟩
theorem AO (h:PA X es t):PE X (.List es pos) (DV t):=by
 intro pins s σ H Q I hq
 refine wpAny_List_spliced (thn (h pos pins s σ H _ I hq) fun us s1 ⟨xs,H1,I1,r,z,q⟩=>⟨by rw [← r.length];exact z,?_⟩)
 have hf:H1 s1.heap.objs.size=none:=I1.hok.fresh (Nat.le_refl _)
 refine ⟨.ref s1.heap.objs.size,upd H1 s1.heap.objs.size (.lst xs),I1.laid (t':=s1.toks) (fun b u e=>Heap.get?_push_of_some _ e) (Nat.le_refl _) ?_,rfl,q _ hf⟩
 exact ⟨z,us,0,r,Heap.get?_push_size _ rfl⟩
end
noncomputable abbrev Sp:=List V→Hp→VK→XK→Prop
noncomputable abbrev CXT:=List Env→Hp→Shared→XK→Value→Shared→Prop
structure DX (P:Program) (w:World) (K:PySem.W.Frag) (mg:Str→Option Value) (base:Heap) (A:Around) (outer:List Env) (s:Shared) (H:Hp):Prop where
 frames:A.frames=some outer
 mod:Mod K mg base
 bs:∀ b o,base.get? b=some o→s.heap.get? b=some o∧H b=none
 bsz:base.objs.size≤s.heap.objs.size
 nY:s.heap.FunFrames base outer
 frf:∀ b∈frs outer,H b=none
 hok:HOk P w H s.heap
 bare:AllBare s.gens
noncomputable def CE (outer:List Env) (P:Program) (w:World) (H:Hp) (s:Shared) (Q:VK) (u:Value) (s':Shared):Prop:=
 ∃ v H',s'.os=s.os∧AllBare s'.gens∧Un (frs outer) [] H H' s.heap s'.heap∧HOk P w H' s'.heap∧RelV v u∧Q v H'
noncomputable def CR (CX:CXT) (outer:List Env) (P:Program) (w:World) (H:Hp) (s:Shared) (Q:VK) (E:XK) (r:Result) (s':Shared):Prop:=
 match r with
 | .ok (.ret u)=>CE outer P w H s Q u s'
 | .ok _=>False
 | .error e=>CX outer H s E e s'
structure aW (P:Program) (w:World) (K:PySem.W.Frag) (mg:Str→Option Value) (base:Heap) (CX:CXT) (k:Nat) (f:Addr) (fd:FuncData) (ps:List Str) (sp:Sp):Prop where
 len:∀ vs H Q E,sp vs H Q E→vs.length=ps.length
 run:∀ (A:Around) (outer:List Env) (s:Shared) (H:Hp) (args:Args) (us:List Value) (vs:List V) (Q:VK) (E:XK),bL k A→DX P w K mg base A outer s H→BindsTo s fd args (ps.zip us)→Vals vs us→sp vs H Q E →
  codeAny (model P w) A (.call (.ref f) args) (CR CX outer P w H s Q E) s
section
variable {X:Cx} {pins:List (Addr×Obj)} {σ:St} {H:Hp} {s s':Shared}
theorem Inv.Ic (I:Inv X pins σ H s):DX X.prog X.w X.K X.mg X.base X.A X.stack s H:=
 ⟨I.ok.frames,I.ok.mod,I.bs,Nat.le_trans I.ok.bsz I.sz,I.stack,I.sD,I.hok,I.bare⟩
theorem Inv.after {Q:VK} {u:Value} (I:Inv X pins σ H s) (h:CE X.stack X.prog X.w H s Q u s'):EP X pins σ Q u s':=by
 obtain ⟨v,H',os,bare,un,hok,r,q⟩:=h
 obtain ⟨hh,g,d,t,os'⟩:=s'
 obtain rfl:os'=s.os:=os
 exact ⟨v,H',I.call (h':=hh) (g':=g) (d':=d) (t':=t) (ch:=[]) un hok bare (fun b z=>absurd z (by simp)),r,q⟩
end
noncomputable def uC (sp:Sp) (dvs:List V) (E:XK) (t:TA):TE:=fun σ H Q=>t σ H fun vs H1=>sp (vs++dvs) H1 Q E
noncomputable def Binds (K:PySem.W.Frag) (fd:FuncData) (ps:List Str) (ds:List Value):Prop:=
 ∀ (s:Shared) (us:List Value),K.In s.heap→(us++ds).length=ps.length→BindsTo s fd ⟨us,[]⟩ (ps.zip (us++ds))
theorem Binds.all {K:PySem.W.Frag} {fd:FuncData} {ps:List Str} (h:∀ us:List Value,us.length=ps.length→bindArgs fd ⟨us,[]⟩=pure (ps.zip us)):Binds K fd ps []:=fun s us _ hl=>by
 rw [List.append_nil] at hl ⊢
 exact .of_eq (h us hl)
noncomputable def Passes (CX:CXT) (X:Cx) (E:XK):Prop:=∀ (pins:List (Addr×Obj)) (σ:St) (H:Hp) (s:Shared) (e:Value) (s':Shared),Inv X pins σ H s→CX X.stack H s E e s'→X.xe e s'
section
variable {X:Cx} {CX:CXT} {k:Nat} {f C:Addr} {fd:FuncData} {ps:List Str} {sp:Sp} {dvs:List V} {ds:List Value} {E:XK} {x m:Str} {p pos apos:Pos} {e o:Expr} {es:List Expr} {ta:TE} {t:TA}
theorem Ie {pins:List (Addr×Obj)} {σ:St} {H:Hp} {s:Shared} {Q:VK} {us:List Value} {vs:List V} (F:aW X.prog X.w X.K X.mg X.base CX k f fd ps sp) (hr:bL k X.A) (hb:Binds X.K fd ps ds) (hd:Vals dvs ds) (hx:Passes CX X E)
  (I:Inv X pins σ H s) (r:Vals vs us) (h:sp (vs++dvs) H Q E):wpAny (model X.prog X.w) X.A (call (.ref f) us) (EP X pins σ Q) X.xe s:=by
 have r2:Vals (vs++dvs) (us++ds):=r.append hd
 have hl:(us++ds).length=ps.length:=by rw [← r2.length];exact F.len _ _ _ _ h
 refine wpAny_call (codeAny_mono (F.run X.A X.stack s H ⟨us,[]⟩ (us++ds) (vs++dvs) Q E hr I.Ic (hb s us I.kIn hl) r2 h) fun r s' hq=>?_)
 cases r with
 | error e=>exact hx pins σ H s e s' I hq
 | ok fl=>
  cases fl with
  | ret u=>exact I.after hq
  | next=>exact False.elim hq
  | brk=>exact False.elim hq
  | cont=>exact False.elim hq
theorem oE (F:aW X.prog X.w X.K X.mg X.base CX k f fd ps sp) (hr:bL k X.A) (hg:Gl X x) (hm:X.mg x=some (.ref f)) (hk:PySem.W.keepIn X.K (.ref f)=true) (hb:Binds X.K fd ps ds) (hd:Vals dvs ds) (hx:Passes CX X E)
  (ha:PA X (e::es) t) (hdb:(x == ("__debug__" : Str))=false:=by decide) (he:starEach (e::es) X.env=(false,eval e X.env)::starEach es X.env:=by rfl) (hpl:(backTo pos (starEach es X.env)).any (·.1)=false:=by rfl) :
  PE X (.Call (.Name x p) (e::es) [] pos) (uC sp dvs E t):=by
 intro pins s σ H Q I h
 refine wpAny_Call_Name_kw (jG I hg hm ?_ hdb)
 refine PySem.W.callWith_K (h₀:=X.base) I.ok.mod.kin hk (thn (ha pos pins s σ H _ I h) fun us s1 ⟨vs,H1,I1,r,q⟩=>⟨I1.kIn,?_⟩) he hpl
 exact Ie F hr hb hd hx I1 r q
end
section
variable {X:Cx} {CX:CXT} {k:Nat} {f C:Addr} {fd:FuncData} {ps ks:List Str} {sp:Sp} {E:XK} {x m:Str} {p pos apos kpos:Pos} {e o:Expr} {es:List Expr} {kws:List Keyword} {te ta:TE} {t tk:TA} {nm:Option Str}
variable {g:List Value→List Value→List Value} {gV:List V→List V→List V}
end
structure aK (N P:List Str) (sc:Scope):Prop where
 kind:sc.kind=.function
 co:sc.isCoroutine=false
 gen:sc.isGenerator=false
 nd:N.Nodup
 pre:N.take P.length=P
 par:∀ x∈P,sc.names.lookup x=some .local∨sc.names.lookup x=some .cell
 Ig:∀ y∈sc.names,y.2≠.free
theorem q_ {kindOf:Str→Option NameKind} {x:Str}:∀ {binds:List (Str×Value)} {m:Str→Option Value},(∀ v,(x,v)∉binds)→bindL kindOf binds m x=m x
 | [],_,_=>rfl
 | (n,v)::r,m,h=>by
  unfold bindL
  rw [q_ fun w hw=>h w (List.mem_cons_of_mem _ hw)]
  split
  ·have:x≠n:=by rintro rfl;exact h v List.mem_cons_self
   simp [this]
  ·rfl
theorem rj {kindOf:Str→Option NameKind} {x:Str}:∀ {binds:List (Str×Value)} {m:Str→Option Value},(∀ v,(x,v)∉binds)→bindC kindOf binds m x=m x
 | [],_,_=>rfl
 | (n,v)::r,m,h=>by
  unfold bindC
  rw [rj fun w hw=>h w (List.mem_cons_of_mem _ hw)]
  split
  ·rfl
  ·have:x≠n:=by rintro rfl;exact h v List.mem_cons_self
   simp [this]
theorem rm {kindOf:Str→Option NameKind} {x:Str} {v:Value}:∀ {P:List Str} {vs:List Value} {i:Nat} {m:Str→Option Value},P.Nodup→P[i]?=some x→vs[i]?=some v→kindOf x=some .local →
  bindL kindOf (P.zip vs) m x=some v
 | [],_,_,_,_,h,_,_=>by simp at h
 | _::_,[],_,_,_,_,h,_=>by simp at h
 | p::P,w::vs,0,m,nd,h1,h2,hk=>by
  simp at h1 h2;subst h1;subst h2
  show bindL kindOf ((p,w)::P.zip vs) m p=_
  unfold bindL
  rw [q_ fun v hv=>(List.nodup_cons.mp nd).1 (List.of_mem_zip hv).1,if_pos hk]
  simp
 | p::P,w::vs,i+1,m,nd,h1,h2,hk=>by
  show bindL kindOf ((p,w)::P.zip vs) m x=_
  unfold bindL
  exact rm (i:=i) (List.nodup_cons.mp nd).2 (by simpa using h1) (by simpa using h2) hk
theorem rq {kindOf:Str→Option NameKind} {x:Str} {v:Value}:∀ {P:List Str} {vs:List Value} {i:Nat} {m:Str→Option Value},P.Nodup→P[i]?=some x→vs[i]?=some v→kindOf x≠some .local →
  bindC kindOf (P.zip vs) m x=some v
 | [],_,_,_,_,h,_,_=>by simp at h
 | _::_,[],_,_,_,_,h,_=>by simp at h
 | p::P,w::vs,0,m,nd,h1,h2,hk=>by
  simp at h1 h2;subst h1;subst h2
  show bindC kindOf ((p,w)::P.zip vs) m p=_
  unfold bindC
  rw [rj fun v hv=>(List.nodup_cons.mp nd).1 (List.of_mem_zip hv).1,if_neg hk]
  simp
 | p::P,w::vs,i+1,m,nd,h1,h2,hk=>by
  show bindC kindOf ((p,w)::P.zip vs) m x=_
  unfold bindC
  exact rq (i:=i) (List.nodup_cons.mp nd).2 (by simpa using h1) (by simpa using h2) hk
noncomputable def start (N:List Str) (vs:List V):St:=vs.map some++List.replicate (N.length-vs.length) none
noncomputable def g6 (CX:CXT) (P:Program) (w:World) (K:PySem.W.Frag) (mg:Str→Option Value) (base:Heap) (N:List Str) (qual:Str) (scope:Scope) (f:Addr) (cd:Value) (A:Around) (outer:List Env) (s:Shared) (H:Hp) (E:XK):Cx where
 prog:=P
 w:=w
 K:=K
 mg:=mg
 base:=base
 A:=A.deeper (envOfC qual scope s.heap.objs.size f cd)
 N:=N
 s₀:=s
 H₀:=H
 env:=envOfC qual scope s.heap.objs.size f cd
 outer:=outer
 stack:=envOfC qual scope s.heap.objs.size f cd::outer
 ex:=[]
 calm:=true
 fn:=fun _=>true
 pn:=[]
 xe:=fun e s'=>wpAny (model P w) (A.deeper (envOfC qual scope s.heap.objs.size f cd)) (leaving (envOfC qual scope s.heap.objs.size f cd) e) (fun _ s''=>CX outer H s E e s'') (fun e' s''=>CX outer H s E e' s'') s'
theorem uD {sc:Scope} {n:Nat} {x:Str} (h:sc.names.lookup x=some .cell):∃ c,(cellsFrom n sc.names []).lookup x=some c:=by
 have q:=PySem.W.cellsFrom_some sc.names n [] (.inl h)
 exact Option.isSome_iff_exists.mp q
theorem zD {CX:CXT} {P:Program} {w:World} {K:PySem.W.Frag} {mg:Str→Option Value} {base:Heap} {N ps:List Str} {qual:Str} {scope:Scope} {f:Addr} {cd:Value} {A:Around} {outer:List Env} {s s1:Shared} {H:Hp} {E:XK} {us:List Value} {vs:List V}
  (S:aK N ps scope) (hd:A.handled=none) (e0:DX P w K mg base A outer s H) (hl:vs.length=ps.length) (r:Vals vs us)
  (x:InCallC s s.heap.objs.size (bindL (envOfC qual scope s.heap.objs.size f cd).kindOf (ps.zip us) fun _=>none) (cellsFrom (s.heap.objs.size+1) scope.names []) (bindC (envOfC qual scope s.heap.objs.size f cd).kindOf (ps.zip us) fun _=>none) s1) :
  Inv (g6 CX P w K mg base N qual scope f cd A outer s H E) [] (start N vs) H s1:=by
 have hpl:ps.length≤N.length:=by have:=congrArg List.length S.pre;rw [List.length_take] at this;omega
 obtain ⟨h1,tk,rfl,hk⟩:=x.done
 have noA:∀ b:Addr,b∉(g6 CX P w K mg base N qual scope f cd A outer s H E).ex:=fun b z=>absurd (show b∈([]:List Addr) from z) (by simp)
 refine ⟨⟨e0.mod,S.kind,rfl,rfl,Nat.le_refl _,fun y z c h1 h2=>?_,fun y hy=>?_,fun y c _ h=>?_,fun _=>hd,Around.frames_deeper e0.frames,.inr ⟨rfl,rfl⟩,fun b z=>absurd z (noA b),e0.bs,e0.bsz,fun b _ _=>noA b,fun b z=>absurd z (noA b),e0.nY,e0.frf⟩,
  rfl,e0.bare,Un.kept hk,⟨_,x.toInCall.ns,fun i y v h1 h2 h3=>?_⟩,fun y c h=>⟨_,x.cell y c h⟩,e0.hok.fresh (Nat.le_refl _),fun y c h=>?_,fun p hp=>absurd (show p∈([]:List (Addr×Obj)) from hp) (by simp),e0.hok.kept hk,?_⟩
 ·exact name_of_addr x.apart (PySem.mem_of_lookup h1) (PySem.mem_of_lookup h2)
 ·have hy:scope.names.lookup y=some .cell∨scope.names.lookup y=some .free:=hy
  rcases hy with hy | hy
  ·exact uD hy
  ·exact absurd rfl (S.Ig _ (PySem.mem_of_lookup hy))
 ·exact Nat.le_of_lt (x.above y c (PySem.mem_of_lookup h))
 ·have hi:i<vs.length:=by
   unfold start at h2
   by_cases hi:i<vs.length
   ·exact hi
   ·rw [List.getElem?_append_right (by simpa using hi)] at h2
    rw [List.getElem?_replicate] at h2
    split at h2<;>cases h2
  have ha:vs[i]?=some v:=by
   unfold start at h2
   rw [List.getElem?_append_left (by simpa using hi),List.getElem?_map] at h2
   cases e:vs[i]? with
   | none=>rw [e] at h2;cases h2
   | some a=>rw [e] at h2;cases h2;rfl
  obtain ⟨u,hu,rv⟩:=r.get ha
  have hp:ps[i]?=some y:=by
   rw [← S.pre,List.getElem?_take_of_lt (by omega)];exact h1
  have ndP:ps.Nodup:=by rw [← S.pre];exact S.nd.sublist (List.take_sublist _ _)
  refine ⟨u,rv,?_⟩
  rcases S.par y (List.mem_of_getElem? hp) with k | k
  ·exact .inl ⟨k,rm ndP hp hu k⟩
  ·obtain ⟨c,e⟩:=uD (n:=s.heap.objs.size+1) k
   refine .inr ⟨.inl k,c,e,?_⟩
   have q:=x.cell y c e
   rw [rq ndP hp hu (by show scope.names.lookup y≠_;rw [k];decide)] at q
   exact q
 ·exact e0.hok.fresh (Nat.le_of_lt (x.above y c (PySem.mem_of_lookup h)))
 ·unfold start
  show _=N.length
  rw [List.length_append,List.length_map,List.length_replicate]
  omega
theorem yc {CX:CXT} {P:Program} {w:World} {K:PySem.W.Frag} {mg:Str→Option Value} {base:Heap} {k:Nat} {f:Addr} {name qual:Str} {params:Arguments} {body:List Stmt} {scope:Scope} {dV kV doc pm cdv ct oc:Value} {an od:Option Addr}
  {osl:Array (Option Value)} {N ps:List Str} {sp:Sp} (lk:K.lookup f=some ⟨oc,od,.func (PySem.W.fnOf name qual params body scope dV kV doc pm an cdv ct),osl⟩) (hcd:PySem.W.codeIn K cdv qual=true) (S:aK N ps scope)
  (len:∀ vs H Q E,sp vs H Q E→vs.length=ps.length)
  (hbody:∀ (A:Around) (outer:List Env) (s:Shared) (H:Hp) (vs:List V) (Q:VK) (E:XK),bL k (A.deeper (envOfC qual scope s.heap.objs.size f cdv))→sp vs H Q E →
   ∃ t,PSs (g6 CX P w K mg base N qual scope f cdv A outer s H E) body t∧t { nx:=fun _ H'=>Q .non H',rt:=Q } (start N vs) H) :
  aW P w K mg base CX (k+1) f (PySem.W.fnOf name qual params body scope dV kV doc pm an cdv ct) ps sp:=by
 refine ⟨len,fun A outer s H args us vs Q E hr e0 hb r hsp=>?_⟩
 have hl:=len _ _ _ _ hsp
 have KX:K.In s.heap:=e0.mod.kin.keeps fun b o e=>(e0.bs b o e).1
 have lim:s.heap.NoLimit:=e0.mod.nolimit.keeps fun b o e=>(e0.bs b o e).1
 have hkind:∀ y∈ps.zip us,scope.names.lookup y.1=some .local∨(scope.names.lookup y.1=some .cell∧((cellsFrom (s.heap.objs.size+1) scope.names []).lookup y.1).isSome=true):=fun ⟨n,v⟩ hy=>by
  rcases S.par n (List.of_mem_zip hy).1 with q | q
  ·exact .inl q
  ·exact .inr ⟨q,PySem.W.cellsFrom_some _ _ _ (.inl q)⟩
 refine codeAny_call_function hr.depth (KX _ _ lk) rfl S.co S.gen rfl (PySem.W.codeRec_of KX hcd) (hb _ _ _ _ ?_)
 refine wpAny_newFunctionEnv_cells S.kind hkind fun env he s1 x=>?_
 subst he
 refine ⟨lim.keeps x.toInCall.keep,codeAny_func ?_⟩
 obtain ⟨t,ht,hq⟩:=hbody A outer s H vs Q E (hr.deeper _) hsp
 have I:Inv (g6 CX P w K mg base N qual scope f cdv A outer s H E) [] (start N vs) H s1:=zD S hr.hd e0 hl r x
 refine wpAny_mono (ht [] s1 (start N vs) H _ I hq) (fun fl s' hs=>?_) fun e s' hs=>hs
 have fin:∀ {σ':St} {H':Hp} {v:V} {u:Value},Inv (g6 CX P w K mg base N qual scope f cdv A outer s H E) [] σ' H' s'→RelV v u→Q v H'→CE outer P w H s Q u s':=
  fun {σ' H' v u} J rv q=>⟨v,H',J.os,J.bare,J.base,J.hok,rv,q⟩
 cases fl with
 | ret u=>
  obtain ⟨v,σ',H',J,rv,q⟩:=hs
  exact fin J rv q
 | next=>
  obtain ⟨σ',H',J,q⟩:=hs
  exact fin (v:=V.non) (u:=Value.none) J rfl q
 | brk=>
  obtain ⟨_,_,_,q⟩:=hs
  exact False.elim q
 | cont=>
  obtain ⟨_,_,_,q⟩:=hs
  exact False.elim q
section
variable {X:Cx} {x:Str} {p pos:Pos} {e:Expr} {es:List Expr} {t:TA} {id T:String} {r:List V→Hp→VK→Prop}
noncomputable def tCB (r:List V→Hp→VK→Prop) (t:TA):TE:=fun σ H Q=>t σ H fun vs H1=>r vs H1 Q
theorem k_ (hc:fW X (.builtin id) r) (hg:Gl X x) (hm:X.mg x=none) (hv:bootBuiltins x=some (.builtin id)) (ha:PA X (e::es) t) (hn:x ≠ "__name__" := by decide) (hdb:(x == ("__debug__" : Str))=false:=by decide)
  (he:starEach (e::es) X.env=(false,eval e X.env)::starEach es X.env:=by rfl) (hpl:(backTo pos (starEach es X.env)).any (·.1)=false:=by rfl):PE X (.Call (.Name x p) (e::es) [] pos) (tCB r t):=by
 intro pins s σ H Q I h
 refine wpAny_Call_Name_kw (gp I hg hm hv ?_ hn hdb)
 exact PyProof.Rows.callWith_builtin1 (thn (ha pos pins s σ H _ I h) fun us s1 ⟨vs,H1,I1,r1,q1⟩=>hc pins s1 σ H1 vs us Q I1 r1 q1) he hpl
theorem zE (hc:fW X (.type T) r) (hg:Gl X x) (hm:X.mg x=none) (hv:bootBuiltins x=some (.type T)) (ha:PA X (e::es) t) (hn:x ≠ "__name__" := by decide) (hdb:(x == ("__debug__" : Str))=false:=by decide)
  (he:starEach (e::es) X.env=(false,eval e X.env)::starEach es X.env:=by rfl) (hpl:(backTo pos (starEach es X.env)).any (·.1)=false:=by rfl):PE X (.Call (.Name x p) (e::es) [] pos) (tCB r t):=by
 intro pins s σ H Q I h
 refine wpAny_Call_Name_kw (gp I hg hm hv ?_ hn hdb)
 exact PyProof.Rows.callWith_type1 (thn (ha pos pins s σ H _ I h) fun us s1 ⟨vs,H1,I1,r1,q1⟩=>hc pins s1 σ H1 vs us Q I1 r1 q1) he hpl
end
end L2
namespace HT
open PySem PyProof.Rows
section
open PySem.SeqAt
open PySem.AutoSeq1 (wpAny_loadPart')
open PySem.MeetsSeq PySem.MeetsSeq2 PySem.MeetsSeq3
end
section
variable {prog:Program} {w:World} {A:Around} {E:Value→Shared→Prop} {s:Shared}
noncomputable def sIx (n d:Nat):Option Int→Nat
 | none=>d
 | some v=>if v<0 then (v+(n:Int)).toNat else min v.toNat n
theorem Ih (n d:Nat) (hd:d≤n) (o:Option Int):sIx n d o≤n:=by
 cases o with
 | none=>exact hd
 | some v=>
  show (if v<0 then (v+(n:Int)).toNat else min v.toNat n)≤n
  by_cases hv:v<0
  ·rw [if_pos hv];omega
  ·rw [if_neg hv];exact Nat.min_le_right _ _
theorem yd (v:Int) (n d:Nat):(if v<0 then max (v+(n:Int)) 0 else min v (n:Int))=((sIx n d (some v):Nat):Int):=by
 show (if v<0 then max (v+(n:Int)) 0 else min v (n:Int))=(((if v<0 then (v+(n:Int)).toNat else min v.toNat n):Nat):Int)
 by_cases hv:v<0
 ·simp only [if_pos hv];omega
 ·simp only [if_neg hv];omega
theorem wA (lo hi:Option Int) (n:Nat):Builtin.Slice.sliceAdjust lo hi 1 (n:Int)=(((sIx n 0 lo:Nat):Int),((sIx n n hi:Nat):Int)):=by
 have h1:¬ ((1:Int)<0):=by omega
 unfold Builtin.Slice.sliceAdjust
 simp only [h1,if_false]
 refine Prod.ext ?_ ?_
 ·cases lo with
  | none=>rfl
  | some v=>exact yd v n 0
 ·cases hi with
  | none=>rfl
  | some v=>exact yd v n n
theorem wB (i j:Nat):Builtin.Slice.slicePlaces (i:Int) (j:Int) 1=j-i:=by
 unfold Builtin.Slice.slicePlaces
 have h1:(1:Int)>0:=by omega
 simp only [h1,if_true,Int.ediv_one]
 split<;>omega
theorem oW {v:Value} {o:Option Int} {Q:Option Int→Shared→Prop} (p:IsPart v o) (h:Q o s):wpAny (model prog w) A (Builtin.Slice.slicePartIndex v) Q E s:=by
 cases p with
 | none=>exact slicePart_none h
 | int i t=>exact slicePart_int h
theorem mH {sl:Addr} {vl vu:Value} {lo hi:Option Int} {n:Nat} {Q:Int×Int×Nat→Shared→Prop} (hs:s.heap.IsSliceOf sl vl vu .none) (pl:IsPart vl lo) (pu:IsPart vu hi)
  (h:Q (((sIx n 0 lo:Nat):Int),1,sIx n n hi-sIx n 0 lo) s):wpAny (model prog w) A (Builtin.Slice.sliceApplied (.ref sl) (pure (n:Int))) Q E s:=by
 obtain ⟨os,hos,hcs,hds⟩:=id hs
 unfold Builtin.Slice.sliceApplied Builtin.Slice.sliceFields
 refine wpAny_bind (wpAny_bind (wpAny_field hos hds (x:=vl) rfl (wpAny_bind (wpAny_field hos hds (x:=vu) rfl (wpAny_bind (wpAny_field hos hds (x:=.none) rfl (wpAny_pure ?_)))))))
 refine wpAny_bind (slicePart_none ?_)
 show wpAny _ _ (if ((1:Int) == 0)=true then _ else _) _ _ s
 rw [if_neg (by decide)]
 refine wpAny_bind (oW pl (wpAny_bind (oW pu (wpAny_bind (wpAny_pure ?_)))))
 show wpAny _ _ (match Builtin.Slice.sliceAdjust lo hi 1 (n:Int) with | (lo,hi)=>pure (lo,(1:Int),Builtin.Slice.slicePlaces lo hi 1)) _ _ s
 rw [wA lo hi n]
 show wpAny _ _ (pure (((sIx n 0 lo:Nat):Int),(1:Int),Builtin.Slice.slicePlaces ((sIx n 0 lo:Nat):Int) ((sIx n n hi:Nat):Int) 1)) _ _ s
 rw [wB]
 exact wpAny_pure h
theorem AQ (xs:Array Value) (i k:Nat):((List.range k).filterMap fun (m:Nat)=>xs[((i:Int)+(m:Int)*1).toNat]?).toArray=((xs.toList.drop i).take k).toArray:=by
 have e:(fun (m:Nat)=>xs[((i:Int)+(m:Int)*1).toNat]?)=fun m=>xs[i+m]?:=by
  funext m
  have:((i:Int)+(m:Int)*1).toNat=i+m:=by omega
  rw [this]
 rw [e]
 have:=pick_run xs i k
 rw [List.filterMap_map] at this
 have e2:((fun x=>xs[x]?)∘fun x=>i+x)=fun m=>xs[i+m]?:=rfl
 rw [e2] at this
 rw [this]
theorem lg {t sl:Addr} {items:Array Value} {vl vu:Value} {lo hi:Option Int} {Q:Value→Shared→Prop} (ht:IsTup s.heap t items) (hs:s.heap.IsSliceOf sl vl vu .none) (pl:IsPart vl lo) (pu:IsPart vu hi)
  (hw:¬ (sIx items.size 0 lo=0∧sIx items.size items.size hi=items.size))
  (h:Q (.ref s.heap.objs.size) { s with heap:=s.heap.push { cls:=.type "tuple",data:=.seq ((items.toList.drop (sIx items.size 0 lo)).take (sIx items.size items.size hi-sIx items.size 0 lo)).toArray } })
  (hsz:items.size≤sizeLine):wpAny (model prog w) A (getItem (.ref t) (.ref sl)) Q E s:=by
 have ye:sizeOk (.seq ((items.toList.drop (sIx items.size 0 lo)).take (sIx items.size items.size hi-sIx items.size 0 lo)).toArray):=by
  show ((items.toList.drop (sIx items.size 0 lo)).take (sIx items.size items.size hi-sIx items.size 0 lo)).toArray.size≤sizeLine
  rw [List.size_toArray,List.length_take,List.length_drop,Array.length_toList]
  omega
 have hj:sIx items.size items.size hi≤items.size:=Ih _ _ (Nat.le_refl _) hi
 obtain ⟨os,hos,hcs,hds⟩:=id hs
 have hTs:s.TypeIs (.ref sl) "slice" := ⟨os,hos,hcs⟩
 unfold getItem
 try with_reducible refine wpAny_holding ?_
 first | refine wpAny_bind (wpAny_pure ?_) | skip
 refine wpAny_bind (wpAny_sequenceKey ht.typeIs (by decide) ?_)
 refine wpAny_bind (wpAny_callSpecial?_slot (name:=Str.ofString "__getitem__") ht.typeIs PyProof.Rows.slot_tuple_getitem
  (wpAny_call_entry PyProof.Rows.slot_tuple_getitem ht.typeIs entry_tuple_getitem ?_ (args_tuple_getitem _ _)))
 show wpAny _ _ (Builtin.Tuple.tupleItemsOf (.ref t) >>= _) _ _ s
 refine wpAny_bind (tupleItemsOf_ ht ?_)
 refine wpAny_bind (wpAny_typeOf hTs ?_)
 rw [if_pos (by decide)]
 refine wpAny_bind (mH hs pl pu ?_)
 have hno:¬ ((((sIx items.size 0 lo:Nat):Int) == 0&&(1:Int) == 1&&(sIx items.size items.size hi-sIx items.size 0 lo) == items.size)=true):=by
  intro q
  rw [Bool.and_eq_true,Bool.and_eq_true] at q
  have q1:((sIx items.size 0 lo:Nat):Int)=0:=eq_of_beq q.1.1
  have q2:sIx items.size items.size hi-sIx items.size 0 lo=items.size:=eq_of_beq q.2
  exact hw ⟨by omega,by omega⟩
 show wpAny _ _ (if (((sIx items.size 0 lo:Nat):Int) == 0&&(1:Int) == 1&&(sIx items.size items.size hi-sIx items.size 0 lo) == items.size)=true then _ else _) _ _ s
 rw [if_neg hno,AQ]
 first
  | exact wpAny_bind (m:=Builtin.Tuple.tupleExact _) (wpAny_newObj_type (wpAny_pure ⟨_,rfl,wpAny_pure h⟩) ye)
  | exact wpAny_bind (m:=Builtin.Tuple.tupleExact _) (wpAny_newObj_type (wpAny_bind (wpAny_pure (wpAny_pure ⟨_,rfl,wpAny_pure h⟩))) ye)
  | exact wpAny_bind (wpAny_bind (m:=Builtin.Tuple.tupleExact _) (wpAny_newObj_type (wpAny_pure (wpAny_pure ⟨_,rfl,wpAny_pure h⟩)) ye))
  | exact wpAny_bind (wpAny_bind (m:=Builtin.Tuple.tupleExact _) (wpAny_newObj_type (wpAny_pure ⟨_,rfl,wpAny_pure h⟩) ye))
end
end HT
namespace L2
open PySem PySem.Spec PyProof.Rows
noncomputable abbrev TO:=St→Hp→(Option Int→Hp→Prop)→Prop
noncomputable def PO (X:Cx) (e:Option Expr) (t:TO):Prop:=
 ∀ (pins:List (Addr×Obj)) (s:Shared) (σ:St) (H:Hp) (Q:Option Int→Hp→Prop),Inv X pins σ H s→t σ H Q →
  wpAny (model X.prog X.w) X.A (evalPart e X.env) (fun u s'=>∃ o H',Inv X pins σ H' s'∧IsPart u o∧Q o H') X.xe s
noncomputable def sH:TO:=fun _ H Q=>Q none H
noncomputable def AR (t:TE):TO:=fun σ H Q=>t σ H fun x H1=>∃ i,x=.int i∧Q (some i) H1
section
variable {X:Cx} {e:Expr} {te:TE} {lo hi:Option Expr} {tl th:TO} {pos p2:Pos}
theorem DY:PO X none sH:=by
 intro pins s σ H Q I h
 rw [evalPart_none]
 exact wpAny_pure ⟨none,H,I,.none,h⟩
theorem DZ (h:PE X e te):PO X (some e) (AR te):=by
 intro pins s σ H Q I hw
 rw [evalPart_some]
 refine thn (h pins s σ H _ I hw) fun u s1 ⟨x,H1,I1,r1,q1⟩=>?_
 obtain ⟨i,rfl,q⟩:=q1
 obtain ⟨t,rfl⟩:=r1
 exact ⟨some i,H1,I1,.int i t,q⟩
noncomputable def SlR (X:Cx) (r:V→Option Int→Option Int→Hp→VK→Prop):Prop:=
 ∀ (pins:List (Addr×Obj)) (s:Shared) (σ:St) (H:Hp) (x:V) (v vl vu:Value) (lo hi:Option Int) (sl:Addr) (Q:VK),Inv X pins σ H s→RelV x v→s.heap.IsSliceOf sl vl vu .none→IsPart vl lo→IsPart vu hi→r x lo hi H Q →
  ∃ T id,typeLookup (.type T) "__getitem__" = pure (some (.builtin id))∧s.TypeIs v T∧wpAny (model X.prog X.w) X.A (getItem v (.ref sl)) (EP X pins σ Q) X.xe s
noncomputable def tSl (r:V→Option Int→Option Int→Hp→VK→Prop) (te:TE) (tl th:TO):TE:=fun σ H Q=>te σ H fun x H1=>tl σ H1 fun l H2=>th σ H2 fun u H3=>r x l u H3 Q
theorem uE {r:V→Option Int→Option Int→Hp→VK→Prop} (hr:SlR X r) (he:PE X e te) (hl:PO X lo tl) (hu:PO X hi th):PE X (.Subscript e (.Slice lo hi none p2) pos) (tSl r te tl th):=by
 intro pins s σ H Q I h
 refine Subscript_ (thn (he pins s σ H _ I h) fun v s1 ⟨x,H1,I1,r1,q1⟩=>?_)
 refine wpAny_Slice (thn (hl pins s1 σ H1 _ I1 q1) fun vl s2 ⟨l,H2,I2,pl,q2⟩=>thn (hu pins s2 σ H2 _ I2 q2) fun vu s3 ⟨u,H3,I3,pu,q3⟩=>?_)
 rw [evalPart_none]
 refine wpAny_pure ?_
 have I4:Inv X pins σ H3 { s3 with heap:=s3.heap.push { cls:=.type "slice",data:=.fields #[vl,vu,.none] } }:=I3.kept (t':=s3.toks) fun b ob q=>Heap.get?_push_of_some _ q
 obtain ⟨T,id,hT,ht,hg⟩:=hr pins { s3 with heap:=s3.heap.push { cls:=.type "slice",data:=.fields #[vl,vu,.none] } } σ H3 x v vl vu l u s3.heap.objs.size Q I4 r1 (Heap.IsSliceOf.new ..) pl pu q3
 show wpAny (model X.prog X.w) X.A (subscriptTail e (.Slice lo hi none p2) v (.ref s3.heap.objs.size)) (EP X pins σ Q) X.xe { s3 with heap:=s3.heap.push { cls:=.type "slice",data:=.fields #[vl,vu,.none] } }
 exact tail_any (ops:=[.ref s3.heap.objs.size,v]) ht hT hg (by with_unfolding_all rfl)
noncomputable def qP (xs:List V) (lo hi:Option Int):List V:=(xs.drop (HT.sIx xs.length 0 lo)).take (HT.sIx xs.length xs.length hi-HT.sIx xs.length 0 lo)
theorem nM (xs:List V) (lo hi:Option Int):(qP xs lo hi).length≤xs.length:=by
 unfold qP
 rw [List.length_take,List.length_drop]
 omega
noncomputable def KH (K:PySem.W.Frag):V→Option Int→Option Int→Hp→VK→Prop:=fun x lo hi H Q=>∃ a xs,x=.ref a∧SqT K H a xs ∧
 ¬ (HT.sIx xs.length 0 lo=0∧HT.sIx xs.length xs.length hi=xs.length)∧∀ p,H p=none→Q (.ref p) (upd H p (.tup (qP xs lo hi)))
theorem Ii:SlR X (KH X.K):=by
 intro pins s σ H x v vl vu lo hi sl Q I rx hs pl pu h
 obtain ⟨a,xs,rfl,hx,hw,q⟩:=h
 cases rx
 obtain ⟨its,r,ht,hz⟩:=I.tuple hx
 have hlen:its.toArray.size=xs.length:=by rw [List.size_toArray];exact r.length.symm
 refine ⟨"tuple",_,PyProof.Rows.slot_tuple_getitem.lookup,ht.typeIs,?_⟩
 refine HT.lg ht hs pl pu (by rw [hlen];exact hw) ?_ (by rw [hlen];exact hz)
 rw [hlen]
 refine ⟨.ref s.heap.objs.size,_,I.laid (t':=s.toks) (o:=.tup (qP xs lo hi)) (fun b ob q=>Heap.get?_push_of_some _ q) (Nat.le_refl _) ?_,rfl,q _ (I.hok.fresh (Nat.le_refl _))⟩
 exact ⟨Nat.le_trans (nM xs lo hi) hz,_,(r.drop (HT.sIx xs.length 0 lo)).take (HT.sIx xs.length xs.length hi-HT.sIx xs.length 0 lo),IsTup.new _ _⟩
end
noncomputable def ixN (n:Nat) (i:Int):Option Nat:=if 0≤i then (if i<n then some i.toNat else none) else if -(n:Int)≤i then some (i+n).toNat else none
noncomputable def atI {α:Type} (xs:List α) (i:Int):Option α:=(ixN xs.length i).bind fun j=>xs[j]?
theorem yf {n:Nat} {i:Int} {j:Nat} (h:ixN n i=some j):seqIndex? i n=some j∧j<n∧-(n:Int)≤i∧i<n:=by
 unfold ixN at h
 by_cases h0:0≤i
 ·rw [if_pos h0] at h
  by_cases h1:i<n
  ·rw [if_pos h1] at h
   have e:i.toNat=j:=Option.some.inj h
   exact ⟨by rw [seqIndex_of h0 h1,e],by omega,by omega,h1⟩
  ·rw [if_neg h1] at h;cases h
 ·rw [if_neg h0] at h
  by_cases h1:-(n:Int)≤i
  ·rw [if_pos h1] at h
   have e:(i+n).toNat=j:=Option.some.inj h
   exact ⟨by rw [seqIndex_neg (by omega) h1,e],by omega,h1,by omega⟩
  ·rw [if_neg h1] at h;cases h
theorem yg {α:Type} {xs:List α} {i:Int} {v:α} (h:atI xs i=some v):∃ j,seqIndex? i xs.length=some j∧xs[j]?=some v∧j<xs.length∧-(xs.length:Int)≤i∧i<xs.length:=by
 unfold atI at h
 cases e:ixN xs.length i with
 | none=>rw [e] at h;cases h
 | some j=>
  rw [e] at h
  obtain ⟨h1,h2,h3,h4⟩:=yf e
  exact ⟨j,h1,h,h2,h3,h4⟩
noncomputable def sI (b:Expr):Prop:=∀ o i,subscripted b false o i=operate [o,i] (getItem o i)
noncomputable def IxR (X:Cx) (r:R2):Prop:=
 ∀ (value slice:Expr) (pins:List (Addr×Obj)) (s:Shared) (σ:St) (H:Hp) (x y:V) (v u:Value) (Q:VK),Inv X pins σ H s→RelV x v→RelV y u→r x y H Q →
  subscripted slice false v u=operate [v,u] (getItem v u)→wpAny (model X.prog X.w) X.A (subscriptTail value slice v u) (EP X pins σ Q) X.xe s
noncomputable def MtR (X:Cx) (id:String) (r:V→List V→Hp→VK→Prop):Prop:=
 ∀ (pins:List (Addr×Obj)) (s:Shared) (σ:St) (H:Hp) (x:V) (xs:List V) (v:Value) (us:List Value) (Q:VK),Inv X pins σ H s→RelV x v→Vals xs us→r x xs H Q →
  wpAny (model X.prog X.w) X.A (call (.builtin id) (v::us)) (EP X pins σ Q) X.xe s
section
variable {X:Cx} {a b:Expr} {ta tb:TE} {pos:Pos}
theorem IxR.or {r r':R2} (h:IxR X r) (h':IxR X r'):IxR X (fun x y H Q=>r x y H Q∨r' x y H Q):=by
 intro value slice pins s σ H x y v u Q I rx ry q hs
 rcases q with q | q
 ·exact h value slice pins s σ H x y v u Q I rx ry q hs
 ·exact h' value slice pins s σ H x y v u Q I rx ry q hs
theorem Gj {r:R2} (hr:IxR X r) (ha:PE X a ta) (hb:PE X b tb) (hs:sI b):PE X (.Subscript a b pos) (tOp r ta tb):=by
 intro pins s σ H Q I h
 exact Subscript_ (HQ ha hb I h fun v u s2 x y H2 I2 rx ry q=>hr a b pins s2 σ H2 x y v u Q I2 rx ry q (hs _ _))
noncomputable def Ij (K:PySem.W.Frag):R2:=fun x y H Q=>∃ p xs i v,x=.ref p∧y=.int i∧SqL K H p xs∧atI xs i=some v∧Q v H
noncomputable def KI (K:PySem.W.Frag):R2:=fun x y H Q=>∃ p xs i v,x=.ref p∧y=.int i∧SqT K H p xs∧atI xs i=some v∧Q v H
theorem yh:IxR X (Ij X.K):=by
 intro value slice pins s σ H x y v u Q I rx ry h hs
 obtain ⟨p,xs,i,z,rfl,rfl,hq,he,q⟩:=h
 cases rx
 obtain ⟨t,rfl⟩:=ry
 obtain ⟨its,r,pl,hz⟩:=I.list hq
 obtain ⟨j,h1,h2,h3,h4,h5⟩:=yg he
 obtain ⟨w,ew,rw'⟩:=r.get h2
 have hl:=r.length
 have hn:=oU
 have fin:EP X pins σ Q w s:=⟨z,H,I,rw',q⟩
 by_cases h0:0≤i
 ·have hj:i.toNat=j:=by
   rw [seqIndex_of h0 h5] at h1
   exact Option.some.inj h1
  exact item_listR pl.isList h0 (by omega) (by rw [hj];simpa using ew) fin hs
 ·have hj:(i+(its.toArray.size:Int)).toNat=j:=by
   rw [seqIndex_neg (by omega) h4] at h1
   rw [List.size_toArray,← hl]
   exact Option.some.inj h1
  exact subscriptTail_builtinR (x:=w) pl.isList.typeIs slot_list_getitem.lookup
   (wpAny_getItem_list_neg (Q:=fun r s'=>r=w∧EP X pins σ Q r s') pl.isList (by omega) (by rw [List.size_toArray]<;>omega) (by omega) (by rw [hj];simpa using ew) ⟨rfl,fin⟩) hs
theorem Ik:IxR X (KI X.K):=by
 intro value slice pins s σ H x y v u Q I rx ry h hs
 obtain ⟨p,xs,i,z,rfl,rfl,hq,he,q⟩:=h
 cases rx
 obtain ⟨t,rfl⟩:=ry
 obtain ⟨its,r,pl,hz⟩:=I.tuple hq
 obtain ⟨j,h1,h2,h3,h4,h5⟩:=yg he
 obtain ⟨w,ew,rw'⟩:=r.get h2
 have hl:=r.length
 have hn:=oU
 have fin:EP X pins σ Q w s:=⟨z,H,I,rw',q⟩
 exact subscriptTail_builtinR (x:=w) pl.typeIs slot_tuple_getitem.lookup
  (getItem_tuple (j:=j) (Q:=fun r s'=>r=w∧EP X pins σ Q r s') pl (by omega) (by omega) (by rw [List.size_toArray,← hl];exact h1) (by simpa using ew) ⟨rfl,fin⟩) hs
theorem wC (its:List Value) (n j:Nat) (u:Value):Obj.mapSeq (·.setIfInBounds j u) { cls:=.type "list",data:=.seq its.toArray n }={ cls:=.type "list",data:=.seq (its.set j u).toArray n }:=by
 simp [Obj.mapSeq]
theorem Inv.lst {pins:List (Addr×Obj)} {σ:St} {H:Hp} {s:Shared} {p:Addr} {xs:List V} (I:Inv X pins σ H s) (h:H p=some (.lst xs)) :
  ∃ (its:List Value) (n:Nat),Vals xs its∧s.heap.get? p=some { cls:=.type "list",data:=.seq its.toArray n }∧xs.length≤sizeLine:=by
 obtain ⟨z,its,n,r,e⟩:=I.hok p _ h
 exact ⟨its,n,r,e,z⟩
theorem Inv.Il {pins:List (Addr×Obj)} {σ:St} {H:Hp} {s:Shared} {p:Addr} {xs ys:List V} {its its':List Value} {n n':Nat} {f:Obj→Obj} (I:Inv X pins σ H s) (h:H p=some (.lst xs))
  (ho:s.heap.get? p=some { cls:=.type "list",data:=.seq its.toArray n }) (hf:f { cls:=.type "list",data:=.seq its.toArray n }={ cls:=.type "list",data:=.seq its'.toArray n' }) (r:Vals ys its') (hz:ys.length≤sizeLine) (t:Nat) :
  Inv X pins σ (upd H p (.lst ys)) { s with heap:=s.heap.update p f,toks:=t }:=by
 have e:(s.heap.update p f).get? p=some { cls:=.type "list",data:=.seq its'.toArray n' }:=by
  rw [Heap.get?_update_self f ho (by rw [hf]<;>rfl),hf]
 refine I.write (x:=p) (e:=p) (by rw [h];trivial) (.inl rfl) (fun b u hb q=>(Heap.get?_update_other _ _ (Ne.symm hb)).trans q) ⟨_,e⟩ ?_
 exact ⟨hz,its',n',r,e⟩
noncomputable def Gk:V→V→V→Hp→(Hp→Prop)→Prop:=fun o i v H Q=>∃ p xs k j,o=.ref p∧i=.int k∧H p=some (.lst xs)∧ixN xs.length k=some j∧Q (upd H p (.lst (xs.set j v)))
theorem set_list:Ku X Gk:=by
 intro pins s σ H o i v ov iv u Q I ro ri rv h
 obtain ⟨p,xs,k,j,rfl,rfl,hp,hj,q⟩:=h
 cases ro
 obtain ⟨t,rfl⟩:=ri
 obtain ⟨its,n,r,ho,hz⟩:=I.lst hp
 obtain ⟨h1,h2,h3,h4⟩:=yf hj
 have hl:=r.length
 have hn:=oU
 have I':Inv X pins σ (upd H p (.lst (xs.set j v))) { s with heap:=s.heap.update p (Obj.mapSeq (·.setIfInBounds j u)) }:=
  I.Il hp ho (wC its n j u) (r.set rv j) (by rw [List.length_set];exact hz) s.toks
 by_cases h0:0≤k
 ·have hk:k.toNat=j:=by
   rw [seqIndex_of h0 h4] at h1
   exact Option.some.inj h1
  exact PySem.W.ki_setAt ho h0 (by omega) (by rw [List.size_toArray,← hl];exact h4) (by rw [hk];exact ⟨_,I',q⟩)
 ·have hk:(k+(its.toArray.size:Int)).toNat=j:=by
   rw [seqIndex_neg (by omega) h3] at h1
   rw [List.size_toArray,← hl]
   exact Option.some.inj h1
  exact PySem.W.ki_setBack ho (by omega) (by rw [List.size_toArray,← hl];exact h3) (by omega) (by rw [hk];exact ⟨_,I',q⟩)
theorem sJ (lo hi:Option Int) (n:Nat):(sliceBounds lo hi none n).1=((HT.sIx n 0 lo:Nat):Int)∧(sliceBounds lo hi none n).2.1=((HT.sIx n n hi:Nat):Int)∧(sliceBounds lo hi none n).2.2=1:=by
 refine ⟨?_,?_,rfl⟩
 ·cases lo with
  | none=>simp [sliceBounds,HT.sIx]
  | some i=>
   simp only [sliceBounds,HT.sIx,Option.getD_none,show (1:Int)>0 by decide,if_true]
   by_cases h:i<0
   ·simp only [h,if_true]<;>omega
   ·simp only [h,if_false]<;>omega
 ·cases hi with
  | none=>simp [sliceBounds,HT.sIx]
  | some i=>
   simp only [sliceBounds,HT.sIx,Option.getD_none,show (1:Int)>0 by decide,if_true]
   by_cases h:i<0
   ·simp only [h,if_true]<;>omega
   ·simp only [h,if_false]<;>omega
theorem qQ (its:List Value) (lo hi:Option Int):slicePick its.toArray lo hi none=((its.drop (HT.sIx its.length 0 lo)).take (HT.sIx its.length its.length hi-HT.sIx its.length 0 lo)).toArray:=by
 obtain ⟨h1,h2,h3⟩:=sJ lo hi its.toArray.size
 unfold slicePick
 rw [h1,h2,h3]
 simp only [sliceRange_one,pick_run,List.size_toArray]<;>rfl
noncomputable def KJ (K:PySem.W.Frag):V→Option Int→Option Int→Hp→VK→Prop:=fun x lo hi H Q=>∃ a xs,x=.ref a∧SqL K H a xs∧∀ p,H p=none→Q (.ref p) (upd H p (.lst (qP xs lo hi)))
theorem D0:SlR X (KJ X.K):=by
 intro pins s σ H x v vl vu lo hi sl Q I rx hs pl pu h
 obtain ⟨a,xs,rfl,hx,q⟩:=h
 cases rx
 obtain ⟨its,r,ht,hz⟩:=I.list hx
 have hlen:=r.length
 refine ⟨"list",_,slot_list_getitem.lookup,ht.isList.typeIs,?_⟩
 refine wpAny_getItem_list_slice ht.isList hs pl pu .none (by simp) ?_ (by rw [List.size_toArray]<;>omega)
 rw [qQ,← hlen]
 refine ⟨.ref s.heap.objs.size,_,I.laid (t':=s.toks) (o:=.lst (qP xs lo hi)) (fun b ob q=>Heap.get?_push_of_some _ q) (Nat.le_refl _) ?_,rfl,q _ (I.hok.fresh (Nat.le_refl _))⟩
 exact ⟨Nat.le_trans (nM xs lo hi) hz,_,0,(r.drop (HT.sIx xs.length 0 lo)).take (HT.sIx xs.length xs.length hi-HT.sIx xs.length 0 lo),Heap.get?_push_size _ rfl⟩
theorem sL:fW X (.builtin "len") (fun xs H Q=>∃ p ys,xs=[.ref p]∧(SqL X.K H p ys∨SqT X.K H p ys)∧Q (.int ys.length) H):=by
 intro pins s σ H xs us Q I r h
 obtain ⟨p,ys,rfl,hq,q⟩:=h
 obtain ⟨u,rfl,rx⟩:=vals1 r
 cases rx
 have hn:=oU
 rcases hq with hq | hq
 ·obtain ⟨its,r',pl,hz⟩:=I.list hq
  have hlen:=r'.length
  exact Calls.call_len_list pl.isList (by simp only [List.size_toArray]<;>omega) ⟨.int ys.length,H,I.tok _,⟨s.toks+1,by rw [List.size_toArray,hlen]⟩,q⟩
 ·obtain ⟨its,r',pl,hz⟩:=I.tuple hq
  have hlen:=r'.length
  exact len_tuple pl (by simp only [List.size_toArray]<;>omega) ⟨.int ys.length,H,I.tok _,⟨s.toks+1,by rw [List.size_toArray,hlen]⟩,q⟩
theorem sM:fW X (.type "list") (fun xs H Q=>∃ p ys,xs=[.ref p]∧(SqL X.K H p ys∨SqT X.K H p ys)∧∀ l,H l=none→Q (.ref l) (upd H l (.lst ys))):=by
 intro pins s σ H xs us Q I r h
 obtain ⟨p,ys,rfl,hq,q⟩:=h
 obtain ⟨u,rfl,rx⟩:=vals1 r
 cases rx
 have fin:∀ (its:List Value),Vals ys its→ys.length≤sizeLine→∀ (h':Heap) (c':Nat),(∀ b o',s.heap.get? b=some o'→h'.get? b=some o') →
   h'.get? s.heap.objs.size=some { cls:=.type "list",dict:=none,data:=.seq its.toArray c',slots:=#[] }→EP X pins σ Q (.ref s.heap.objs.size) { s with heap:=h' }:=fun its r' hz h' c' kp e=>
  ⟨.ref s.heap.objs.size,_,I.laid (t':=s.toks) kp (Nat.le_refl _) (show bu X.prog X.w _ h' _ (.lst ys) from ⟨hz,its,c',r',e⟩),rfl,q _ (I.hok.fresh (Nat.le_refl _))⟩
 rcases hq with hq | hq
 ·obtain ⟨its,r',pl,hz⟩:=I.list hq
  have hlen:=r'.length
  obtain ⟨o,ho,hc,n,hd⟩:=pl.isList
  exact call_list_seq p (.inl rfl) ho hc hd (fun h' c' kp e=>fin its r' hz h' c' kp e) (by simp only [List.size_toArray]<;>omega)
 ·obtain ⟨its,r',pl,hz⟩:=I.tuple hq
  have hlen:=r'.length
  obtain ⟨o,ho,hc,n,hd⟩:=pl
  exact call_list_seq p (.inr rfl) ho hc hd (fun h' c' kp e=>fin its r' hz h' c' kp e) (by simp only [List.size_toArray]<;>omega)
theorem qR:fW X (.type "tuple") (fun xs H Q=>∃ p ys,xs=[.ref p]∧((SqL X.K H p ys∧∀ l,H l=none→Q (.ref l) (upd H l (.tup ys)))∨(SqT X.K H p ys∧Q (.ref p) H))):=by
 intro pins s σ H xs us Q I r h
 obtain ⟨p,ys,rfl,h⟩:=h
 obtain ⟨u,rfl,rx⟩:=vals1 r
 cases rx
 rcases h with ⟨hq,q⟩ | ⟨hq,q⟩
 ·obtain ⟨its,r',pl,hz⟩:=I.list hq
  have hlen:=r'.length
  refine call_tuple_list pl.isList (fun h' kp=>?_) (by simp only [List.size_toArray]<;>omega)
  have I1:Inv X pins σ H { s with heap:=h' }:=I.kept (t':=s.toks) kp
  have I2:Inv X pins σ (upd H h'.objs.size (.tup ys)) { s with heap:=h'.push { cls:=.type "tuple",data:=.seq its.toArray } }:=
   I1.laid (t':=s.toks) (fun b o e=>Heap.get?_push_of_some _ e) (Nat.le_refl _) (show bu X.prog X.w _ _ _ (.tup ys) from ⟨hz,its,r',IsTup.new _ _⟩)
  exact ⟨.ref h'.objs.size,_,I2,rfl,q _ (I1.hok.fresh (Nat.le_refl _))⟩
 ·obtain ⟨its,r',pl,hz⟩:=I.tuple hq
  exact call_tuple_same pl ⟨.ref p,H,I,rfl,q⟩
noncomputable def tyV (K:PySem.W.Frag) (T:String) (x:V) (H:Hp):Prop:=match x with
 | .str _=>T = "str"
 | .int _=>T = "int"
 | .ref p=>(T = "list" ∧ ∃ xs,SqL K H p xs)∨(T = "tuple" ∧ ∃ o,K.lookup p=some o∧o.cls=.type "tuple" ∧ o.dict=none) ∨
   (T = "dict" ∧ ((∃ kvs,H p=some (.dK kvs))∨∃ kvs,H p=some (.dT kvs)))∨(T = "set" ∧ ∃ S n,H p=some (.set S n))
 | _=>False
theorem Im {pins:List (Addr×Obj)} {σ:St} {H:Hp} {s:Shared} {T:String} {x:V} {v:Value} (I:Inv X pins σ H s) (r:RelV x v) (ty:tyV X.K T x H) :
  s.TypeIs v T∧∀ a,v=.ref a→∃ ob,s.heap.get? a=some ob∧ob.dict=none:=by
 cases x with
 | str z=>
  obtain ⟨t,rfl⟩:=r
  cases (show T = "str" from ty)
  exact ⟨typeIs_str s z t,fun _ e=>nomatch e⟩
 | int i=>
  obtain ⟨t,rfl⟩:=r
  cases (show T = "int" from ty)
  exact ⟨typeIs_int s i t,fun _ e=>nomatch e⟩
 | ref p=>
  cases r
  rcases ty with ⟨rfl,xs,hq⟩ | ⟨rfl,o,hk,hc,hd⟩ | ⟨rfl,hk⟩ | ⟨rfl,S,n,hk⟩
  ·obtain ⟨its,_,pl,_⟩:=I.list hq
   refine ⟨pl.isList.typeIs,fun a e=>?_⟩
   cases e
   obtain ⟨o,n,e,c,hd,_⟩:=pl
   exact ⟨o,e,hd⟩
  ·refine ⟨⟨o,I.kIn p o hk,hc⟩,fun a e=>?_⟩
   cases e
   exact ⟨o,I.kIn _ o hk,hd⟩
  ·have z:∃ o,s.heap.get? p=some o∧o.ExactDict:=by
    rcases hk with ⟨kvs,hk⟩ | ⟨kvs,hk⟩
    ·obtain ⟨_,_,_,_,o,_,_,e,ex,_⟩:=I.hok p _ hk
     exact ⟨o,e,ex⟩
    ·obtain ⟨_,_,_,_,o,_,_,e,ex,_⟩:=I.hok p _ hk
     exact ⟨o,e,ex⟩
   obtain ⟨o,e,ex⟩:=z
   refine ⟨⟨o,e,ex.1⟩,fun a e2=>?_⟩
   cases e2
   exact ⟨o,e,ex.2.1⟩
  ·obtain ⟨o,_,_,_,e,ex,_⟩:=I.hok p _ hk
   refine ⟨⟨o,e,ex.1⟩,fun a e2=>?_⟩
   cases e2
   exact ⟨o,e,ex.2.1⟩
 | _=>exact False.elim ty
noncomputable def tBM (K:PySem.W.Frag) (T:String) (r:V→List V→Hp→VK→Prop) (to:TE) (t:TA):TE:=fun σ H Q=>to σ H fun x H1=>tyV K T x H1∧t σ H1 fun xs H2=>r x xs H2 Q
variable {o e:Expr} {es:List Expr} {to:TE} {t:TA} {name:Str} {apos cpos:Pos} {T id:String} {r:V→List V→Hp→VK→Prop}
theorem uF (pa:PlainAttrs T) (slot:Slot T name id) (hty:typeOf (.builtin id)=pure (.type "method_descriptor")) (hm:MtR X id r) (ho:PE X o to) (ha:PA X (e::es) t)
  (hbase:attributeBase o name X.env (eval o X.env)=eval o X.env:=by rfl)
  (hfew:((backTo cpos (starEach (e::es) X.env)).all (fun x=>!x.1)&&(backToKw cpos (keywordEach [] X.env)).all (fun x=>x.1.isSome)
   && decide ((e::es).length+([]:List Keyword).length+(if ([]:List Keyword).isEmpty then 0 else 1)<30))=true:=by rfl)
  (hline:(apos.endLine == cpos.line)=true:=by rfl) (hs:starEach (e::es) X.env=(false,eval e X.env)::starEach es X.env:=by rfl) (hplain:(backTo cpos (starEach es X.env)).any (·.1)=false:=by rfl) :
  PE X (.Call (.Attribute o name apos) (e::es) [] cpos) (tBM X.K T r to t):=by
 intro pins s σ H Q I h
 refine wpAny_Call_method_late hbase hfew hline rfl (thn (ho pins s σ H _ I h) fun v s1 ⟨x,H1,I1,r1,ty,q1⟩=>?_)
 obtain ⟨h1,h2⟩:=Im I1 r1 ty
 refine ⟨T,id,pa,slot,hty,h1,h2,?_⟩
 have hA:=ha cpos pins s1 σ H1 _ I1 q1
 rw [hs] at hA ⊢
 refine Calls.callWith_builtin (by show (false||(backTo cpos (starEach es X.env)).any (·.1))=false;rw [hplain]<;>rfl) (Calls.evalArgs_plain ?_)
 exact thn hA fun us s2 ⟨vs,H2,I2,r2,q2⟩=>hm pins s2 σ H2 x vs v us Q I2 r1 r2 q2
end
noncomputable def MtM (X:Cx) (id:String) (r:V→List V→Hp→VK→Prop):Prop:=
 ∀ (pins:List (Addr×Obj)) (s:Shared) (σ:St) (H:Hp) (x:V) (xs:List V) (v:Value) (us:List Value) (Q:VK),Inv X pins σ H s→RelV x v→Vals xs us→r x xs H Q →
  wpAny (model X.prog X.w) X.A (call (.builtin id) (v::us)) (EP X pins σ Q) X.xe s
theorem Vals.one:∀ {x:V} {us:List Value},Vals [x] us→∃ u,us=[u]∧RelV x u
 | _,_,.cons r .nil=>⟨_,rfl,r⟩
theorem Vals.eraseIdx:∀ {xs:List V} {us:List Value} (i:Nat),Vals xs us→Vals (xs.eraseIdx i) (us.eraseIdx i)
 | _,_,_,.nil=>.nil
 | _,_,0,.cons _ t=>t
 | _,_,i+1,.cons r t=>.cons r (Vals.eraseIdx i t)
theorem Vals.rep {xs:List V} {us:List Value} (h:Vals xs us):∀ k:Nat,Vals (List.replicate k xs).flatten (List.replicate k us).flatten
 | 0=>.nil
 | k+1=>by
  rw [List.replicate_succ,List.replicate_succ,List.flatten_cons,List.flatten_cons]
  exact Vals.append h (Vals.rep h k)
theorem rz {α:Type}:∀ (l:List α) (i:Nat),(l.eraseIdx i).length≤l.length
 | [],_=>Nat.le_refl _
 | _::_,0=>Nat.le_succ _
 | _::r,i+1=>Nat.succ_le_succ (rz r i)
theorem foldl_rep (its:List Value):∀ (k:Nat) (acc:List Value),
  List.foldl (fun x1 x2=>x1++x2) acc.toArray (List.replicate k its.toArray)=(acc++(List.replicate k its).flatten).toArray
 | 0,acc=>by simp
 | k+1,acc=>by
  have e:acc.toArray++its.toArray=(acc++its).toArray:=by simp
  have e2:(acc++its)++(List.replicate k its).flatten=acc++(List.replicate (k+1) its).flatten:=by
   rw [List.replicate_succ,List.flatten_cons,List.append_assoc]
  rw [← e2,← foldl_rep its k (acc++its),← e,List.replicate_succ,List.foldl_cons]
section
variable {X:Cx} {pins:List (Addr×Obj)} {σ:St} {H:Hp} {s:Shared} {l b:Addr} {xs ys zs:List V}
theorem Inv.Io {its its':List Value} {n:Nat} {f:Array Value→Array Value} {t':Nat} (I:Inv X pins σ H s) (hH:H l=some (.lst xs))
  (e:s.heap.get? l=some { cls:=.type "list",data:=.seq its.toArray n }) (hf:f its.toArray=its'.toArray) (hv:Vals ys its') (hz:ys.length≤sizeLine) :
  Inv X pins σ (upd H l (.lst ys)) { s with heap:=s.heap.update l (Obj.mapSeq f),toks:=t' }:=by
 have q:=PySem.IsL.update e f
 rw [hf] at q
 refine I.write (x:=l) (e:=l) (by rw [hH];exact trivial) (.inl rfl) (fun b' u hb hu=>(Heap.get?_update_other s.heap (Obj.mapSeq f) (Ne.symm hb)).trans hu) ⟨_,q⟩ ?_
 exact ⟨hz,its',_,hv,q⟩
theorem Inv.Ip {its:List Value} {t':Nat} (I:Inv X pins σ H s) (hv:Vals ys its) (hz:ys.length≤sizeLine) :
  Inv X pins σ (upd H s.heap.objs.size (.lst ys)) { s with heap:=s.heap.push { cls:=.type "list",data:=.seq its.toArray },toks:=t' }:=
 I.laid (fun _ _ q=>Heap.get?_push_of_some _ q) (Nat.le_refl _) ⟨hz,its,0,hv,Heap.get?_push_size _ rfl⟩
theorem Inv.fresh (I:Inv X pins σ H s):H s.heap.objs.size=none:=I.hok.fresh (Nat.le_refl _)
theorem Inv.Iq (I:Inv X pins σ H s) (hH:H l=some (.lst xs)):xs.length≤sizeLine∧∃ (its:List Value) (n:Nat),Vals xs its∧xs.length=its.length∧s.heap.get? l=some { cls:=.type "list",data:=.seq its.toArray n }:=by
 obtain ⟨z,its,n,r,e⟩:=I.hok l _ hH
 exact ⟨z,its,n,r,r.length,e⟩
theorem uG {n:Nat} (h:n≤sizeLine):Builtin.List.listTooLong n=false:=by
 unfold Builtin.List.listTooLong
 exact decide_eq_false (by omega)
end
section
variable {X:Cx}
noncomputable def sN:V→List V→Hp→VK→Prop:=fun x vs H Q=>∃ l xs y,x=.ref l∧vs=[y]∧H l=some (.lst xs)∧xs.length<sizeLine∧Q .non (upd H l (.lst (xs++[y])))
theorem mJ:MtM X "list.append" sN:=by
 intro pins s σ H x vs v us Q I rx rv h
 obtain ⟨l,xs,y,rfl,rfl,hH,hz,q⟩:=h
 cases rx
 obtain ⟨u,rfl,ru⟩:=rv.one
 obtain ⟨z,its,n,r,hl,e⟩:=I.Iq hH
 refine call_meets F.slot_list_append ⟨_,e,rfl⟩ F.entry_list_append (F.args_list_append_2 _ _) (PySem.list_append l its.toArray n u (by rw [List.size_toArray];omega)) ⟨e,?_⟩
 refine ⟨.non,_,I.Io (its':=its++[u]) hH e (by simp) (r.append (.cons ru .nil)) ?_,rfl,q⟩
 rw [List.length_append,List.length_singleton]
 omega
noncomputable def AS:V→List V→Hp→VK→Prop:=fun x vs H Q=>∃ l xs i k y,x=.ref l∧vs=[.int i]∧H l=some (.lst xs)∧-(2 ^ 63)≤i∧i<2 ^ 63∧seqIndex? i xs.length=some k∧xs[k]?=some y∧Q y (upd H l (.lst (xs.eraseIdx k)))
theorem AU:MtM X "list.pop" AS:=by
 intro pins s σ H x vs v us Q I rx rv h
 obtain ⟨l,xs,i,k,y,rfl,rfl,hH,h1,h2,hk,hy,q⟩:=h
 cases rx
 obtain ⟨u,rfl,ru⟩:=rv.one
 obtain ⟨t,rfl⟩:=ru
 obtain ⟨z,its,n,r,hl,e⟩:=I.Iq hH
 obtain ⟨w,hw,rw'⟩:=r.get hy
 refine call_meets F.slot_list_pop ⟨_,e,rfl⟩ F.entry_list_pop (F.args_list_pop_2 _ _)
  (MeetsSeq.list_pop_at l its.toArray n i t k w (fitsIndex_both h1 h2) (by rw [List.size_toArray,← hl];exact hk) (by rw [← Array.getElem?_toList];exact hw) (by rw [List.size_toArray];omega)) ⟨e,?_⟩
 refine ⟨y,_,I.Io (its':=its.eraseIdx k) hH e ?_ (r.eraseIdx k) ?_,rw',q⟩
 ·show its.toArray.eraseIdxIfInBounds k=(its.eraseIdx k).toArray
  rw [List.eraseIdxIfInBounds_toArray]
 ·have:=rz xs k
  omega
theorem len_rep {α:Type} (xs:List α) (k:Nat):(List.replicate k xs).flatten.length=k*xs.length:=by
 induction k with
 | zero=>simp
 | succ k ih=>rw [List.replicate_succ,List.flatten_cons,List.length_append,ih,Nat.succ_mul,Nat.add_comm]
end
section
variable {prog:Program} {w:World} {A:Around} {E:Value→Shared→Prop} {s:Shared}
set_option maxRecDepth 100000 in
end
section
variable {X:Cx}
end
end L2
namespace Att
open PySem PySem.W PySem.Calls PyProof.Rows
theorem nZ {P:Params} {h:Heap}:∀ (ns:List Int) (vs:List Value),WellAll P h vs (ns.map WData.int)→IntsAre vs ns:=by
 intro ns
 induction ns with
 | nil=>
  intro vs w
  rw [List.map_nil] at w
  cases w
  exact .nil
 | cons n ns ih=>
  intro vs w
  rw [List.map_cons] at w
  cases w with
  | cons a b=>
   cases a
   exact .cons _ _ (ih _ b)
theorem zF {l:OpenLaw} {n:Nat} (hn:l.most=some n) {P:Params} {h:Heap} {args:List WData} {vals:List Value}
  (hpre:l.row.toRowW.claim.pre args=true) (hwl:WellAll P h vals args) :
  ∃ a vs ns,vals=[Value.ref a]∧args=[WData.list (ns.map WData.int)]∧h.get? a=some { cls:=.type "list",data:=.seq vs.toArray }∧IntsAre vs ns∧ns.length≤n:=by
 have hsh:WShape.hasAll [] args [.list .int]=true:=(pre_splitW hpre).1
 have hc:l.pre.holds [] { args:=args }=true:=(pre_splitW hpre).2
 obtain ⟨d,r,rfl,h1,h2⟩:=hasAllW_cons hsh
 obtain rfl:=hasAllW_nil h2
 obtain ⟨xs,rfl,h3⟩:=hasW_list h1
 obtain ⟨ns,rfl⟩:=items_int h3
 have hlen:ns.length≤n:=by
  unfold OpenLaw.pre at hc
  have h4:(WTm.not (.lt (.lit (.int (n:Int))) (.len (.arg 0)))).holds [] { args:=[.list (ns.map .int)] }=true:=by
   have h4:=(holds_andW hc).1
   rw [hn] at h4
   exact h4
  have h5:=condW_of h4 (w_not (w_lt w_lit (w_len_list (w_arg rfl))))
  rw [List.length_map] at h5
  refine Nat.le_of_not_lt fun q=>?_
  have q':(n:Int)<((ns.length:Nat):Int):=by omega
  first
   | (rw [decide_eq_true q'] at h5;exact absurd h5 (by decide))
   | (simp at h5;omega)
 cases hwl with
 | cons w1 w2=>
  cases w2
  cases w1 with
  | list ho hall=>exact ⟨_,_,ns,rfl,rfl,ho,nZ ns _ hall,hlen⟩
theorem zG (l:OpenLaw) (args:List WData):l.row.toRowW.claim.post args (.bool true) args=true:=
 postW_of (r:=l.row.toRowW) (X:=(true == true))
  (show WShape.has [] (.bool true) .bool=true by first | rfl | decide | simp [WShape.has,WShape.arms,WShape.armsAll])
  (show (WTm.eq .res (.lit (.bool true))).value [] { args:=args,res:=some (.bool true),after:=args }=some (.bool (true == true)) from w_eq_bool (w_res rfl) w_lit) rfl
theorem uH {l:OpenLaw} {n:Nat} {q:Program} {loose:List Str} {XP:(Str→Option Value)→Heap→Prop} {YP:World→Heap→Prop} {d:DefRec}
  (hn:l.most=some n) (hdf:d.params.defaults=[])
  (call:∀ (w:World) (s₀ s₁:Shared) (mg mb:Str→Option Value) (fa:Addr) (o:Obj) (pm cd doc:Value) (a:Addr) (vs:List Value) (ns:List Int),
   Ground q loose [] XP w s₀ mg mb s₁.heap→YP w s₁.heap →
   s₁.heap.get? fa=some o→o.data=.func (docDef d.name d.params d.body d.scope pm cd doc)→s₁.heap.CodeRec cd d.name→mg d.name=some (.ref fa) →
   s₁.heap.get? a=some { cls:=.type "list",data:=.seq vs.toArray }→IntsAre vs ns→ns.length≤n→s₁.gens=#[] →
   codeAny (model l.prog w) callerA (.call (.ref fa) ⟨[.ref a],[]⟩) (fun r s'=>r=.ok (.ret (.bool true))∧OldK s₁.heap s'.heap∧s'.os=s₁.os∧AllBare s'.gens) s₁) :
  WalkO q loose XP YP l.row.toRowW d [] (fun f vs=>PySem.call f vs):=by
 intro w s₀ s₁ mg mb G Y fa o pm cd doc dV kV ho hd hcd hD hmg hg args vals as hpre hlay hrd hwl hlo
 obtain rfl:dV=.none:=Dflts.none hD hdf
 obtain rfl:kV=.none:=Dflts.noKw hD
 obtain ⟨a,vs,ns,rfl,rfl,hobj,hints,hlen⟩:=zF hn hpre hwl
 refine enter_call (codeAny_mono (call w s₀ s₁ mg mb fa o pm cd doc a vs ns G Y ho (fd_plain hd) hcd hmg hobj hints hlen hg) fun r s' hq=>?_)
 obtain ⟨rfl,h2,h3,h4⟩:=hq
 exact ⟨.inl ⟨.bool true,.bool true,[],rfl,fun _=>rfl,.bool true,zG l _,fun _=>⟨List.Pairwise.nil,fun _ hm=>(nomatch hm)⟩⟩,h2,h3,h4⟩
section
variable {prog:Program} {w:World} {A:Around} {E:Value→Shared→Prop} {s:Shared} {K:Frag}
end
end Att
namespace L2
open PySem PySem.Spec PyProof.Rows
theorem rA:∀ {vs:List Value} {ns:List Int},IntsAre vs ns→Vals (ns.map V.int) vs
 | _,_,.nil=>.nil
 | _,_,.cons n t h=>.cons ⟨t,rfl⟩ (rA h)
noncomputable def Ir (H:Hp):Prop:=∀ b,H b=none∨∃ o xs,H b=some (.frz o (.lst xs))
theorem AV {P:Program} {w:World} {K:PySem.W.Frag} {mg mb:Str→Option Value} {CX:CXT} {k:Nat} {fa a:Addr} {fd:FuncData} {x:Str} {sp:Sp} {s₁:Shared} {vs:List Value} {ns:List Int}
  (KX:K.In s₁.heap) (hns:s₁.heap.Ns mainGlobals mg) (hb:s₁.heap.Ns builtinsNs mb) (hbb:∀ x:Str,x ≠ "__name__" → mb x=bootBuiltins x) (hlim:s₁.heap.NoLimit) (hg:s₁.gens=#[])
  (ha:s₁.heap.get? a=some { cls:=.type "list",data:=.seq vs.toArray }) (hi:IntsAre vs ns) (hl:ns.length≤sizeLine) (hr:bL k callerA)
  (F:∀ base:Heap,K.In base→base.Ns mainGlobals mg→aW P w K mg base CX k fa fd [x] sp) (hbind:∀ (s:Shared) (u:Value),BindsTo s fd ⟨[u],[]⟩ [(x,u)])
  (hsp:∀ H:Hp,Ir H→SqL K H a (ns.map V.int)→sp [.ref a] H (fun v _=>v=.bl true) fun _ _ _=>False)
  (hCX:∀ H e s',CX [] H s₁ (fun _ _ _=>False) e s'→False) :
  codeAny (model P w) callerA (.call (.ref fa) ⟨[.ref a],[]⟩) (fun r s'=>r=.ok (.ret (.bool true))∧OldK s₁.heap s'.heap∧s'.os=s₁.os∧AllBare s'.gens) s₁:=by
 have rv:=rA hi
 have MN:=hi.length
 have core:∀ H:Hp,Ir H→SqL K H a (ns.map V.int)→HOk P w H s₁.heap→(∀ b,H b≠none→b=a)→(H a≠none→K.lookup a=none) →
   codeAny (model P w) callerA (.call (.ref fa) ⟨[.ref a],[]⟩) (fun r s'=>r=.ok (.ret (.bool true))∧OldK s₁.heap s'.heap∧s'.os=s₁.os∧AllBare s'.gens) s₁:=by
  intro H hO hS hok hA hK
  have yi:∀ {b:Addr} {o:Obj},s₁.heap.get? b=some o→H b=none→(sC s₁.heap H).get? b=some o:=fun e n=>As e n
  have noA:∀ {b:Addr} {o:Obj} {es:Array DictEntry} {ep:Nat},s₁.heap.get? b=some o→o.data=.dict es ep→H b=none:=fun {b o es ep} e d=>by
   cases q:H b with
   | none=>rfl
   | some u=>
    have e':b=a:=hA b (by rw [q];simp)
    subst e'
    rw [ha] at e;cases e
    have d':Data.seq vs.toArray _=Data.dict es ep:=d
    cases d'
  have nsK:∀ {b:Addr} {m:Str→Option Value},s₁.heap.Ns b m→(sC s₁.heap H).Ns b m:=fun {b m} ⟨o,es,ep,e,d,r⟩=>⟨o,es,ep,yi e (noA e d),d,r⟩
  have hKb:K.In (sC s₁.heap H):=fun b o e=>yi (KX b o e) (by
   cases q:H b with
   | none=>rfl
   | some u=>
    have e':b=a:=hA b (by rw [q];simp)
    subst e'
    rw [hK (by rw [q];simp)] at e;cases e)
  have hM:Mod K mg (sC s₁.heap H):=⟨hKb,nsK hns,⟨mb,nsK hb,hbb⟩,let ⟨mc,h1,h2⟩:=hlim;⟨mc,nsK h1,h2⟩⟩
  have e0:DX P w K mg (sC s₁.heap H) callerA [] s₁ H:=⟨rfl,hM,fun b o e=>DK e,Nat.le_of_eq (zo _ _),trivial,fun b hb=>absurd (show b∈([]:List Addr) from hb) (by simp),hok,.of_eq hg⟩
  refine codeAny_mono ((F _ hKb (nsK hns)).run callerA [] s₁ H ⟨[.ref a],[]⟩ [.ref a] [.ref a] _ _ hr e0 (hbind s₁ (.ref a)) (.cons rfl .nil) (hsp H hO hS)) fun r s' h=>?_
  cases r with
  | error e=>exact (hCX H e s' h).elim
  | ok fl=>
   cases fl with
   | next=>exact False.elim h
   | brk=>exact False.elim h
   | cont=>exact False.elim h
   | ret u=>
    obtain ⟨v,H',os,bare,un,MO,r',q⟩:=h
    have q':v=.bl true:=q
    subst q'
    obtain rfl:u=Value.bool true:=r'
    refine ⟨rfl,OldK.of_keep fun b o e=>?_,os,bare⟩
    cases q:H b with
    | none=>exact un.keep b o e q (by intro z;exact absurd (show b∈([]:List Addr) from z) (by simp)) (by simp)
    | some u=>
     rcases hO b with z | ⟨ob,xs,z⟩
     ·rw [q] at z;cases z
     ·have z2:=un.nX b ob _ z
      obtain ⟨e1,_⟩:=hok b _ z
      obtain ⟨e2,_⟩:=MO b _ z2
      rw [e] at e1;cases e1
      exact e2
 cases hk:K.lookup a with
 | some o=>
  have e:=KX a o hk
  rw [ha] at e
  cases e
  refine core (fun _=>none) (fun _=>.inl rfl) (.inr ⟨_,vs.toArray,_,hk,rfl,rfl,rfl,by rw [List.size_toArray,MN];exact hl,by simpa using rv⟩) (fun b u z=>by have z':(none:Option HO)=some u:=z;cases z') (fun b z=>absurd rfl z) fun z=>absurd rfl z
 | none=>
  refine core (fun b=>if b=a then some (.frz { cls:=.type "list",data:=.seq vs.toArray } (.lst (ns.map V.int))) else none) (fun b=>?_) (.inl (.inr ⟨{ cls:=.type "list",data:=.seq vs.toArray },if_pos rfl⟩)) (fun b u z=>?_) (fun b z=>?_) fun _=>hk
  ·by_cases hb:b=a
   ·exact .inr ⟨_,_,if_pos hb⟩
   ·exact .inl (if_neg hb)
  ·by_cases hb:b=a
   ·have z':=(if_pos hb).symm.trans z
    cases z'
    subst hb
    exact ⟨ha,by rw [List.length_map];exact hl,vs,_,rv,ha⟩
   ·have z':=(if_neg hb).symm.trans z
    cases z'
  ·by_cases hb:b=a
   ·exact hb
   ·exact absurd (if_neg hb) z
theorem D3 {l:PySem.W.OpenLaw} {n k:Nat} {q:Program} {loose:List Str} {XP:(Str→Option Value)→Heap→Prop} {YP:World→Heap→Prop} {d:DefRec} {K:Params→PySem.W.Frag} {CX:World→CXT} {sp:World→Sp} {x:Str}
  (hn:l.most=some n) (hn2:n≤sizeLine) (hdf:d.params.defaults=[]) (hr:bL k callerA)
  (hY:∀ (w:World) (h:Heap),YP w h→(K w.params).In h)
  (F:∀ (w:World) (mg:Str→Option Value) (fa:Addr) (h:Heap),(K w.params).In h→h.Ns mainGlobals mg→mg d.name=some (.ref fa) →
   ∃ fd:FuncData,(∀ (s:Shared) (u:Value),BindsTo s fd ⟨[u],[]⟩ [(x,u)]) ∧
    ∀ base:Heap,(K w.params).In base→base.Ns mainGlobals mg→aW l.prog w (K w.params) mg base (CX w) k fa fd [x] (sp w))
  (hsp:∀ (w:World) (H:Hp) (a:Addr) (ns:List Int),ns.length≤n→Ir H→SqL (K w.params) H a (ns.map V.int)→sp w [.ref a] H (fun v _=>v=.bl true) fun _ _ _=>False)
  (hCX:∀ (w:World) (H:Hp) (s:Shared) (e:Value) (s':Shared),CX w [] H s (fun _ _ _=>False) e s'→False) :
  PySem.W.WalkO q loose XP YP l.row.toRowW d [] (fun f vs=>PySem.call f vs):=by
 refine Att.uH hn hdf fun w s₀ s₁ mg mb fa o pm cd doc a vs ns G Y ho hd hcd hmg hobj hints hlen hg=>?_
 have KX:=hY w _ Y
 obtain ⟨fd,hb,hF⟩:=F w mg fa _ KX G.T.g hmg
 exact AV KX G.T.g G.T.b G.T.builtins G.T.nolimit hg hobj hints (Nat.le_trans hlen hn2) hr hF hb (fun H hO hS=>hsp w H a ns hlen hO hS) fun H e s'=>hCX w H s₁ e s'
noncomputable def aZ (s:Stmt):Arguments:=match s with
 | .FunctionDef _ a _ _ _ _ _ _ _ _=>a
 | _=>{ posonlyargs:=[],args:=[],vararg:=none,kwonlyargs:=[],kw_defaults:=[],kwarg:=none,defaults:=[] }
noncomputable def aO (s:Stmt):List Stmt:=match s with
 | .FunctionDef _ _ b _ _ _ _ _ _ _=>b
 | _=>[]
noncomputable def aj (s:Stmt):Scope:=match s with
 | .FunctionDef _ _ _ _ _ _ sc _ _ _=>sc
 | _=>{ kind:=.function,names:=[],isGenerator:=false,isCoroutine:=false }
noncomputable abbrev CX0:CXT:=fun _ _ _ _ _ _=>False
noncomputable abbrev E0:XK:=fun _ _ _=>False
theorem yj {X:Cx}:Passes CX0 X E0:=fun _ _ _ _ _ _ _ h=>h.elim
structure Fun (K:PySem.W.Frag) (x qual:Str) (st:Stmt) (f:Addr) (fd:FuncData):Prop where
 ex:∃ (oc:Value) (od:Option Addr) (kV doc pm:Value) (an:Option Addr) (cdv ct:Value) (osl:Array (Option Value)),
  fd=PySem.W.fnOf x qual (aZ st) (aO st) (aj st) .none kV doc pm an cdv ct∧K.lookup f=some ⟨oc,od,.func fd,osl⟩∧PySem.W.codeIn K cdv qual=true
 kp:PySem.W.keepIn K (.ref f)=true
section
variable {P:Program} {w:World} {K:PySem.W.Frag} {mg:Str→Option Value} {base:Heap}
theorem Fun.ok {x qual:Str} {st:Stmt} {f:Addr} {fd:FuncData} {N ps:List Str} {k:Nat} {sp:Sp} (F:Fun K x qual st f fd) (S:aK N ps (aj st)) (len:∀ vs H Q E,sp vs H Q E→vs.length=ps.length)
  (hbody:∀ (cdv:Value) (A:Around) (outer:List Env) (s:Shared) (H:Hp) (vs:List V) (Q:VK) (E:XK),bL k (A.deeper (envOfC qual (aj st) s.heap.objs.size f cdv))→sp vs H Q E →
   ∃ t,PSs (g6 CX0 P w K mg base N qual (aj st) f cdv A outer s H E).nox (aO st) t∧t { nx:=fun _ H'=>Q .non H',rt:=Q } (start N vs) H):aW P w K mg base CX0 (k+1) f fd ps sp:=by
 obtain ⟨oc,od,kV,doc,pm,an,cdv,ct,osl,rfl,lk,hcd⟩:=F.ex
 refine yc lk hcd S len fun A outer s H vs Q E hr hsp=>?_
 obtain ⟨t,h,q⟩:=hbody cdv A outer s H vs Q E hr hsp
 exact ⟨t,h.nox,q⟩
theorem Fun.binds {x qual:Str} {st:Stmt} {f:Addr} {fd:FuncData} {ps:List Str} (F:Fun K x qual st f fd)
  (h:∀ (kV doc pm:Value) (an:Option Addr) (cdv ct:Value) (us:List Value),us.length=ps.length→bindArgs (PySem.W.fnOf x qual (aZ st) (aO st) (aj st) .none kV doc pm an cdv ct) ⟨us,[]⟩=pure (ps.zip us)):Binds K fd ps []:=by
 obtain ⟨oc,od,kV,doc,pm,an,cdv,ct,osl,rfl,lk,hcd⟩:=F.ex
 exact .all (h kV doc pm an cdv ct)
theorem Iu {x qual:Str} {st:Stmt} {f:Addr} {oc:Value} {od an:Option Addr} {osl:Array (Option Value)} {kV doc pm cdv ct:Value} (l:K.lookup f=some ⟨oc,od,.func (PySem.W.fnOf x qual (aZ st) (aO st) (aj st) .none kV doc pm an cdv ct),osl⟩)
  (c:PySem.W.codeIn K cdv qual=true) (k:PySem.W.keepIn K (.ref f)=true):Fun K x qual st f (PySem.W.fnOf x qual (aZ st) (aO st) (aj st) .none kV doc pm an cdv ct):=⟨⟨oc,od,kV,doc,pm,an,cdv,ct,osl,rfl,l,c⟩,k⟩
end
section
variable {X:Cx}
end
noncomputable def az (H H':Hp):Prop:=∀ b o,H b=some o→H' b=some o
theorem az.refl (H:Hp):az H H:=fun _ _ h=>h
theorem az.trans {H H1 H2:Hp} (a:az H H1) (b:az H1 H2):az H H2:=fun c o h=>b c o (a c o h)
theorem az.free {H H':Hp} (e:az H H') {l:Addr} (h:H' l=Option.none):H l=Option.none:=by
 cases q:H l with
 | none=>rfl
 | some o=>
  rw [e l o q] at h
  cases h
section
variable {κ:Type} [DecidableEq κ]
noncomputable def mK (kvs:List (κ×V)) (k:κ):Option V:=(kvs.find? fun kv=>decide (kv.1=k)).map (·.2)
noncomputable def putK (kvs:List (κ×V)) (k:κ) (v:V):List (κ×V):=
 if (kvs.any fun kv=>decide (kv.1=k))=true then kvs.map (fun kv=>if kv.1=k then (kv.1,v) else kv) else kvs++[(k,v)]
theorem lu {p:κ×V} {r:List (κ×V)} {k:κ} (e:p.1=k):mK (p::r) k=some p.2:=by simp [mK,List.find?_cons,e]
theorem ly {p:κ×V} {r:List (κ×V)} {k:κ} (e:¬ p.1=k):mK (p::r) k=mK r k:=by simp [mK,List.find?_cons,e]
theorem uI (k:κ):∀ kvs:List (κ×V),(kvs.any fun kv=>decide (kv.1=k))=(mK kvs k).isSome
 | []=>rfl
 | p::r=>by
  rw [List.any_cons]
  by_cases e:p.1=k
  ·simp only [lu e,decide_eq_true e,Bool.true_or,Option.isSome_some]
  ·rw [ly e,decide_eq_false e,Bool.false_or];exact uI k r
theorem iV (kvs:List (κ×V)) (k:κ) (v:V):(putK kvs k v).length≤kvs.length+1:=by
 unfold putK
 split
 ·rw [List.length_map];omega
 ·rw [List.length_append,List.length_cons,List.length_nil];omega
theorem oM.gI {o:Option V} {u:Option Value} (r:oM o u):o.isSome=u.isSome:=by
 cases o with
 | none=>cases u with
  | none=>rfl
  | some _=>exact (show False from r).elim
 | some _=>cases u with
  | none=>exact (show False from r).elim
  | some _=>rfl
theorem KV.val {kvs:List (κ×V)} {vs:List (κ×Value)} (r:KV kvs vs) (k:κ):oM (mK kvs k) (valueAt vs k):=by
 unfold KV at r
 induction r with
 | nil=>exact True.intro
 | @cons p q ps qs h t ih=>
  obtain ⟨h1,h2⟩:=h
  by_cases e:p.1=k
  ·have e':q.1=k:=h1.symm.trans e
   have b:valueAt (q::qs) k=some q.2:=by simp [valueAt,List.find?_cons,e']
   rw [lu e,b];exact h2
  ·have e':¬ q.1=k:=fun z=>e (h1.trans z)
   have b:valueAt (q::qs) k=valueAt qs k:=by simp [valueAt,List.find?_cons,e']
   rw [ly e,b];exact ih
theorem KV.any {kvs:List (κ×V)} {vs:List (κ×Value)} (r:KV kvs vs) (k:κ):(kvs.any fun kv=>decide (kv.1=k))=vs.any fun kv=>decide (kv.1=k):=by
 unfold KV at r
 induction r with
 | nil=>rfl
 | cons h t ih=>rw [List.any_cons,List.any_cons,ih,h.1]
theorem KV.repl {kvs:List (κ×V)} {vs:List (κ×Value)} (r:KV kvs vs) (k:κ) {y:V} {u:Value} (ry:RelV y u) :
  KV (kvs.map fun kv=>if kv.1=k then (kv.1,y) else kv) (vs.map fun kv=>if kv.1=k then (kv.1,u) else kv):=by
 unfold KV at r ⊢
 induction r with
 | nil=>exact .nil
 | @cons p q ps qs h t ih=>
  rw [List.map_cons,List.map_cons]
  refine .cons ?_ ih
  obtain ⟨h1,h2⟩:=h
  by_cases e:p.1=k
  ·rw [if_pos e,if_pos (h1.symm.trans e)];exact ⟨h1,ry⟩
  ·rw [if_neg e,if_neg (fun z=>e (h1.trans z))];exact ⟨h1,h2⟩
theorem KV.put {kvs:List (κ×V)} {vs:List (κ×Value)} (r:KV kvs vs) (k:κ) {y:V} {u:Value} (ry:RelV y u):KV (putK kvs k y) (stored vs k u):=by
 unfold putK stored
 rw [r.any k]
 by_cases e:(vs.any fun kv=>decide (kv.1=k))=true
 ·rw [if_pos e,if_pos e];exact r.repl k ry
 ·rw [if_neg e,if_neg e];exact Paired.snoc r ⟨rfl,ry⟩
theorem KV.length {kvs:List (κ×V)} {vs:List (κ×Value)} (r:KV kvs vs):kvs.length=vs.length:=Paired.length r
end
theorem rB {P:Program} {w:World} {k:Key} {u:Value} (r:RelV (kV k) u):(bU P w).is k u=true:=by
 cases k with
 | inl i=>obtain ⟨t,e⟩:=(show ∃ t,u=Value.int i t from r);subst e;exact uu P w i t
 | inr x=>obtain ⟨t,e⟩:=(show ∃ t,u=Value.str x t from r);subst e;exact uv P w x t
theorem rC {P:Program} {w:World}:∀ {ks:List Key} {us:List Value},Vals (ks.map kV) us→ItemsAre (bU P w) ks us
 | [],_,r=>by rw [List.map_nil] at r;cases r;exact .nil
 | k::ks,_,r=>by
  rw [List.map_cons] at r
  cases r with
  | cons h t=>exact .cons (rB h) (rC t)
noncomputable abbrev KT (H:Hp):List (List Key×V)→List (List Key×Addr×Value)→Prop:=Paired fun p q=>p.1=q.1∧H q.2.1=some (.tup (p.1.map kV))∧RelV p.2 q.2.2
theorem KT.val {H:Hp} {kvs:List (List Key×V)} {xs:List (List Key×Addr×Value)} (r:KT H kvs xs) (k:List Key):oM (mK kvs k) ((atKey xs k).map (·.2)):=by
 induction r with
 | nil=>exact True.intro
 | @cons p q ps qs h t ih=>
  obtain ⟨h1,_,h2⟩:=h
  by_cases e:p.1=k
  ·have e':q.1=k:=h1.symm.trans e
   have b:atKey (q::qs) k=some q.2:=by simp [atKey,List.find?_cons,e']
   rw [lu e,b];exact h2
  ·have e':¬ q.1=k:=fun z=>e (h1.trans z)
   have b:atKey (q::qs) k=atKey qs k:=by simp [atKey,List.find?_cons,e']
   rw [ly e,b];exact ih
theorem KT.repl {H:Hp} {kvs:List (List Key×V)} {xs:List (List Key×Addr×Value)} (r:KT H kvs xs) (k:List Key) {y:V} {u:Value} (ry:RelV y u) :
  KT H (kvs.map fun kv=>if kv.1=k then (kv.1,y) else kv) (xs.map (putAt k u)):=by
 induction r with
 | nil=>exact .nil
 | @cons p q ps qs h t ih=>
  rw [List.map_cons,List.map_cons]
  refine .cons ?_ ih
  obtain ⟨h1,h2,h3⟩:=h
  unfold putAt
  by_cases e:p.1=k
  ·rw [if_pos e,if_pos (h1.symm.trans e)];exact ⟨h1,h2,ry⟩
  ·rw [if_neg e,if_neg (fun z=>e (h1.trans z))];exact ⟨h1,h2,h3⟩
theorem KT.put {H:Hp} {kvs:List (List Key×V)} {xs:List (List Key×Addr×Value)} (r:KT H kvs xs) (k:List Key) {b:Addr} {y:V} {u:Value} (hb:H b=some (.tup (k.map kV))) (ry:RelV y u) :
  KT H (putK kvs k y) (storedH xs k b u):=by
 have e:(kvs.any fun kv=>decide (kv.1=k))=(atKey xs k).isSome:=by
  rw [uI,(r.val k).gI,Option.isSome_map]
 unfold putK storedH
 rw [e]
 by_cases q:(atKey xs k).isSome=true
 ·rw [if_pos q,if_pos q];exact r.repl k ry
 ·rw [if_neg q,if_neg q];exact Paired.snoc r ⟨rfl,hb,ry⟩
theorem KT.keeps {H H':Hp} {kvs:List (List Key×V)} {xs:List (List Key×Addr×Value)} (r:KT H kvs xs) (ht:∀ b ys,H b=some (.tup ys)→H' b=some (.tup ys)):KT H' kvs xs:=
 Paired.Hx r fun _ _ z=>⟨z.1,ht _ _ z.2.1,z.2.2⟩
section
variable {P:Program} {w:World} {H:Hp} {h:Heap} {a:Addr}
theorem Gm {u:HO} (ok:HOk P w H h) (e:Rd H a u):bu P w H h a u:=e.ok ok
theorem uJ {kvs:List (Key×V)} (ok:HOk P w H h) (e:Rd H a (.dK kvs)):kvs.length≤sizeLine∧(a == sysModules)=false∧∃ vs,KV kvs vs∧h.DictOf (bU P w) a vs:=
 show bu P w H h a (.dK kvs) from Gm ok e
theorem Gn {kvs:List (Key×V)} (ok:HOk P w H h) (e:H a=some (.dK kvs)):kvs.length≤sizeLine∧(a == sysModules)=false∧∃ vs,KV kvs vs∧h.DictOf (bU P w) a vs:=uJ ok (.inl e)
theorem oX {ks:List Key} (ok:HOk P w H h) (e:H a=some (.tup (ks.map kV))):(tupleKind (bU P w)).is h ks a:=by
 obtain ⟨_,its,r,o,h1,h2,n,h3⟩:=(show bu P w H h a (.tup (ks.map kV)) from ok a _ e)
 exact ⟨o,its.toArray,n,h1,h2,h3,by simpa using rC r⟩
theorem uK {kvs:List (List Key×V)} (ok:HOk P w H h) (e:Rd H a (.dT kvs)):kvs.length≤sizeLine∧(a == sysModules)=false ∧
  ∃ xs,KT H kvs xs∧h.DictOfH (tupleKind (bU P w)) a xs:=by
 obtain ⟨z,y,xs,r,o,es,ep,h1,h2,h3,h4,h5⟩:=(show bu P w H h a (.dT kvs) from Gm ok e)
 refine ⟨z,y,xs,r,o,es,ep,h1,h2,h3,h4,fun x hx=>?_,h5⟩
 have all:∀ {l:List (List Key×V)} {m:List (List Key×Addr×Value)},KT H l m→∀ x∈m,(tupleKind (bU P w)).is h x.1 x.2.1:=by
  intro l m q
  induction q with
  | nil=>intro x hx;exact nomatch hx
  | @cons p q ps qs hq t ih=>
   intro x hx
   rcases List.mem_cons.mp hx with e | hx
   ·subst e
    exact oX ok (by rw [← hq.1];exact hq.2.1)
   ·exact ih x hx
 exact all r x hx
theorem KL {kvs:List (List Key×V)} (ok:HOk P w H h) (e:H a=some (.dT kvs)):kvs.length≤sizeLine∧(a == sysModules)=false ∧
  ∃ xs,KT H kvs xs∧h.DictOfH (tupleKind (bU P w)) a xs:=uK ok (.inl e)
end
noncomputable def jZ (H:Hp) (a:Addr) (y:V) (r:Option V):Prop:=
 (∃ kvs k,Rd H a (.dK kvs)∧y=kV k∧r=mK kvs k)∨∃ kvs k b,Rd H a (.dT kvs)∧y=.ref b∧H b=some (.tup (k.map kV))∧r=mK kvs k
noncomputable def AW (H:Hp) (a:Addr) (y v:V) (H':Hp):Prop:=
 (∃ kvs k,H a=some (.dK kvs)∧y=kV k∧kvs.length<sizeLine∧H'=upd H a (.dK (putK kvs k v))) ∨
 ∃ kvs k b,H a=some (.dT kvs)∧y=.ref b∧H b=some (.tup (k.map kV))∧kvs.length<sizeLine∧H'=upd H a (.dT (putK kvs k v))
theorem jZ.k {H:Hp} {a:Addr} {kvs:List (Key×V)} {k:Key} (e:H a=some (.dK kvs)):jZ H a (kV k) (mK kvs k):=.inl ⟨kvs,k,.inl e,rfl,rfl⟩
theorem AW.k {H:Hp} {a:Addr} {kvs:List (Key×V)} {k:Key} {v:V} (e:H a=some (.dK kvs)) (hl:kvs.length<sizeLine):AW H a (kV k) v (upd H a (.dK (putK kvs k v))):=.inl ⟨kvs,k,e,rfl,hl,rfl⟩
section
variable {X:Cx} {pins:List (Addr×Obj)} {σ:St} {H:Hp} {s:Shared} {a:Addr} {y v:V} {u r:Value} {o:Option V} {A:Around} {E:Value→Shared→Prop}
theorem Inv.big (I:Inv X pins σ H s):sysModules<s.heap.objs.size:=by
 have h:mainGlobals<s.heap.objs.size:=(I.mod.glob.keeps I.bk).lt
 exact Nat.lt_trans (by decide) h
theorem zH {Q:Value→Shared→Prop} (hu:A.units+1<cLine) (I:Inv X pins σ H s) (g:jZ H a y (some v)) (ry:RelV y u) (h:∀ w' s',Inv X pins σ H s'→RelV v w'→Q w' s') :
  wpAny (model X.prog X.w) A (getItem (.ref a) u) Q E s:=by
 rcases g with ⟨kvs,k,e,ey,l⟩ | ⟨kvs,k,b,e,ey,eb,l⟩
 ·subst ey
  obtain ⟨z,hd,vs,rel,dd⟩:=uJ I.hok e
  obtain ⟨w',hw,rw'⟩:=oM.some_of (v:=v) (o:=valueAt vs k) (by rw [l];exact rel.val k)
  exact wpAny_getItem_of (rB ry) dd.mapOf hw (h w' _ (I.tok _) rw')
 ·subst ey
  cases (show u=Value.ref b from ry)
  obtain ⟨z,hd,xs,rel,dd⟩:=uK I.hok e
  obtain ⟨w',hw,rw'⟩:=oM.some_of (v:=v) (o:=(atKey xs k).map (·.2)) (by rw [l];exact rel.val k)
  obtain ⟨p,hp,hp2⟩:=Option.map_eq_some_iff.mp hw
  refine wpAny_getItem_heap (tupleKind_room_in1 hu) (oX I.hok eb) dd hp ?_
  rw [hp2]
  exact h w' _ (I.tok _) rw'
theorem D4 {Q:Value→Shared→Prop} (hu:A.units+1<cLine) (I:Inv X pins σ H s) (g:jZ H a y o) (ry:RelV y u) (h:∀ s',Inv X pins σ H s'→Q (.bool o.isSome) s') :
  wpAny (model X.prog X.w) A (compareOp .In u (.ref a)) Q E s:=by
 rcases g with ⟨kvs,k,e,ey,l⟩ | ⟨kvs,k,b,e,ey,eb,l⟩
 ·subst ey
  obtain ⟨z,hd,vs,rel,dd⟩:=uJ I.hok e
  refine wpAny_in_of (rB ry) hd dd.mapOf ?_
  rw [← (rel.val k).gI,← l]
  exact h _ (I.tok _)
 ·subst ey
  cases (show u=Value.ref b from ry)
  obtain ⟨z,hd,xs,rel,dd⟩:=uK I.hok e
  refine wpAny_in_heap (tupleKind_room_in1 hu) (oX I.hok eb) hd dd ?_
  have q:=(rel.val k).gI
  rw [Option.isSome_map] at q
  rw [← q,← l]
  exact h _ (I.tok _)
theorem D5 {Q:Value→Shared→Prop} (hu:A.units+1<cLine) (I:Inv X pins σ H s) (g:jZ H a y o) (ry:RelV y u) (h:∀ s',Inv X pins σ H s'→Q (.bool (!o.isSome)) s') :
  wpAny (model X.prog X.w) A (compareOp .NotIn u (.ref a)) Q E s:=by
 rcases g with ⟨kvs,k,e,ey,l⟩ | ⟨kvs,k,b,e,ey,eb,l⟩
 ·subst ey
  obtain ⟨z,hd,vs,rel,dd⟩:=uJ I.hok e
  refine wpAny_notIn_of (rB ry) hd dd.mapOf ?_
  rw [← (rel.val k).gI,← l]
  exact h _ (I.tok _)
 ·subst ey
  cases (show u=Value.ref b from ry)
  obtain ⟨z,hd,xs,rel,dd⟩:=uK I.hok e
  refine wpAny_notIn_heap (tupleKind_room_in1 hu) (oX I.hok eb) hd dd ?_
  have q:=(rel.val k).gI
  rw [Option.isSome_map] at q
  rw [← q,← l]
  exact h _ (I.tok _)
theorem sO {h':Heap} {t':Nat} {ob:HO} (I:Inv X pins σ H s) (mu:Mut (H a)) (hs:Heap.SameBut a s.heap h') (he:∃ q,h'.get? a=some q) (new:bu X.prog X.w (upd H a ob) h' a ob) :
  Inv X pins σ (upd H a ob) { s with heap:=h',toks:=t' }:=
 I.write (x:=a) (e:=a) mu (.inl rfl) (fun b q hb z=>(hs.2 b hb).trans z) he new
theorem AX {P:Program} {w:World} {H':Hp} {h':Heap} {kvs:List (Key×V)} {vs:List (Key×Value)} (z:kvs.length≤sizeLine) (hd:(a == sysModules)=false) (rel:KV kvs vs) (dd:h'.DictOf (bU P w) a vs) :
  bu P w H' h' a (.dK kvs):=⟨z,hd,vs,rel,dd⟩
theorem zI {H':Hp} {Q:Unit→Shared→Prop} (hu:A.units+1<cLine) (I:Inv X pins σ H s) (g:AW H a y v H') (ry:RelV y u) (rv:RelV v r) (h:∀ s',Inv X pins σ H' s'→Q () s') :
  wpAny (model X.prog X.w) A (setItem (.ref a) u r) Q E s:=by
 rcases g with ⟨kvs,k,e,ey,l,eH⟩ | ⟨kvs,k,b,e,ey,eb,l,eH⟩
 ·subst ey eH
  obtain ⟨z,hd,vs,rel,dd⟩:=Gn I.hok e
  have hz:vs.length≤sizeLine:=by rw [← rel.length];exact z
  have hl:(putK kvs k v).length≤sizeLine:=by have:=iV kvs k v;omega
  refine wpAny_setItem_pairs (hsz:=hz) (rB ry) dd fun h' dd' hs=>h _ ?_
  have he:∃ q,h'.get? a=some q:=let ⟨q,_,_,hq,_⟩:=dd';⟨q,hq⟩
  exact sO I (by rw [e];exact True.intro) hs he (AX hl hd (rel.put k rv) dd')
 ·subst ey eH
  cases (show u=Value.ref b from ry)
  obtain ⟨z,hd,xs,rel,dd⟩:=KL I.hok e
  have hz:xs.length≤sizeLine:=by rw [← Paired.length rel];exact z
  have hl:(putK kvs k v).length≤sizeLine:=by have:=iV kvs k v;omega
  refine wpAny_setItem_heap (hsz:=hz) (tupleKind_room_in1 hu) (oX I.hok eb) dd fun h' dd' hs=>h _ ?_
  obtain ⟨q,es,ep,hq,h2,h3,h4,_,h5⟩:=dd'
  refine sO I (by rw [e];exact True.intro) hs ⟨q,hq⟩ ⟨hl,hd,_,(rel.put k eb rv).keeps fun c ys ec=>?_,q,es,ep,hq,h2,h3,h4,h5⟩
  rw [ay (Kn ec e (fun z=>nomatch z))]
  exact ec
end
section
variable {X:Cx} {pins:List (Addr×Obj)} {σ:St} {H:Hp} {s:Shared} {a:Addr} {kvs:List (Key×V)} {k:Key} {u:Value} {A:Around} {E:Value→Shared→Prop}
end
noncomputable def Iv (i:Expr):Prop:=∀ ov iv,subscripted i false ov iv=operate [ov,iv] (getItem ov iv)
theorem D6 {prog:Program} {w:World} {A:Around} {E:Value→Shared→Prop} {s:Shared} {env:Env} {value slice:Expr} {pos:Pos} {T id:String} {Q:Value→Shared→Prop}
  (hl:typeLookup (.type T) "__getitem__" = pure (some (.builtin id))) (hs:Iv slice)
  (h:wpAny (model prog w) A (eval value env) (fun o s₁=>wpAny (model prog w) A (eval slice env) (fun i s₂=>s₂.TypeIs o T∧wpAny (model prog w) A (getItem o i) Q E s₂) E s₁) E s) :
  wpAny (model prog w) A (eval (.Subscript value slice pos) env) Q E s:=by
 refine Subscript_ (wpAny_mono h (fun o s₁ h₁=>wpAny_mono h₁ (fun i s₂ h₂=>?_) fun _ _ x=>x) fun _ _ x=>x)
 obtain ⟨hT,h₂⟩:=h₂
 unfold subscriptTail
 refine wpAny_bind ?_
 rw [getitemInPython_of_ne hT.not_modules]
 refine wpAny_bind (wpAny_specialOf hT hl ?_)
 have fin:wpAny (model prog w) A (subscripted slice false o i) (fun r s₃=>wpAny (model prog w) A (letTemporaryGo value o r >>= fun _=>pure r) Q E s₃) E s₂:=by
  rw [hs o i]
  exact wpAny_operating (wpAny_mono h₂ (fun r s₃ h₃=>wpAny_bind (wpAny_letTemporaryGo (wpAny_pure h₃))) fun _ _ x=>x)
 first
  | exact wpAny_pure (wpAny_bind fin)
  | exact wpAny_bind (wpAny_pure (wpAny_bind fin))
  | exact wpAny_bind fin
theorem uL {X:Cx} {pins:List (Addr×Obj)} {σ:St} {H:Hp} {s:Shared} {a:Addr} {y:V} {o:Option V} (I:Inv X pins σ H s) (g:jZ H a y o):s.TypeIs (.ref a) "dict" := by
 rcases g with ⟨kvs,k,e,_,_⟩ | ⟨kvs,k,b,e,_,_,_⟩
 ·obtain ⟨_,_,vs,_,dd⟩:=uJ I.hok e
  exact dd.typeIs
 ·obtain ⟨_,_,xs,_,dd⟩:=uK I.hok e
  exact dd.typeIs
noncomputable def KN (td ty:TE):TE:=fun σ H Q=>td σ H fun x H1=>ty σ H1 fun y H2=>∃ a v,x=.ref a∧jZ H2 a y (some v)∧Q v H2
noncomputable def MP (ty td:TE):TE:=fun σ H Q=>ty σ H fun y H1=>td σ H1 fun x H2=>∃ a o,x=.ref a∧jZ H2 a y o∧Q (.bl o.isSome) H2
noncomputable def D7 (ty td:TE):TE:=fun σ H Q=>ty σ H fun y H1=>td σ H1 fun x H2=>∃ a o,x=.ref a∧jZ H2 a y o∧Q (.bl (!o.isSome)) H2
noncomputable def Gp (td ty tv:TE):TS:=fun D σ H=>tv σ H fun v H1=>td σ H1 fun x H2=>ty σ H2 fun y H3=>∃ a H4,x=.ref a∧AW H3 a y v H4∧D.nx σ H4
section
variable {X:Cx} {o i e value:Expr} {pos pos' tpos:Pos} {td ty tv:TE}
theorem D8 (hu:X.A.units+1<cLine) (ho:PE X o td) (hi:PE X i ty) (hs:Iv i):PE X (.Subscript o i pos) (KN td ty):=by
 intro pins s σ H Q I h
 refine D6 PySem.F.slot_dict_getitem.lookup hs (thn (ho pins s σ H _ I h) fun u s1 ⟨x,H1,I1,rx,q1⟩=>thn (hi pins s1 σ H1 _ I1 q1) fun iv s2 ⟨y,H2,I2,ry,a,v,ex,g,q2⟩=>?_)
 subst ex
 obtain rfl:u=Value.ref a:=rx
 exact ⟨uL I2 g,zH hu I2 g ry fun w' s3 I3 rw'=>⟨v,H2,I3,rw',q2⟩⟩
theorem Iw (hu:X.A.units+1<cLine) (hi:PE X i ty) (ho:PE X o td):PC X .In i o (MP ty td):=by
 intro pins s σ H Q I h
 refine thn (hi pins s σ H _ I h) fun iv s1 ⟨y,H1,I1,ry,q1⟩=>thn (ho pins s1 σ H1 _ I1 q1) fun u s2 ⟨x,H2,I2,rx,a,ov,ex,g,q2⟩=>?_
 subst ex
 obtain rfl:u=Value.ref a:=rx
 exact D4 hu I2 g ry fun s3 I3=>⟨.bl ov.isSome,H2,I3,rfl,q2⟩
theorem zJ (hu:X.A.units+1<cLine) (hi:PE X i ty) (ho:PE X o td):PC X .NotIn i o (D7 ty td):=by
 intro pins s σ H Q I h
 refine thn (hi pins s σ H _ I h) fun iv s1 ⟨y,H1,I1,ry,q1⟩=>thn (ho pins s1 σ H1 _ I1 q1) fun u s2 ⟨x,H2,I2,rx,a,ov,ex,g,q2⟩=>?_
 subst ex
 obtain rfl:u=Value.ref a:=rx
 exact D5 hu I2 g ry fun s3 I3=>⟨.bl (!ov.isSome),H2,I3,rfl,q2⟩
theorem D9 (hu:X.A.units+1<cLine) (ho:PE X o td) (hi:PE X i ty) (hv:PE X value tv) (hs:swapsWith value (some (.Subscript o i pos')) pos.line X.env=pure false) :
  PS X (.Assign [.Subscript o i pos'] value pos) (Gp td ty tv):=by
 intro pins s σ H D I h
 refine wpAny_Assign_Subscript (thn (hv pins s σ H _ I h) fun r s1 ⟨v,H1,I1,rv,q1⟩=>thn (ho pins s1 σ H1 _ I1 q1) fun u s2 ⟨x,H2,I2,rx,q2⟩=>thn (hi pins s2 σ H2 _ I2 q2) fun iv s3 ⟨y,H3,I3,ry,a,H4,ex,g,q3⟩=>?_) hs
 subst ex
 obtain rfl:u=Value.ref a:=rx
 exact zI hu I3 g ry rv fun s4 I4=>⟨σ,H4,I4,q3⟩
end
theorem uM {P:Program} {w:World} {H:Hp} (h:Heap) (hb:sysModules<h.objs.size):bu P w H (h.push { cls:=.type "dict",data:=.dict #[] }) h.objs.size (.dK []):=
 ⟨Nat.zero_le _,beq_eq_false_iff_ne.mpr (Ne.symm (Nat.ne_of_lt hb)),[],.nil,Heap.DictOf.new h⟩
noncomputable def AY:TE:=fun _ H Q=>∀ p,H p=none→Q (.ref p) (upd H p (.dK []))
section
variable {X:Cx} {pos:Pos}
theorem AZ:PE X (.Dict [] [] pos) AY:=fun pins s σ H Q I h=>
 wpAny_Dict_empty ⟨.ref s.heap.objs.size,_,I.laid (a:=s.heap.objs.size) (o:=.dK []) (t':=s.toks) (fun _ _ q=>Heap.get?_push_of_some _ q) (Nat.le_refl _) (uM s.heap I.big),rfl,h _ (I.hok.fresh (Nat.le_refl _))⟩
end
noncomputable def wD:List (TE×TE)→St→Hp→(List (V×V)→Hp→Prop)→Prop
 | [],_,H,Q=>Q [] H
 | (tk,tv)::r,σ,H,Q=>tk σ H fun x H1=>tv σ H1 fun y H2=>wD r σ H2 fun ps H3=>Q ((x,y)::ps) H3
noncomputable abbrev VV:List (V×V)→List (Value×Value)→Prop:=Paired fun p q=>RelV p.1 q.1∧RelV p.2 q.2
noncomputable def PPs (X:Cx) (pos:Pos) (keys:List (Option Expr)) (values:List Expr) (trs:List (TE×TE)):Prop:=
 ∀ (pins:List (Addr×Obj)) (s:Shared) (σ:St) (H:Hp) (Q:List (V×V)→Hp→Prop),Inv X pins σ H s→wD trs σ H Q →
  wpAny (model X.prog X.w) X.A (evalPairs (pairTrees keys values X.env pos)) (fun vs s'=>∃ ps H',Inv X pins σ H' s'∧VV ps vs∧Q ps H') X.xe s
theorem D_ {X:Cx} {pos:Pos}:PPs X pos [] [] []:=fun pins s σ H Q I h=>pairTrees_nil_walk ⟨[],H,I,.nil,h⟩
theorem A0 {X:Cx} {pos:Pos} {k v:Expr} {ks:List (Option Expr)} {vs:List Expr} {tk tv:TE} {trs:List (TE×TE)} (hk:PE X k tk) (hv:PE X v tv) (hr:PPs X pos ks vs trs) :
  PPs X pos (some k::ks) (v::vs) ((tk,tv)::trs):=fun pins s σ H Q I h=>
 pairTrees_cons_walk (thn (hk pins s σ H _ I h) fun u s1 ⟨x,H1,I1,rx,q1⟩=>thn (hv pins s1 σ H1 _ I1 q1) fun w2 s2 ⟨y,H2,I2,ry,q2⟩=>
  thn (hr pins s2 σ H2 _ I2 q2) fun ws s3 ⟨ps,H3,I3,rel,q3⟩=>⟨(x,y)::ps,H3,I3,.cons ⟨rx,ry⟩ rel,q3⟩)
noncomputable def mL (kvs more:List (Key×V)):List (Key×V):=more.foldl (fun acc kv=>putK acc kv.1 kv.2) kvs
theorem KV.merge:∀ {more:List (Key×V)} {rs:List (Key×Value)} {kvs:List (Key×V)} {vs:List (Key×Value)},KV more rs→KV kvs vs→KV (mL kvs more) (merged vs rs):=by
 intro more rs kvs vs r
 unfold KV at r
 induction r generalizing kvs vs with
 | nil=>intro q;exact q
 | @cons p q ps qs h t ih=>
  intro r0
  have e:KV (putK kvs p.1 p.2) (stored vs q.1 q.2):=by
   have:=r0.put p.1 h.2
   rw [← h.1];exact this
  exact ih e
theorem jR:∀ (more kvs:List (Key×V)),(mL kvs more).length≤kvs.length+more.length
 | [],kvs=>by show kvs.length≤kvs.length+0;omega
 | p::r,kvs=>by
  have h1:=jR r (putK kvs p.1 p.2)
  have h2:=iV kvs p.1 p.2
  show (mL (putK kvs p.1 p.2) r).length≤_
  rw [List.length_cons];omega
theorem oY {P:Program} {w:World}:∀ {kvs:List (Key×V)} {ws:List (Value×Value)},VV (kvs.map fun kv=>(kV kv.1,kv.2)) ws→∃ rs,Carries (bU P w) ws rs∧KV kvs rs
 | [],_,r=>by rw [List.map_nil] at r;cases r;exact ⟨[],True.intro,.nil⟩
 | p::kvs,_,r=>by
  rw [List.map_cons] at r
  cases r with
  | @cons a b as bs h t=>
   obtain ⟨rs,c,q⟩:=oY (P:=P) (w:=w) t
   obtain ⟨b1,b2⟩:=b
   exact ⟨(p.1,b2)::rs,⟨rB h.1,rfl,c⟩,.cons ⟨rfl,h.2⟩ q⟩
noncomputable def Gq (trs:List (TE×TE)):TE:=fun σ H Q=>∀ p,H p=none→wD trs σ (upd H p (.dK [])) fun ps H2=>H2 p=some (.dK [])∧∃ kvs:List (Key×V),ps=kvs.map (fun kv=>(kV kv.1,kv.2))∧kvs.length≤15∧Q (.ref p) (upd H2 p (.dK (mL [] kvs)))
theorem Ea {X:Cx} {pos:Pos} {keys:List (Option Expr)} {values:List Expr} {trs:List (TE×TE)} (h:PPs X pos keys values trs) (hall:keys.all (·.isSome)=true) (hl:keys.length=values.length) (h0:keys≠[])
  (h15:keys.length≤15):PE X (.Dict keys values pos) (Gq trs):=by
 intro pins s σ H Q I q
 have hn:=I.hok.fresh (Nat.le_refl s.heap.objs.size)
 have I1:=I.laid (a:=s.heap.objs.size) (o:=.dK []) (h':=s.heap.push { cls:=.type "dict",data:=.dict #[] }) (t':=s.toks) (fun _ _ q=>Heap.get?_push_of_some _ q) (Nat.le_refl _) (uM s.heap I.big)
 refine wpAny_Dict_walk (knd:=bU X.prog X.w) hall hl h0 h15 (thn (h pins _ σ _ _ I1 (q _ hn)) fun ws s2 ⟨ps,H2,I2,rel,e,kvs,ep,lk,q2⟩=>?_)
 subst ep
 obtain ⟨rs,c,rk⟩:=oY (P:=X.prog) (w:=X.w) rel
 obtain ⟨z,hd,vs0,r0,dd⟩:=Gn I2.hok e
 cases r0
 refine ⟨rs,c,dd,fun h' dd' hs=>⟨.ref s.heap.objs.size,_,?_,rfl,q2⟩⟩
 have hz:(mL [] kvs).length≤sizeLine:=by
  have h1:=jR kvs []
  rw [List.length_nil] at h1
  rw [sizeLine_eq];omega
 have he:∃ q,h'.get? s.heap.objs.size=some q:=let ⟨q,_,_,hq,_⟩:=dd';⟨q,hq⟩
 exact sO I2 (by rw [e];exact True.intro) hs he (AX hz hd (rk.merge .nil) dd')
section
variable {X:Cx} {pins:List (Addr×Obj)} {σ:St} {H:Hp} {s:Shared} {a:Addr} {y d:V} {u r:Value} {o:Option V} {A:Around} {E:Value→Shared→Prop}
end
section
variable {X:Cx} {o e f:Expr} {apos cpos:Pos} {td ty tx:TE}
end
section
variable {X:Cx} {pins:List (Addr×Obj)} {σ:St} {H:Hp} {s:Shared} {a:Addr} {kvs:List (Key×V)} {A:Around} {E:Value→Shared→Prop}
end
section
variable {X:Cx} {pins:List (Addr×Obj)} {σ:St} {H:Hp} {s:Shared} {a:Addr} {y:V} {u:Value} {A:Around} {E:Value→Shared→Prop}
end
end L2
namespace Dm
inductive Dat where
 | non
 | bl (b:Bool)
 | int (i:Int)
 | str (s:List Nat)
 | tup (xs:List Dat)
 | lst (xs:List Dat)
 | dct (ks:List Int) (vs:List Dat)
 | exc (C:Nat)
 | fn (a:Nat)
deriving Inhabited
inductive Cell where
 | un
 | sh (d:Dat)
 | ow (d:Dat)
deriving Inhabited
noncomputable abbrev Env:=List Cell
inductive Val where
 | val (d:Dat)
 | slot (i:Nat)
 | new (d:Dat)
inductive RV where
 | val (d:Dat)
 | new (d:Dat)
noncomputable def RV.dat:RV→Dat
 | .val d=>d
 | .new d=>d
noncomputable def RV.bG:RV→Val
 | .val d=>.val d
 | .new d=>.new d
noncomputable def SZ:Nat:=100000
noncomputable def fy:Dat→Bool
 | .tup _=>true
 | .lst _=>true
 | .dct _ _=>true
 | .exc _=>true
 | _=>false
noncomputable def pk (ρ:Env):Val→Option Dat
 | .val d=>some d
 | .new d=>some d
 | .slot i=>match ρ[i]? with
  | some (.ow d)=>some d
  | some (.sh d)=>some d
  | _=>none
noncomputable def tk (ρ:Env):Val→Option (Dat×Env)
 | .val d=>some (d,ρ)
 | .new d=>some (d,ρ)
 | .slot i=>match ρ[i]? with
  | some (.ow d)=>some (d,ρ.set i (.sh d))
  | some (.sh d)=>some (d,ρ)
  | _=>none
noncomputable def pks (ρ:Env):List Val→Option (List Dat)
 | []=>some []
 | x::r=>match pk ρ x with
  | none=>none
  | some d=>match pks ρ r with
   | none=>none
   | some ds=>some (d::ds)
noncomputable def tks (ρ:Env):List Val→Option (List Dat×Env)
 | []=>some ([],ρ)
 | x::r=>match tk ρ x with
  | none=>none
  | some (d,ρ1)=>match tks ρ1 r with
   | none=>none
   | some (ds,ρ2)=>some (d::ds,ρ2)
noncomputable abbrev FE:=Env→Option (Val×Env)
noncomputable abbrev FT:=Env→Option (Bool×Env)
noncomputable def eC (d:Dat):FE:=fun ρ=>some (.val d,ρ)
noncomputable def eV (i:Nat):FE:=fun ρ=>match ρ[i]? with
 | some (.sh d)=>some (.val d,ρ)
 | some (.ow _)=>some (.slot i,ρ)
 | _=>none
noncomputable def e1 (g:Dat→Option RV) (a:FE):FE:=fun ρ=>match a ρ with
 | none=>none
 | some (x,ρ1)=>match pk ρ1 x with
  | none=>none
  | some d=>match g d with
   | none=>none
   | some v=>some (v.bG,ρ1)
noncomputable def e2 (g:Dat→Dat→Option RV) (a b:FE):FE:=fun ρ=>match a ρ with
 | none=>none
 | some (x,ρ1)=>match b ρ1 with
  | none=>none
  | some (y,ρ2)=>match pk ρ2 x with
   | none=>none
   | some d=>match pk ρ2 y with
    | none=>none
    | some e=>match g d e with
     | none=>none
     | some v=>some (v.bG,ρ2)
noncomputable def eAs:List FE→Env→Option (List Val×Env)
 | [],ρ=>some ([],ρ)
 | a::r,ρ=>match a ρ with
  | none=>none
  | some (x,ρ1)=>match eAs r ρ1 with
   | none=>none
   | some (xs,ρ2)=>some (x::xs,ρ2)
noncomputable def eB (g:List Dat→Option RV) (as:List FE):FE:=fun ρ=>match eAs as ρ with
 | none=>none
 | some (xs,ρ1)=>match pks ρ1 xs with
  | none=>none
  | some ds=>match g ds with
   | none=>none
   | some v=>some (v.bG,ρ1)
noncomputable def bz (as:List FE):FE:=fun ρ=>match eAs as ρ with
 | none=>none
 | some (xs,ρ1)=>match tks ρ1 xs with
  | none=>none
  | some (ds,ρ2)=>if ds.length≤SZ then some (.val (.tup ds),ρ2) else none
noncomputable def cj (as:List FE):FE:=fun ρ=>match eAs as ρ with
 | none=>none
 | some (xs,ρ1)=>match tks ρ1 xs with
  | none=>none
  | some (ds,ρ2)=>if ds.length≤SZ then some (.new (.lst ds),ρ2) else none
noncomputable def eF (f:List Dat→Option RV) (as:List FE):FE:=fun ρ=>match eAs as ρ with
 | none=>none
 | some (xs,ρ1)=>match pks ρ1 xs with
  | none=>none
  | some ds=>match f ds with
   | none=>none
   | some v=>if fy v.dat then (match tks ρ1 xs with
     | none=>none
     | some (_,ρ2)=>some (v.bG,ρ2)) else some (v.bG,ρ1)
noncomputable def eIf (t:FT) (a b:FE):FE:=fun ρ=>match t ρ with
 | none=>none
 | some (true,ρ1)=>a ρ1
 | some (false,ρ1)=>b ρ1
noncomputable def gq (a b:FE):FE:=fun ρ=>match a ρ with
 | some (.val (.bl true),ρ1)=>b ρ1
 | some (.val (.bl false),ρ1)=>some (.val (.bl false),ρ1)
 | _=>none
noncomputable def qS (a:FE):FE:=fun ρ=>match a ρ with
 | some (.val (.bl c),ρ1)=>some (.val (.bl (!c)),ρ1)
 | _=>none
noncomputable def tV (a:FE):FT:=fun ρ=>match a ρ with
 | some (.val (.bl c),ρ1)=>some (c,ρ1)
 | _=>none
noncomputable def bY (t:FT):FT:=fun ρ=>match t ρ with
 | some (c,ρ1)=>some (!c,ρ1)
 | none=>none
noncomputable def fV (t u:FT):FT:=fun ρ=>match t ρ with
 | some (true,ρ1)=>u ρ1
 | some (false,ρ1)=>some (false,ρ1)
 | none=>none
noncomputable def tOr (t u:FT):FT:=fun ρ=>match t ρ with
 | some (true,ρ1)=>some (true,ρ1)
 | some (false,ρ1)=>u ρ1
 | none=>none
noncomputable def truth:Dat→Option Bool
 | .non=>some false
 | .bl b=>some b
 | .int i=>some (i != 0)
 | .tup xs=>some (!xs.isEmpty)
 | .lst xs=>some (!xs.isEmpty)
 | _=>none
noncomputable def tTr (a:FE):FT:=fun ρ=>match a ρ with
 | none=>none
 | some (x,ρ1)=>match pk ρ1 x with
  | none=>none
  | some d=>match truth d with
   | none=>none
   | some c=>some (c,ρ1)
noncomputable def cT:FT:=fun ρ=>some (true,ρ)
noncomputable abbrev FI:=Env→Option (List Dat×Env)
noncomputable def iL (a:FE):FI:=fun ρ=>match a ρ with
 | none=>none
 | some (x,ρ1)=>match tk ρ1 x with
  | some (.lst ds,ρ2)=>some (ds,ρ2)
  | _=>none
noncomputable def iT (a:FE):FI:=fun ρ=>match a ρ with
 | none=>none
 | some (x,ρ1)=>match tk ρ1 x with
  | some (.tup ds,ρ2)=>some (ds,ρ2)
  | _=>none
noncomputable def iS (a:FE):FI:=fun ρ=>match a ρ with
 | none=>none
 | some (x,ρ1)=>match tk ρ1 x with
  | some (.lst ds,ρ2)=>some (ds,ρ2)
  | some (.tup ds,ρ2)=>some (ds,ρ2)
  | _=>none
noncomputable def ups (lo:Int) (n:Nat):List Dat:=(List.range n).map fun i=>Dat.int (lo+(i:Nat))
noncomputable def downs (hi:Int) (n:Nat):List Dat:=(List.range n).map fun i=>Dat.int (hi-(i:Nat))
noncomputable def BIG:Int:=1000000000
noncomputable def iR1 (a:FE):FI:=fun ρ=>match a ρ with
 | some (.val (.int j),ρ1)=>if j≤BIG∧-BIG≤j then some (ups 0 j.toNat,ρ1) else none
 | _=>none
noncomputable def iR2 (a b:FE):FI:=fun ρ=>match a ρ with
 | some (.val (.int i),ρ1)=>(match b ρ1 with
  | some (.val (.int j),ρ2)=>if j≤BIG∧-BIG≤j∧i≤BIG∧-BIG≤i then some (ups i (j-i).toNat,ρ2) else none
  | _=>none)
 | _=>none
noncomputable abbrev FB:=Dat→Env→Option Env
noncomputable def bN (i:Nat):FB:=fun d ρ=>if i=0 then none else some (ρ.set i (.sh d))
noncomputable def sets:List Nat→List Dat→Env→Option Env
 | [],[],ρ=>some ρ
 | i::is,d::ds,ρ=>if i=0 then none else sets is ds (ρ.set i (.sh d))
 | _,_,_=>none
noncomputable def bT (is:List Nat):FB:=fun d ρ=>match d with
 | .tup ds=>sets is ds ρ
 | _=>none
noncomputable def fX (bd:FB) (t:FT) (el:FE):List Dat→Env→List Dat→Option (List Dat×Env)
 | [],ρ,acc=>some (acc,ρ)
 | d::r,ρ,acc=>match bd d ρ with
  | none=>none
  | some ρ1=>match t ρ1 with
   | none=>none
   | some (false,ρ2)=>fX bd t el r ρ2 acc
   | some (true,ρ2)=>match el ρ2 with
    | none=>none
    | some (x,ρ3)=>match tk ρ3 x with
     | none=>none
     | some (y,ρ4)=>fX bd t el r ρ4 (acc++[y])
noncomputable def cU (it:FI) (own:Nat) (bd:FB) (t:FT) (el:FE):FE:=fun ρ=>match it ρ with
 | none=>none
 | some (ds,ρ1)=>if ds.length≤SZ then (match fX bd t el ds (ρ1++List.replicate own .un) [] with
  | none=>none
  | some (ys,ρ2)=>some (.new (.lst ys),ρ2.take ρ1.length)) else none
inductive Out where
 | nx (ρ:Env)
 | ret (r:RV) (ρ:Env)
 | bk (ρ:Env)
 | ct (ρ:Env)
noncomputable abbrev FS:=Env→Option Out
noncomputable def sNx:FS:=fun ρ=>some (.nx ρ)
noncomputable def aA (s u:FS):FS:=fun ρ=>match s ρ with
 | some (.nx ρ1)=>u ρ1
 | o=>o
noncomputable def sA (i:Nat) (e:FE):FS:=fun ρ=>if i=0 then none else match e ρ with
 | none=>none
 | some (.new d,ρ1)=>some (.nx (ρ1.set i (.ow d)))
 | some (x,ρ1)=>match tk ρ1 x with
  | none=>none
  | some (d,ρ2)=>some (.nx (ρ2.set i (.sh d)))
noncomputable def sU (is:List Nat) (e:FE):FS:=fun ρ=>match e ρ with
 | none=>none
 | some (x,ρ1)=>match tk ρ1 x with
  | some (.tup ds,ρ2)=>(match sets is ds ρ2 with
   | none=>none
   | some ρ3=>some (.nx ρ3))
  | _=>none
noncomputable def sE (e:FE):FS:=fun ρ=>match e ρ with
 | none=>none
 | some (_,ρ1)=>some (.nx ρ1)
noncomputable def sR (e:FE):FS:=fun ρ=>match e ρ with
 | none=>none
 | some (.new d,ρ1)=>some (.ret (.new d) ρ1)
 | some (.val d,ρ1)=>some (.ret (.val d) ρ1)
 | some (.slot i,ρ1)=>match ρ1[i]? with
  | some (.ow d)=>some (.ret (.new d) (ρ1.set i .un))
  | some (.sh d)=>some (.ret (.val d) ρ1)
  | _=>none
noncomputable def sIf (t:FT) (a b:FS):FS:=fun ρ=>match t ρ with
 | none=>none
 | some (true,ρ1)=>a ρ1
 | some (false,ρ1)=>b ρ1
noncomputable def lz (i:Nat) (e:FE):FS:=fun ρ=>match ρ[i]? with
 | some (.ow (.lst _))=>(match e ρ with
  | none=>none
  | some (x,ρ1)=>match tk ρ1 x with
   | none=>none
   | some (d,ρ2)=>match ρ2[i]? with
    | some (.ow (.lst ds))=>if ds.length<SZ then some (.nx (ρ2.set i (.ow (.lst (ds++[d]))))) else none
    | _=>none)
 | _=>none
noncomputable def ixN (n:Nat) (i:Int):Option Nat:=
 if 0≤i then (if i<n then some i.toNat else none) else if -(n:Int)≤i then some (i+n).toNat else none
noncomputable def mQ (i:Nat) (j e:FE):FS:=fun ρ=>match e ρ with
 | none=>none
 | some (x,ρ1)=>match tk ρ1 x with
  | none=>none
  | some (d,ρ2)=>match ρ2[i]? with
   | some (.ow _)=>(match j ρ2 with
    | some (.val (.int k),ρ3)=>(match ρ3[i]? with
     | some (.ow (.lst ds))=>(match ixN ds.length k with
      | none=>none
      | some m=>some (.nx (ρ3.set i (.ow (.lst (ds.set m d))))))
     | _=>none)
    | _=>none)
   | _=>none
noncomputable def lC (bd:FB) (body:FS):List Dat→FS
 | [],ρ=>some (.nx ρ)
 | d::r,ρ=>match bd d ρ with
  | none=>none
  | some ρ1=>match body ρ1 with
   | some (.nx ρ2)=>lC bd body r ρ2
   | some (.ct ρ2)=>lC bd body r ρ2
   | some (.bk ρ2)=>some (.nx ρ2)
   | some (.ret v ρ2)=>some (.ret v ρ2)
   | none=>none
noncomputable def gu (it:FI) (bd:FB) (body:FS):FS:=fun ρ=>match it ρ with
 | none=>none
 | some (ds,ρ1)=>lC bd body ds ρ1
noncomputable def whD (t:FT) (body:FS):Nat→FS
 | 0,_=>none
 | n+1,ρ=>match t ρ with
  | none=>none
  | some (false,ρ1)=>some (.nx ρ1)
  | some (true,ρ1)=>match body ρ1 with
   | some (.nx ρ2)=>whD t body n ρ2
   | some (.ct ρ2)=>whD t body n ρ2
   | some (.bk ρ2)=>some (.nx ρ2)
   | some (.ret v ρ2)=>some (.ret v ρ2)
   | none=>none
noncomputable def fn (n m:Nat) (body:FS) (ds:List Dat):Option RV:=if ds.length=n then (match body (ds.map Cell.sh++List.replicate m .un) with
 | some (.ret r _)=>some r
 | some (.nx _)=>some (.val .non)
 | _=>none) else none
noncomputable def b2i (b:Bool):Int:=if b then 1 else 0
mutual
noncomputable def eqD:Dat→Dat→Bool
 | .non,.non=>true
 | .bl a,.bl b=>a == b
 | .bl a,.int j=>b2i a == j
 | .int i,.bl b=>i == b2i b
 | .int i,.int j=>i == j
 | .str a,.str b=>a == b
 | .tup xs,.tup ys=>mR xs ys
 | .lst xs,.lst ys=>mR xs ys
 | _,_=>false
noncomputable def mR:List Dat→List Dat→Bool
 | [],[]=>true
 | x::xs,y::ys=>eqD x y&&mR xs ys
 | _,_=>false
end
noncomputable def okD:Nat→Dat→Bool
 | _,.dct _ _=>false
 | _,.exc _=>false
 | _,.fn _=>false
 | _,.str s=>s.all fun c=>decide (c<128)
 | 0,.tup _=>false
 | 0,.lst _=>false
 | n+1,.tup xs=>xs.all (okD n)
 | n+1,.lst xs=>xs.all (okD n)
 | _,_=>true
noncomputable abbrev vB (b:Bool):Option RV:=some (.val (.bl b))
noncomputable def iO (p:Dat→Bool):Dat→Option RV
 | .exc _=>none
 | .fn _=>none
 | d=>vB (p d)
noncomputable abbrev vI (i:Int):Option RV:=some (.val (.int i))
noncomputable def gEq (x y:Dat):Option RV:=if okD 8 x&&okD 8 y then vB (eqD x y) else none
noncomputable def gNe (x y:Dat):Option RV:=if okD 8 x&&okD 8 y then vB (!eqD x y) else none
noncomputable def gLt:Dat→Dat→Option RV
 | .int i,.int j=>vB (decide (i<j))
 | _,_=>none
noncomputable def gLe:Dat→Dat→Option RV
 | .int i,.int j=>vB (decide (i≤j))
 | _,_=>none
noncomputable def gGt:Dat→Dat→Option RV
 | .int i,.int j=>vB (decide (j<i))
 | _,_=>none
noncomputable def gGe:Dat→Dat→Option RV
 | .int i,.int j=>vB (decide (j≤i))
 | _,_=>none
noncomputable def B64:Int:=18446744073709551616
noncomputable def bH:Dat→Dat→Option RV
 | .int i,.int j=>vI (i+j)
 | .lst xs,.lst ys=>if xs.length+ys.length≤SZ then some (.new (.lst (xs++ys))) else none
 | _,_=>none
noncomputable def gX:Dat→Dat→Option RV
 | .int i,.int j=>vI (i-j)
 | _,_=>none
noncomputable def fN:Dat→Dat→Option RV
 | .int i,.int j=>if (-B64<i∧i<B64)∨(-B64<j∧j<B64) then vI (i*j) else none
 | .lst xs,.int k=>if k≤BIG∧-BIG≤k∧xs.length*k.toNat≤SZ then some (.new (.lst (List.replicate k.toNat xs).flatten)) else none
 | _,_=>none
noncomputable def jM:Int:=1606938044258990275541962092341162602522202993782792835301376
noncomputable def mS:Dat→Dat→Option RV
 | .int i,.int j=>if 0<j∧j<jM then vI (i / j) else none
 | _,_=>none
noncomputable def g7:Dat→Dat→Option RV
 | .int i,.int j=>if 0<j then vI (i % j) else none
 | _,_=>none
noncomputable def g8:Dat→Dat→Option RV
 | .int i,.int j=>if 0≤j∧j≤1000000∧i.natAbs<1000000 then vI (i ^ j.toNat) else none
 | _,_=>none
noncomputable def iP:Dat→Option RV
 | .int i=>vI (-i)
 | _=>none
noncomputable def atI (xs:List Dat) (i:Int):Option Dat:=(ixN xs.length i).bind fun j=>xs[j]?
noncomputable def gIx:Dat→Dat→Option RV
 | .lst xs,.int i=>(atI xs i).map .val
 | .tup xs,.int i=>(atI xs i).map .val
 | _,_=>none
noncomputable def inD (x:Dat) (xs:List Dat):Bool:=xs.any fun y=>eqD y x
noncomputable def gIn:Dat→Dat→Option RV
 | x,.lst xs=>if okD 8 x&&xs.all (okD 7) then vB (inD x xs) else none
 | x,.tup xs=>if okD 8 x&&xs.all (okD 7) then vB (inD x xs) else none
 | _,_=>none
noncomputable def mT:Dat→Dat→Option RV
 | x,.lst xs=>if okD 8 x&&xs.all (okD 7) then vB (!inD x xs) else none
 | x,.tup xs=>if okD 8 x&&xs.all (okD 7) then vB (!inD x xs) else none
 | _,_=>none
noncomputable def sIx (n d:Nat):Option Int→Nat
 | none=>d
 | some v=>(if v<0 then max (v+n) 0 else min v n).toNat
noncomputable def cut (xs:List Dat) (lo hi:Option Int):List Dat:=(xs.drop (sIx xs.length 0 lo)).take (sIx xs.length xs.length hi-sIx xs.length 0 lo)
noncomputable def d8:List Dat→Option RV
 | [.lst xs]=>vI xs.length
 | [.tup xs]=>vI xs.length
 | _=>none
noncomputable def gJ:List Dat→Option RV
 | [.int i,.int j]=>vI (if j<i then j else i)
 | _=>none
noncomputable def iJ:List Dat→Option RV
 | [.int i,.int j]=>vI (if j>i then j else i)
 | _=>none
noncomputable def iW:List Dat→Option RV
 | [.lst xs]=>some (.new (.lst xs))
 | [.tup xs]=>some (.new (.lst xs))
 | _=>none
noncomputable def e7:List Dat→Option RV
 | [.lst xs]=>some (.val (.tup xs))
 | [.tup xs]=>some (.val (.tup xs))
 | _=>none
noncomputable def isI:Dat→Bool
 | .int _=>true
 | .bl _=>true
 | _=>false
noncomputable def isB:Dat→Bool
 | .bl _=>true
 | _=>false
noncomputable def isL:Dat→Bool
 | .lst _=>true
 | _=>false
noncomputable def isT:Dat→Bool
 | .tup _=>true
 | _=>false
noncomputable def bools:List Dat→Option (List Bool)
 | []=>some []
 | .bl b::r=>(bools r).map fun bs=>b::bs
 | _=>none
noncomputable def sP:List Dat→Option RV
 | [.lst xs]=>(match bools xs with
  | some bs=>vB (bs.all id)
  | none=>none)
 | _=>none
noncomputable def fG (g h:Dat→Dat→Option RV) (a b c:FE):FE:=fun ρ=>match a ρ with
 | none=>none
 | some (x,ρ1)=>match b ρ1 with
  | none=>none
  | some (y,ρ2)=>match pk ρ2 x with
   | none=>none
   | some d=>match pk ρ2 y with
    | none=>none
    | some e=>match g d e with
     | some (.val (.bl true))=>(match c ρ2 with
      | none=>none
      | some (z,ρ3)=>match pk ρ3 y with
       | none=>none
       | some e'=>match pk ρ3 z with
        | none=>none
        | some f=>match h e' f with
         | none=>none
         | some v=>some (v.bG,ρ3))
     | some (.val (.bl false))=>some (.val (.bl false),ρ2)
     | _=>none
noncomputable def part:Option FE→Env→Option (Option Int×Env)
 | none,ρ=>some (none,ρ)
 | some f,ρ=>match f ρ with
  | some (.val (.int i),ρ1)=>some (some i,ρ1)
  | _=>none
noncomputable def eSl (a:FE) (lo hi:Option FE):FE:=fun ρ=>match a ρ with
 | none=>none
 | some (x,ρ1)=>match part lo ρ1 with
  | none=>none
  | some (l,ρ2)=>match part hi ρ2 with
   | none=>none
   | some (h,ρ3)=>match pk ρ3 x with
    | some (.lst xs)=>some (.new (.lst (cut xs l h)),ρ3)
    | _=>none
end Dm
namespace Br
open PySem L2
mutual
inductive Rep (H:Hp):V→Dm.Dat→Prop
 | non:Rep H V.non Dm.Dat.non
 | bl (b:Bool):Rep H (V.bl b) (Dm.Dat.bl b)
 | int (i:Int):Rep H (V.int i) (Dm.Dat.int i)
 | str (s:List Nat):Rep H (V.str ⟨s.toArray⟩) (Dm.Dat.str s)
 | tup {a:Addr} {xs:List V} {ds:List Dm.Dat}:H a=some (.tup xs)→aJ H xs ds→Rep H (V.ref a) (Dm.Dat.tup ds)
 | lst {a:Addr} {xs:List V} {ds:List Dm.Dat}:Rd H a (.lst xs)→aJ H xs ds→Rep H (V.ref a) (Dm.Dat.lst ds)
 | dct {a:Addr} {kvs:List (Key×V)} {ks:List Int} {ds:List Dm.Dat}:H a=some (.dK kvs)→kvs.map (·.1)=ks.map Sum.inl→aJ H (kvs.map (·.2)) ds→Rep H (V.ref a) (Dm.Dat.dct ks ds)
 | exc {a:Addr} {C:Nat}:H a=some (.ext fun h=>∃ o,h.get? a=some o∧o.cls=.ref C)→Rep H (V.ref a) (Dm.Dat.exc C)
 | fn (a:Addr):Rep H (V.ref a) (Dm.Dat.fn a)
inductive aJ (H:Hp):List V→List Dm.Dat→Prop
 | nil:aJ H [] []
 | cons {v:V} {d:Dm.Dat} {vs:List V} {ds:List Dm.Dat}:Rep H v d→aJ H vs ds→aJ H (v::vs) (d::ds)
end
theorem az.rd {H H':Hp} (s:az H H') {a:Addr} {u:HO} (h:Rd H a u):Rd H' a u:=by
 rcases h with h | ⟨o,h⟩
 ·exact .inl (s _ _ h)
 ·exact .inr ⟨o,s _ _ h⟩
mutual
theorem Rep.mono {H H':Hp} (s:az H H'):∀ {v:V} {d:Dm.Dat},Rep H v d→Rep H' v d
 | _,_,.non=>.non
 | _,_,.bl b=>.bl b
 | _,_,.int i=>.int i
 | _,_,.str x=>.str x
 | _,_,.tup h r=>.tup (s _ _ h) (aJ.mono s r)
 | _,_,.lst h r=>.lst (az.rd s h) (aJ.mono s r)
 | _,_,.dct h e r=>.dct (s _ _ h) e (aJ.mono s r)
 | _,_,.exc h=>.exc (s _ _ h)
 | _,_,.fn a=>.fn a
theorem aJ.mono {H H':Hp} (s:az H H'):∀ {vs:List V} {ds:List Dm.Dat},aJ H vs ds→aJ H' vs ds
 | _,_,.nil=>.nil
 | _,_,.cons h r=>.cons (Rep.mono s h) (aJ.mono s r)
end
theorem aJ.length {H:Hp}:∀ {vs:List V} {ds:List Dm.Dat},aJ H vs ds→vs.length=ds.length
 | _,_,.nil=>rfl
 | _,_,.cons _ r=>by simp [aJ.length r]
theorem aJ.get {H:Hp}:∀ {vs:List V} {ds:List Dm.Dat} {i:Nat} {d:Dm.Dat},aJ H vs ds→ds[i]?=some d→∃ v,vs[i]?=some v∧Rep H v d
 | _,_,_,_,.nil,e=>by simp at e
 | _,_,0,_,.cons h _,e=>by simp at e;subst e;exact ⟨_,rfl,h⟩
 | _,_,i+1,_,.cons _ r,e=>by
  obtain ⟨v,h1,h2⟩:=aJ.get (i:=i) r (by simpa using e)
  exact ⟨v,by simpa using h1,h2⟩
theorem aJ.append {H:Hp}:∀ {vs ws:List V} {ds es:List Dm.Dat},aJ H vs ds→aJ H ws es→aJ H (vs++ws) (ds++es)
 | _,_,_,_,.nil,s=>s
 | _,_,_,_,.cons h r,s=>.cons h (aJ.append r s)
theorem aJ.take {H:Hp}:∀ {vs:List V} {ds:List Dm.Dat} (n:Nat),aJ H vs ds→aJ H (vs.take n) (ds.take n)
 | _,_,0,_=>by simpa using aJ.nil
 | _,_,_+1,.nil=>by simpa using aJ.nil
 | _,_,n+1,.cons h r=>by simpa using aJ.cons h (aJ.take n r)
theorem aJ.drop {H:Hp}:∀ {vs:List V} {ds:List Dm.Dat} (n:Nat),aJ H vs ds→aJ H (vs.drop n) (ds.drop n)
 | _,_,0,r=>by simpa using r
 | _,_,_+1,.nil=>by simpa using aJ.nil
 | _,_,n+1,.cons _ r=>by simpa using aJ.drop n r
theorem aJ.set {H:Hp} {v:V} {d:Dm.Dat} (h:Rep H v d):∀ {vs:List V} {ds:List Dm.Dat} (i:Nat),aJ H vs ds→aJ H (vs.set i v) (ds.set i d)
 | _,_,_,.nil=>.nil
 | _,_,0,.cons _ r=>.cons h r
 | _,_,i+1,.cons q r=>.cons q (aJ.set h i r)
theorem aJ.rep {H:Hp} {vs:List V} {ds:List Dm.Dat} (r:aJ H vs ds):∀ k:Nat,aJ H (List.replicate k vs).flatten (List.replicate k ds).flatten
 | 0=>by simpa using aJ.nil
 | k+1=>by
  rw [List.replicate_succ,List.replicate_succ,List.flatten_cons,List.flatten_cons]
  exact aJ.append r (aJ.rep r k)
noncomputable def Own (H0 H:Hp) (a:Addr):Dm.Dat→Prop
 | .lst ds=>∃ xs,H a=some (.lst xs)∧aJ H0 xs ds
 | .dct ks ds=>∃ kvs:List (Key×V),H a=some (.dK kvs)∧kvs.map (·.1)=ks.map Sum.inl∧aJ H0 (kvs.map (·.2)) ds
 | _=>False
theorem Own.some {H0 H:Hp} {a:Addr} {d:Dm.Dat} (h:Own H0 H a d):∃ o,H a=some o:=by
 cases d with
 | lst ds=>obtain ⟨xs,e,_⟩:=h;exact ⟨_,e⟩
 | dct ks ds=>obtain ⟨xs,e,_⟩:=h;exact ⟨_,e⟩
 | _=>exact False.elim h
theorem Own.mono {H0 H H0' H':Hp} {a:Addr} {d:Dm.Dat} (h:Own H0 H a d) (s:az H0 H0') (e:H' a=H a):Own H0' H' a d:=by
 cases d with
 | lst ds=>obtain ⟨xs,q,r⟩:=h;exact ⟨xs,by rw [e];exact q,r.mono s⟩
 | dct ks ds=>obtain ⟨xs,q,k,r⟩:=h;exact ⟨xs,by rw [e];exact q,k,r.mono s⟩
 | _=>exact False.elim h
noncomputable def mU (H0 H:Hp) (v:V) (d:Dm.Dat):Prop:=Rep H0 v d∨∃ a,v=V.ref a∧Own H0 H a d
inductive uN (H0 H:Hp):List V→List Dm.Dat→Prop
 | nil:uN H0 H [] []
 | cons {v:V} {d:Dm.Dat} {vs:List V} {ds:List Dm.Dat}:mU H0 H v d→uN H0 H vs ds→uN H0 H (v::vs) (d::ds)
noncomputable def shr (H0 H:Hp) (a:Addr):Hp:=fun b=>if b=a then H a else H0 b
theorem gK {H0 H:Hp} {a:Addr}:shr H0 H a a=H a:=by unfold shr;rw [if_pos rfl]
theorem j0 {H0 H:Hp} {a b:Addr} (h:b≠a):shr H0 H a b=H0 b:=by unfold shr;rw [if_neg h]
theorem lD {H0 H:Hp} {a:Addr} (h:H0 a=none):az H0 (shr H0 H a):=fun b o e=>by
 by_cases q:b=a
 ·subst q;rw [h] at e;cases e
 ·rw [j0 q];exact e
theorem yk {H0 H:Hp} {a:Addr} (s:az H0 H):az (shr H0 H a) H:=fun b o e=>by
 by_cases q:b=a
 ·subst q;rw [gK] at e;exact e
 ·rw [j0 q] at e;exact s _ _ e
theorem Own.rep {H0 H:Hp} {a:Addr} {d:Dm.Dat} (h:Own H0 H a d) (n:H0 a=none):Rep (shr H0 H a) (V.ref a) d:=by
 cases d with
 | lst ds=>obtain ⟨xs,q,r⟩:=h;exact .lst (.inl (by rw [gK];exact q)) (r.mono (lD n))
 | dct ks ds=>obtain ⟨xs,q,k,r⟩:=h;exact .dct (by rw [gK];exact q) k (r.mono (lD n))
 | _=>exact False.elim h
noncomputable def au (σ:St) (ρ:Dm.Env) (a:Addr):Prop:=∃ (i:Nat) (d:Dm.Dat),ρ[i]?=some (Dm.Cell.ow d)∧σ[i]?=some (some (V.ref a))
noncomputable abbrev Def (_:Dm.Env) (_:Nat):Prop:=True
structure aB (H0 H:Hp) (σ:St) (ρ:Dm.Env):Prop where
 same:az H0 H
 len:σ.length=ρ.length
 sh:∀ (i:Nat) (d:Dm.Dat),ρ[i]?=some (Dm.Cell.sh d)→∃ v,σ[i]?=some (some v)∧Rep H0 v d
 ow:∀ (i:Nat) (d:Dm.Dat),ρ[i]?=some (Dm.Cell.ow d)→∃ a,σ[i]?=some (some (V.ref a))∧H0 a=none∧Own H0 H a d
 dis:∀ (i j:Nat) (d e:Dm.Dat) (a:Addr),ρ[i]?=some (Dm.Cell.ow d)→ρ[j]?=some (Dm.Cell.ow e)→σ[i]?=some (some (V.ref a))→σ[j]?=some (some (V.ref a))→i=j
structure Stp (O:Addr→Prop) (H0 H H0' H':Hp):Prop where
 s0:az H0 H0'
 s1:∀ a o,H a=some o→¬ O a→H' a=some o
 s2:∀ a o,H0' a=some o→H a=none∨H0 a=some o∨O a
 s3:∀ a o,H a=some o→∃ o',H' a=some o'
theorem Stp.refl (O:Addr→Prop) (H0 H:Hp):Stp O H0 H H0 H:=⟨az.refl _,fun _ _ e _=>e,fun _ _ e=>.inr (.inl e),fun _ o e=>⟨o,e⟩⟩
theorem Stp.gone {O:Addr→Prop} {H0 H H0' H':Hp} (t:Stp O H0 H H0' H') {a:Addr} (h:H' a=none):H a=none:=by
 cases q:H a with
 | none=>rfl
 | some o=>obtain ⟨o',e⟩:=t.s3 a o q;rw [h] at e;cases e
theorem Stp.trans {O1 O2:Addr→Prop} {H0 H H1 H' H2 H'':Hp} (t:Stp O1 H0 H H1 H') (u:Stp O2 H1 H' H2 H'') (k:∀ a,O2 a→O1 a∨H a=none):Stp O1 H0 H H2 H'' where
 s0:=t.s0.trans u.s0
 s1:=fun a o e n=>u.s1 a o (t.s1 a o e n) fun z=>(k a z).elim n fun q=>by rw [q] at e;cases e
 s2:=fun a o e=>by
  rcases u.s2 a o e with q | q | q
  ·exact .inl (t.gone q)
  ·exact t.s2 a o q
  ·rcases k a q with z | z
   ·exact .inr (.inr z)
   ·exact .inl z
 s3:=fun a o e=>by
  obtain ⟨o',e'⟩:=t.s3 a o e
  exact u.s3 a o' e'
theorem Stp.wide {O O':Addr→Prop} {H0 H H0' H':Hp} (t:Stp O H0 H H0' H') (k:∀ a,O a→O' a):Stp O' H0 H H0' H':=
 ⟨t.s0,fun a o e n=>t.s1 a o e fun z=>n (k a z),fun a o e=>(t.s2 a o e).imp id (Or.imp id (k a)),t.s3⟩
structure aN (H0 H H0' H':Hp):Prop where
 s0:az H0 H0'
 s1:az H H'
 s2:∀ a o,H0' a=some o→H a=none∨H0 a=some o
 s3:az H0' H'
theorem aN.refl {H0 H:Hp} (s:az H0 H):aN H0 H H0 H:=⟨az.refl _,az.refl _,fun _ _ e=>.inr e,s⟩
theorem aN.stp {H0 H H0' H':Hp} (g:aN H0 H H0' H') (O:Addr→Prop):Stp O H0 H H0' H':=
 ⟨g.s0,fun a o e _=>g.s1 a o e,fun a o e=>(g.s2 a o e).imp id .inl,fun a o e=>⟨o,g.s1 a o e⟩⟩
theorem aN.zK {H0 H:Hp} (s:az H0 H) {p:Addr} {o:HO} (n:H p=none):aN H0 H (upd H0 p o) (upd H p o) where
 s0:=fun b u e=>by rw [ay (aM e (s.free n))];exact e
 s1:=fun b u e=>by rw [ay (aM e n)];exact e
 s2:=fun b u e=>by
  by_cases q:b=p
  ·subst q;exact .inl n
  ·rw [ay q] at e;exact .inr e
 s3:=fun b u e=>by
  by_cases q:b=p
  ·subst q;rw [aE] at e ⊢;exact e
  ·rw [ay q] at e ⊢;exact s _ _ e
theorem aN.uO {H0 H:Hp} (s:az H0 H) {p:Addr} {o:HO} (n:H p=none):aN H0 H H0 (upd H p o) where
 s0:=az.refl _
 s1:=fun b u e=>by rw [ay (aM e n)];exact e
 s2:=fun b u e=>.inr e
 s3:=fun b u e=>by rw [ay (aM (s _ _ e) n)];exact s _ _ e
noncomputable def iX (Hs H0 H:Hp) (σ:St) (ρ:Dm.Env) (v:V):Dm.Val→Prop
 | .val d=>Rep H0 v d
 | .slot i=>σ[i]?=some (some v)∧Def ρ i
 | .new d=>∃ a,v=V.ref a∧Hs a=none∧¬ au σ ρ a∧H0 a=none∧Own H0 H a d
structure ESt (σ:St) (ρ:Dm.Env) (H0 H:Hp) (ρ':Dm.Env) (H0' H':Hp):Prop where
 st:aB H0' H' σ ρ'
 stp:Stp (au σ ρ) H0 H H0' H'
 own:∀ a,au σ ρ' a→au σ ρ a
 dfn:∀ i,Def ρ i→Def ρ' i
theorem ESt.refl {σ:St} {ρ:Dm.Env} {H0 H:Hp} (st:aB H0 H σ ρ):ESt σ ρ H0 H ρ H0 H:=⟨st,Stp.refl _ _ _,fun _ z=>z,fun _ z=>z⟩
theorem ESt.trans {σ:St} {ρ ρ1 ρ2:Dm.Env} {H0 H H1 H' H2 H'':Hp} (t:ESt σ ρ H0 H ρ1 H1 H') (u:ESt σ ρ1 H1 H' ρ2 H2 H''):ESt σ ρ H0 H ρ2 H2 H'':=
 ⟨u.st,t.stp.trans u.stp fun a z=>.inl (t.own a z),fun a z=>t.own a (u.own a z),fun i z=>u.dfn i (t.dfn i z)⟩
theorem aB.grow {σ:St} {ρ:Dm.Env} {H0 H H0' H':Hp} (st:aB H0 H σ ρ) (g:aN H0 H H0' H'):aB H0' H' σ ρ where
 same:=g.s3
 len:=st.len
 sh:=fun i d e=>by
  obtain ⟨v,q,r⟩:=st.sh i d e
  exact ⟨v,q,r.mono g.s0⟩
 ow:=fun i d e=>by
  obtain ⟨a,q,n,w⟩:=st.ow i d e
  obtain ⟨o,z⟩:=w.some
  refine ⟨a,q,?_,w.mono g.s0 ((g.s1 a o z).trans z.symm)⟩
  cases y:H0' a with
  | none=>rfl
  | some u=>
   rcases g.s2 a u y with k | k
   ·rw [z] at k;cases k
   ·rw [n] at k;cases k
 dis:=st.dis
theorem ESt.grow {σ:St} {ρ:Dm.Env} {H0 H H0' H':Hp} (st:aB H0 H σ ρ) (g:aN H0 H H0' H'):ESt σ ρ H0 H ρ H0' H':=
 ⟨st.grow g,g.stp _,fun _ z=>z,fun _ z=>z⟩
theorem iX.mono {Hs H0 H H0' H':Hp} {σ:St} {ρ ρ':Dm.Env} {v:V} {x:Dm.Val} (r:iX Hs H0 H σ ρ v x) (t:ESt σ ρ H0 H ρ' H0' H'):iX Hs H0' H' σ ρ' v x:=by
 cases x with
 | val d=>exact Rep.mono t.stp.s0 r
 | slot i=>exact ⟨r.1,t.dfn i r.2⟩
 | new d=>
  obtain ⟨a,e,n,no,n0,w⟩:=r
  obtain ⟨o,z⟩:=w.some
  refine ⟨a,e,n,fun y=>no (t.own a y),?_,w.mono t.stp.s0 ((t.stp.s1 a o z no).trans z.symm)⟩
  cases y:H0' a with
  | none=>rfl
  | some u=>
   rcases t.stp.s2 a u y with k | k | k
   ·rw [z] at k;cases k
   ·rw [n0] at k;cases k
   ·exact absurd k no
theorem iX.early {Hs Hs' H0 H:Hp} {σ:St} {ρ:Dm.Env} {v:V} {x:Dm.Val} (r:iX Hs H0 H σ ρ v x) (k:∀ a,Hs a=none→Hs' a=none):iX Hs' H0 H σ ρ v x:=by
 cases x with
 | val d=>exact r
 | slot i=>exact r
 | new d=>obtain ⟨a,e,n,z⟩:=r;exact ⟨a,e,k a n,z⟩
theorem iX.look {Hs H0 H:Hp} {σ:St} {ρ:Dm.Env} {v:V} {x:Dm.Val} {d:Dm.Dat} (r:iX Hs H0 H σ ρ v x) (st:aB H0 H σ ρ) (e:Dm.pk ρ x=some d):mU H0 H v d:=by
 cases x with
 | val d'=>cases e;exact .inl r
 | new d'=>
  cases e
  obtain ⟨a,e,_,_,_,w⟩:=r
  exact .inr ⟨a,e,w⟩
 | slot i=>
  obtain ⟨q,_⟩:=r
  unfold Dm.pk at e
  dsimp only at e
  split at e
  ·rename_i d' h
   cases e
   obtain ⟨a,z,_,w⟩:=st.ow i d h
   rw [q] at z
   cases z
   exact .inr ⟨a,rfl,w⟩
  ·rename_i d' h
   cases e
   obtain ⟨u,z,w⟩:=st.sh i d h
   rw [q] at z
   cases z
   exact .inl w
  ·cases e
noncomputable def uP (Hs H0 H:Hp) (v:V):Dm.RV→Prop
 | .val d=>Rep H0 v d
 | .new d=>∃ a,v=V.ref a∧Hs a=none∧H0 a=none∧Own H0 H a d
theorem uP.toV {H H0' H' H0:Hp} {σ:St} {ρ:Dm.Env} {v:V} {z:Dm.RV} (r:uP H H0' H' v z) (st:aB H0 H σ ρ):iX H H0' H' σ ρ v z.bG:=by
 cases z with
 | val d=>exact r
 | new d=>
  obtain ⟨a,e,n,n0,w⟩:=r
  refine ⟨a,e,n,fun ⟨i,d',h1,h2⟩=>?_,n0,w⟩
  obtain ⟨a',q,_,w'⟩:=st.ow i d' h1
  rw [h2] at q
  cases q
  obtain ⟨o,z⟩:=w'.some
  rw [n] at z;cases z
noncomputable def tD (f:Dm.FE):TE:=fun σ H Q=>∃ H0 ρ x ρ',aB H0 H σ ρ∧f ρ=some (x,ρ')∧∀ v H0' H',ESt σ ρ H0 H ρ' H0' H'→iX H H0' H' σ ρ' v x→Q v H'
noncomputable def tDT (f:Dm.FT):TT:=fun σ H Q=>∃ H0 ρ b ρ',aB H0 H σ ρ∧f ρ=some (b,ρ')∧∀ H0' H',ESt σ ρ H0 H ρ' H0' H'→Q b H'
inductive fY (Hs H0 H:Hp) (σ:St) (ρ:Dm.Env):List V→List Dm.Val→Prop
 | nil:fY Hs H0 H σ ρ [] []
 | cons {v:V} {x:Dm.Val} {vs:List V} {xs:List Dm.Val}:iX Hs H0 H σ ρ v x→fY Hs H0 H σ ρ vs xs→fY Hs H0 H σ ρ (v::vs) (x::xs)
noncomputable def tDA (fs:List Dm.FE):TA:=fun σ H Q=>∃ H0 ρ xs ρ',aB H0 H σ ρ∧Dm.eAs fs ρ=some (xs,ρ')∧∀ vs H0' H',ESt σ ρ H0 H ρ' H0' H'→fY H H0' H' σ ρ' vs xs→Q vs H'
noncomputable abbrev DE (X:Cx) (e:Expr) (f:Dm.FE):Prop:=PE X e (tD f)
noncomputable abbrev DT (X:Cx) (e:Expr) (f:Dm.FT):Prop:=PT X e (tDT f)
noncomputable abbrev DA (X:Cx) (es:List Expr) (fs:List Dm.FE):Prop:=PA X es (tDA fs)
theorem PE.weak {X:Cx} {e:Expr} {t t':TE} (h:PE X e t) (k:∀ σ H Q,t' σ H Q→t σ H Q):PE X e t':=fun pins s σ H Q I q=>h pins s σ H Q I (k σ H Q q)
theorem PT.weak {X:Cx} {e:Expr} {t t':TT} (h:PT X e t) (k:∀ σ H Q,t' σ H Q→t σ H Q):PT X e t':=fun pins s σ H Q I q=>h pins s σ H Q I (k σ H Q q)
theorem PA.weak {X:Cx} {es:List Expr} {t t':TA} (h:PA X es t) (k:∀ σ H Q,t' σ H Q→t σ H Q):PA X es t':=fun pos pins s σ H Q I q=>h pos pins s σ H Q I (k σ H Q q)
theorem PS.weak {X:Cx} {st:Stmt} {t t':TS} (h:PS X st t) (k:∀ D σ H,t' D σ H→t D σ H):PS X st t':=fun pins s σ H D I q=>h pins s σ H D I (k D σ H q)
theorem PSs.weak {X:Cx} {st:List Stmt} {t t':TS} (h:PSs X st t) (k:∀ D σ H,t' D σ H→t D σ H):PSs X st t':=fun pins s σ H D I q=>h pins s σ H D I (k D σ H q)
theorem fT {H0 H:Hp} {a:Addr} (s:az H0 H):az H0 (shr H0 H a):=fun b o e=>by
 by_cases q:b=a
 ·subst q;rw [gK];exact s _ _ e
 ·rw [j0 q];exact e
theorem Own.KP {H0 H0c H:Hp} {a:Addr} {d:Dm.Dat} (h:Own H0 H a d) (b:az H0 H0c) (s:az H0c H):Rep (shr H0c H a) (V.ref a) d:=by
 cases d with
 | lst ds=>obtain ⟨xs,q,r⟩:=h;exact .lst (.inl (by rw [gK];exact q)) (r.mono (b.trans (fT s)))
 | dct ks ds=>obtain ⟨xs,q,k,r⟩:=h;exact .dct (by rw [gK];exact q) k (r.mono (b.trans (fT s)))
 | _=>exact False.elim h
theorem iX.rho {Hs H0 H:Hp} {σ:St} {ρ ρ':Dm.Env} {v:V} {x:Dm.Val} (r:iX Hs H0 H σ ρ v x) (o:∀ a,au σ ρ' a→au σ ρ a) (d:∀ i,Def ρ i→Def ρ' i):iX Hs H0 H σ ρ' v x:=by
 cases x with
 | val d=>exact r
 | slot i=>exact ⟨r.1,d i r.2⟩
 | new d=>obtain ⟨a,e,n,no,z⟩:=r;exact ⟨a,e,n,fun y=>no (o a y),z⟩
theorem fY.rho {Hs H0 H:Hp} {σ:St} {ρ ρ':Dm.Env} (o:∀ a,au σ ρ' a→au σ ρ a) (d:∀ i,Def ρ i→Def ρ' i):∀ {vs:List V} {xs:List Dm.Val},fY Hs H0 H σ ρ vs xs→fY Hs H0 H σ ρ' vs xs
 | _,_,.nil=>.nil
 | _,_,.cons h r=>.cons (h.rho o d) (fY.rho o d r)
theorem fY.early {Hs Hs' H0 H:Hp} {σ:St} {ρ:Dm.Env} (k:∀ a,Hs a=none→Hs' a=none):∀ {vs:List V} {xs:List Dm.Val},fY Hs H0 H σ ρ vs xs→fY Hs' H0 H σ ρ vs xs
 | _,_,.nil=>.nil
 | _,_,.cons h r=>.cons (h.early k) (fY.early k r)
theorem aP {ρ:Dm.Env} {i j:Nat} {c d:Dm.Cell} (h:(ρ.set i c)[j]?=some d):(j=i∧d=c)∨(j≠i∧ρ[j]?=some d):=by
 by_cases e:j=i
 ·subst e
  by_cases l:j<ρ.length
  ·rw [List.getElem?_set_self l] at h
   exact .inl ⟨rfl,(Option.some.inj h).symm⟩
  ·rw [List.getElem?_eq_none (by simpa using Nat.not_lt.mp l)] at h
   cases h
 ·rw [List.getElem?_set_ne (Ne.symm e)] at h
  exact .inr ⟨e,h⟩
theorem wF {H0 H:Hp} {σ:St} {ρ:Dm.Env} {i:Nat} {a:Addr} {d:Dm.Dat} (st:aB H0 H σ ρ) (e:ρ[i]?=some (.ow d)) (q:σ[i]?=some (some (V.ref a))) :
  aB (shr H0 H a) H σ (ρ.set i (.sh d))∧(∀ b,au σ (ρ.set i (.sh d)) b→au σ ρ b)∧∀ j,Def ρ j→Def (ρ.set i (.sh d)) j:=by
 obtain ⟨a',q',n,w⟩:=st.ow i d e
 rw [q] at q'
 cases q'
 have hil:i<ρ.length:=(List.getElem?_eq_some_iff.mp e).1
 refine ⟨⟨yk st.same,by rw [List.length_set];exact st.len,fun j d' h=>?_,fun j d' h=>?_,fun j k d1 d2 b h1 h2 h3 h4=>?_⟩,fun b ⟨j,d',h1,h2⟩=>?_,fun j h=>?_⟩
 ·rcases aP h with ⟨rfl,z⟩ | ⟨_,h⟩
  ·cases z
   exact ⟨_,q,w.rep n⟩
  ·obtain ⟨v,z,r⟩:=st.sh j d' h
   exact ⟨v,z,r.mono (lD n)⟩
 ·rcases aP h with ⟨_,z⟩ | ⟨hj,h⟩
  ·cases z
  ·obtain ⟨b,z,n',w'⟩:=st.ow j d' h
   have nb:b≠a:=fun y=>hj (st.dis j i d' d a h e (y▸z) q)
   exact ⟨b,z,by rw [j0 nb];exact n',w'.mono (lD n) rfl⟩
 ·rcases aP h1 with ⟨_,z⟩ | ⟨_,h1⟩
  ·cases z
  ·rcases aP h2 with ⟨_,z⟩ | ⟨_,h2⟩
   ·cases z
   ·exact st.dis j k d1 d2 b h1 h2 h3 h4
 ·rcases aP h1 with ⟨_,z⟩ | ⟨_,h1⟩
  ·cases z
  ·exact ⟨j,d',h1,h2⟩
 ·trivial
theorem zL {H0 H:Hp} {σ:St} {ρ:Dm.Env} {a:Addr} (st:aB H0 H σ ρ) (no:¬ au σ ρ a):aB (shr H0 H a) H σ ρ where
 same:=yk st.same
 len:=st.len
 sh:=fun j d h=>by
  obtain ⟨v,z,r⟩:=st.sh j d h
  exact ⟨v,z,r.mono (fT st.same)⟩
 ow:=fun j d h=>by
  obtain ⟨b,z,n',w'⟩:=st.ow j d h
  have nb:b≠a:=fun y=>no ⟨j,d,h,y▸z⟩
  exact ⟨b,z,by rw [j0 nb];exact n',w'.mono (fT st.same) rfl⟩
 dis:=st.dis
theorem take1 {Hs H0s H0 H0c H:Hp} {σ:St} {ρs ρ ρ':Dm.Env} {v:V} {x:Dm.Val} {d:Dm.Dat} (t:ESt σ ρs H0s Hs ρ H0c H) (b:az H0 H0c) (r:iX Hs H0 H σ ρ v x) (e:Dm.tk ρ x=some (d,ρ')) :
  ∃ oZ,ESt σ ρs H0s Hs ρ' oZ H∧az H0c oZ∧Rep oZ v d∧(∀ a,au σ ρ' a→au σ ρ a)∧∀ i,Def ρ i→Def ρ' i:=by
 cases x with
 | val d'=>cases e;exact ⟨H0c,t,az.refl _,Rep.mono b r,fun _ z=>z,fun _ z=>z⟩
 | new d'=>
  cases e
  obtain ⟨a,e,n,no,n0,w⟩:=r
  subst e
  have ss:=fT (a:=a) t.st.same
  refine ⟨shr H0c H a,⟨zL t.st no,⟨t.stp.s0.trans ss,t.stp.s1,fun c o q=>?_,t.stp.s3⟩,t.own,t.dfn⟩,ss,w.KP b t.st.same,fun _ z=>z,fun _ z=>z⟩
  by_cases y:c=a
  ·subst y;exact .inl n
  ·rw [j0 y] at q;exact t.stp.s2 c o q
 | slot i=>
  obtain ⟨q,_⟩:=r
  unfold Dm.tk at e
  dsimp only at e
  split at e
  ·rename_i d' h
   cases e
   obtain ⟨a,z,n,w⟩:=t.st.ow i _ h
   rw [q] at z
   cases z
   obtain ⟨s1,s2,s3⟩:=wF t.st h q
   have ss:=fT (a:=a) t.st.same
   refine ⟨shr H0c H a,⟨s1,⟨t.stp.s0.trans ss,t.stp.s1,fun c o q'=>?_,t.stp.s3⟩,fun b z=>t.own b (s2 b z),fun j z=>s3 j (t.dfn j z)⟩,ss,w.KP (az.refl _) t.st.same,s2,s3⟩
   by_cases y:c=a
   ·subst y;exact .inr (.inr (t.own c ⟨i,_,h,q⟩))
   ·rw [j0 y] at q';exact t.stp.s2 c o q'
  ·rename_i d' h
   cases e
   obtain ⟨u,z,w⟩:=t.st.sh i _ h
   rw [q] at z
   cases z
   exact ⟨H0c,t,az.refl _,w,fun _ z=>z,fun _ z=>z⟩
  ·cases e
theorem takes {Hs H0s H0 H:Hp} {σ:St} {ρs:Dm.Env}:∀ {xs:List Dm.Val} {vs:List V} {ρ ρ':Dm.Env} {ds:List Dm.Dat} {H0c:Hp},ESt σ ρs H0s Hs ρ H0c H→az H0 H0c→fY Hs H0 H σ ρ vs xs→Dm.tks ρ xs=some (ds,ρ') →
  ∃ oZ,ESt σ ρs H0s Hs ρ' oZ H∧az H0c oZ∧aJ oZ vs ds
 | [],_,ρ,ρ',ds,H0c,t,b,r,e=>by
  cases r
  cases e
  exact ⟨H0c,t,az.refl _,.nil⟩
 | x::xs,_,ρ,ρ',ds,H0c,t,b,r,e=>by
  cases r with
  | cons h r=>
   unfold Dm.tks at e
   split at e
   ·cases e
   ·rename_i d ρ1 e1
    split at e
    ·cases e
    ·rename_i ds' ρ2 e2
     cases e
     obtain ⟨H1,t1,b1,r1,o1,d1⟩:=take1 t b h e1
     obtain ⟨H2,t2,b2,r2⟩:=takes t1 (b.trans b1) (r.rho o1 d1) e2
     exact ⟨H2,t2,b1.trans b2,.cons (r1.mono b2) r2⟩
theorem KQ {ρ ρ':Dm.Env} {x:Dm.Val} {d:Dm.Dat} (e:Dm.tk ρ x=some (d,ρ')) (y:Dm.Val):Dm.pk ρ' y=Dm.pk ρ y:=by
 cases x with
 | val d'=>cases e;rfl
 | new d'=>cases e;rfl
 | slot i=>
  unfold Dm.tk at e
  dsimp only at e
  split at e
  ·rename_i d' h
   cases e
   cases y with
   | val _=>rfl
   | new _=>rfl
   | slot j=>
    unfold Dm.pk
    dsimp only
    by_cases z:j=i
    ·subst z
     rw [List.getElem?_set_self (List.getElem?_eq_some_iff.mp h).1,h]
    ·rw [List.getElem?_set_ne (Ne.symm z)]
  ·cases e;rfl
  ·cases e
theorem A1 {ρ:Dm.Env} {x:Dm.Val} {d:Dm.Dat} (e:Dm.pk ρ x=some d):∃ ρ',Dm.tk ρ x=some (d,ρ'):=by
 cases x with
 | val d'=>cases e;exact ⟨ρ,rfl⟩
 | new d'=>cases e;exact ⟨ρ,rfl⟩
 | slot i=>
  unfold Dm.pk at e
  dsimp only at e
  unfold Dm.tk
  dsimp only
  split at e
  ·rename_i d' h;cases e;exact ⟨_,rfl⟩
  ·rename_i d' h;cases e;exact ⟨_,rfl⟩
  ·cases e
theorem j3:∀ {xs:List Dm.Val} {ρ:Dm.Env} {ds:List Dm.Dat},Dm.pks ρ xs=some ds→∃ ρ',Dm.tks ρ xs=some (ds,ρ')
 | [],ρ,ds,e=>by cases e;exact ⟨ρ,rfl⟩
 | x::xs,ρ,ds,e=>by
  unfold Dm.pks at e
  split at e
  ·cases e
  ·rename_i d e1
   split at e
   ·cases e
   ·rename_i ds' e2
    cases e
    obtain ⟨ρ1,h1⟩:=A1 e1
    have key:∀ ys:List Dm.Val,Dm.pks ρ1 ys=Dm.pks ρ ys:=fun ys=>by
     induction ys with
     | nil=>rfl
     | cons y ys ih=>unfold Dm.pks;rw [KQ h1 y,ih]
    obtain ⟨ρ2,h2⟩:=j3 (xs:=xs) (ρ:=ρ1) (ds:=ds') (by rw [key];exact e2)
    exact ⟨ρ2,by unfold Dm.tks;rw [h1];dsimp only;rw [h2]⟩
theorem looks {Hs H0 H:Hp} {σ:St} {ρ:Dm.Env} (st:aB H0 H σ ρ):∀ {xs:List Dm.Val} {vs:List V} {ds:List Dm.Dat},fY Hs H0 H σ ρ vs xs→Dm.pks ρ xs=some ds→uN H0 H vs ds
 | [],_,ds,r,e=>by cases r;cases e;exact .nil
 | x::xs,_,ds,r,e=>by
  cases r with
  | cons h r=>
   unfold Dm.pks at e
   split at e
   ·cases e
   ·rename_i d e1
    split at e
    ·cases e
    ·rename_i ds' e2
     cases e
     exact .cons (h.look st e1) (looks st r e2)
noncomputable def OpD (r:R2) (g:Dm.Dat→Dm.Dat→Option Dm.RV):Prop:=∀ (H0 H:Hp) (x y:V) (dx dy:Dm.Dat) (z:Dm.RV) (Q:VK),az H0 H→mU H0 H x dx→mU H0 H y dy→g dx dy=some z →
 (∀ v H0' H',aN H0 H H0' H'→uP H H0' H' v z→Q v H')→r x y H Q
noncomputable def UnD (r:V→Hp→VK→Prop) (g:Dm.Dat→Option Dm.RV):Prop:=∀ (H0 H:Hp) (x:V) (dx:Dm.Dat) (z:Dm.RV) (Q:VK),az H0 H→mU H0 H x dx→g dx=some z →
 (∀ v H0' H',aN H0 H H0' H'→uP H H0' H' v z→Q v H')→r x H Q
noncomputable def CallD (r:List V→Hp→VK→Prop) (g:List Dm.Dat→Option Dm.RV):Prop:=∀ (H0 H:Hp) (vs:List V) (ds:List Dm.Dat) (z:Dm.RV) (Q:VK),az H0 H→uN H0 H vs ds→g ds=some z →
 (∀ v H0' H',aN H0 H H0' H'→uP H H0' H' v z→Q v H')→r vs H Q
noncomputable def spD (f:List Dm.Dat→Option Dm.RV):Sp:=fun vs H Q _=>∃ H0 ds z,az H0 H∧aJ H0 vs ds∧f ds=some z∧∀ v H0' H',aN H0 H H0' H'→uP H H0' H' v z→Q v H'
section
variable {σ:St} {H:Hp} {Q:VK}
theorem KR {i:Nat} (h:tD (Dm.eV i) σ H Q):ux i σ H Q:=by
 obtain ⟨H0,ρ,x,ρ',st,e,k⟩:=h
 unfold Dm.eV at e
 split at e
 ·rename_i d h1
  cases e
  obtain ⟨v,q,r⟩:=st.sh i d h1
  exact ⟨v,q,k v H0 H (.refl st) r⟩
 ·rename_i d h1
  cases e
  obtain ⟨a,q,_⟩:=st.ow i d h1
  exact ⟨_,q,k _ H0 H (.refl st) ⟨q,trivial⟩⟩
 ·cases e
theorem lE {d:Dm.Dat} {v:V} (c:∀ H0:Hp,Rep H0 v d) (h:tD (Dm.eC d) σ H Q):tC v σ H Q:=by
 obtain ⟨H0,ρ,x,ρ',st,e,k⟩:=h
 cases e
 exact k v H0 H (.refl st) (c H0)
theorem wG {r:R2} {g:Dm.Dat→Dm.Dat→Option Dm.RV} {fa fb:Dm.FE} (o:OpD r g) (h:tD (Dm.e2 g fa fb) σ H Q):tOp r (tD fa) (tD fb) σ H Q:=by
 obtain ⟨H0,ρ,x,ρ',st,e,k⟩:=h
 unfold Dm.e2 at e
 split at e
 ·cases e
 rename_i x1 ρ1 e1
 split at e
 ·cases e
 rename_i y1 ρ2 e2
 split at e
 ·cases e
 rename_i dx p1
 split at e
 ·cases e
 rename_i dy p2
 split at e
 ·cases e
 rename_i z gz
 cases e
 refine ⟨H0,ρ,x1,ρ1,st,e1,fun v H1 Hb t1 r1=>⟨H1,ρ1,y1,_,t1.st,e2,fun u H2 Hc t2 r2=>?_⟩⟩
 refine o H2 Hc v u dx dy z Q t2.st.same ((r1.mono t2).look t2.st p1) (r2.look t2.st p2) gz fun w H3 Hd g3 r3=>?_
 exact k w H3 Hd (t1.trans (t2.trans (.grow t2.st g3))) ((r3.toV t2.st).early fun a n=>(t1.trans t2).stp.gone n)
theorem MQ {r:V→Hp→VK→Prop} {g:Dm.Dat→Option Dm.RV} {fa:Dm.FE} (o:UnD r g) (h:tD (Dm.e1 g fa) σ H Q):tUn r (tD fa) σ H Q:=by
 obtain ⟨H0,ρ,x,ρ',st,e,k⟩:=h
 unfold Dm.e1 at e
 split at e
 ·cases e
 rename_i x1 ρ1 e1
 split at e
 ·cases e
 rename_i dx p1
 split at e
 ·cases e
 rename_i z gz
 cases e
 refine ⟨H0,ρ,x1,_,st,e1,fun v H1 Hb t1 r1=>?_⟩
 refine o H1 Hb v dx z Q t1.st.same (r1.look t1.st p1) gz fun w H3 Hd g3 r3=>?_
 exact k w H3 Hd (t1.trans (.grow t1.st g3)) ((r3.toV t1.st).early fun a n=>t1.stp.gone n)
theorem KS {Q:List V→Hp→Prop} (h:tDA [] σ H Q):zC σ H Q:=by
 obtain ⟨H0,ρ,xs,ρ',st,e,k⟩:=h
 cases e
 exact k [] H0 H (.refl st) .nil
theorem Iz {f:Dm.FE} {fs:List Dm.FE} {Q:List V→Hp→Prop} (h:tDA (f::fs) σ H Q):qZ (tD f) (tDA fs) σ H Q:=by
 obtain ⟨H0,ρ,xs,ρ',st,e,k⟩:=h
 unfold Dm.eAs at e
 split at e
 ·cases e
 rename_i x1 ρ1 e1
 split at e
 ·cases e
 rename_i xs1 ρ2 e2
 cases e
 refine ⟨H0,ρ,x1,ρ1,st,e1,fun v H1 Hb t1 r1=>⟨H1,ρ1,xs1,_,t1.st,e2,fun vs H2 Hc t2 r2=>?_⟩⟩
 exact k (v::vs) H2 Hc (t1.trans t2) (.cons (r1.mono t2) (r2.early fun a n=>t1.stp.gone n))
theorem Eb {r:List V→Hp→VK→Prop} {g:List Dm.Dat→Option Dm.RV} {fs:List Dm.FE} (o:CallD r g) (h:tD (Dm.eB g fs) σ H Q):tCB r (tDA fs) σ H Q:=by
 obtain ⟨H0,ρ,x,ρ',st,e,k⟩:=h
 unfold Dm.eB at e
 split at e
 ·cases e
 rename_i xs ρ1 e1
 split at e
 ·cases e
 rename_i ds p1
 split at e
 ·cases e
 rename_i z gz
 cases e
 refine ⟨H0,ρ,xs,_,st,e1,fun vs H1 Hb t1 r1=>?_⟩
 refine o H1 Hb vs ds z Q t1.st.same (looks t1.st r1 p1) gz fun w H3 Hd g3 r3=>?_
 exact k w H3 Hd (t1.trans (.grow t1.st g3)) ((r3.toV t1.st).early fun a n=>t1.stp.gone n)
theorem oF {n:Nat} (h:n≤Dm.SZ):n≤sizeLine:=Nat.le_trans h (by decide)
theorem KU {fs:List Dm.FE} (h:tD (Dm.bz fs) σ H Q):KG (tDA fs) σ H Q:=by
 obtain ⟨H0,ρ,x,ρ',st,e,k⟩:=h
 unfold Dm.bz at e
 split at e
 ·cases e
 rename_i xs ρ1 e1
 split at e
 ·cases e
 rename_i ds ρ2 e2
 split at e
 ·rename_i hz
  cases e
  refine ⟨H0,ρ,xs,ρ1,st,e1,fun vs H1 Hb t1 r1=>?_⟩
  obtain ⟨H2,t2,b2,r2⟩:=takes t1 (az.refl _) r1 e2
  refine ⟨by rw [r2.length];exact oF hz,fun p hp=>?_⟩
  have g:=aN.zK (o:=HO.tup vs) t2.st.same hp
  exact k _ _ _ (t2.trans (.grow t2.st g)) (.tup aE (r2.mono g.s0))
 ·cases e
theorem KW {fs:List Dm.FE} (h:tD (Dm.cj fs) σ H Q):DV (tDA fs) σ H Q:=by
 obtain ⟨H0,ρ,x,ρ',st,e,k⟩:=h
 unfold Dm.cj at e
 split at e
 ·cases e
 rename_i xs ρ1 e1
 split at e
 ·cases e
 rename_i ds ρ2 e2
 split at e
 ·rename_i hz
  cases e
  refine ⟨H0,ρ,xs,ρ1,st,e1,fun vs H1 Hb t1 r1=>?_⟩
  obtain ⟨H2,t2,b2,r2⟩:=takes t1 (az.refl _) r1 e2
  refine ⟨by rw [r2.length];exact oF hz,fun p hp=>?_⟩
  have g:=aN.uO (o:=HO.lst vs) t2.st.same hp
  refine k _ _ _ (t2.trans (.grow t2.st g)) ⟨p,rfl,t2.stp.gone hp,fun ⟨i,d,h1,h2⟩=>?_,t2.st.same.free hp,vs,aE,r2⟩
  obtain ⟨a,q,_,w⟩:=t2.st.ow i d h1
  rw [h2] at q
  cases q
  obtain ⟨o,z⟩:=w.some
  rw [hp] at z;cases z
 ·cases e
theorem Rep.plain {H0 H1:Hp} {v:V} {d:Dm.Dat} (r:Rep H0 v d) (n:Dm.fy d=false):Rep H1 v d:=by
 cases r with
 | non=>exact .non
 | bl b=>exact .bl b
 | int i=>exact .int i
 | str s=>exact .str s
 | tup _ _=>cases n
 | lst _ _=>cases n
 | dct _ _ _=>cases n
 | exc _=>cases n
 | fn a=>exact .fn a
theorem Own.box {H0 H:Hp} {a:Addr} {d:Dm.Dat} (w:Own H0 H a d):Dm.fy d=true:=by
 cases d with
 | lst ds=>rfl
 | dct ks ds=>rfl
 | _=>exact False.elim w
theorem A2 {f:List Dm.Dat→Option Dm.RV} {fs:List Dm.FE} {E:XK} (h:tD (Dm.eF f fs) σ H Q):uC (spD f) [] E (tDA fs) σ H Q:=by
 obtain ⟨H0,ρ,x,ρ',st,e,k⟩:=h
 unfold Dm.eF at e
 split at e
 ·cases e
 rename_i xs ρ1 e1
 split at e
 ·cases e
 rename_i ds p1
 split at e
 ·cases e
 rename_i z fz
 refine ⟨H0,ρ,xs,ρ1,st,e1,fun vs H1 Hb t1 r1=>?_⟩
 dsimp only
 rw [List.append_nil]
 obtain ⟨ρ2,e2⟩:=j3 p1
 obtain ⟨H2,t2,b2,r2⟩:=takes t1 (az.refl _) r1 e2
 split at e
 ·rw [e2] at e
  cases e
  exact ⟨H2,ds,z,t2.st.same,r2,fz,fun w H3 Hd g3 r3=>k w H3 Hd (t2.trans (.grow t2.st g3)) ((r3.toV t2.st).early fun a n=>t2.stp.gone n)⟩
 ·rename_i nb
  cases e
  refine ⟨H2,ds,z,t2.st.same,r2,fz,fun w H3 Hd g3 r3=>?_⟩
  have g:aN H1 Hb H1 Hd:=⟨az.refl _,g3.s1,fun a o q=>.inr q,t1.st.same.trans g3.s1⟩
  refine k w H1 Hd (t1.trans (.grow t1.st g)) ?_
  cases z with
  | val d=>exact Rep.plain r3 (by simpa [Dm.RV.dat] using nb)
  | new d=>
   obtain ⟨a,_,_,_,w⟩:=r3
   exact absurd w.box (by simpa [Dm.RV.dat] using nb)
theorem Rep.sQ {H0:Hp} {v:V} {c:Bool} (r:Rep H0 v (.bl c)):v=.bl c:=by cases r;rfl
theorem Rep.isInt {H0:Hp} {v:V} {c:Int} (r:Rep H0 v (.int c)):v=.int c:=by cases r;rfl
theorem KY {a b:Dm.FE} (h:tD (Dm.gq a b) σ H Q):Ga (tD a) (tD b) σ H Q:=by
 obtain ⟨H0,ρ,x,ρ',st,e,k⟩:=h
 unfold Dm.gq at e
 split at e
 ·rename_i ρ1 e1
  refine ⟨H0,ρ,_,_,st,e1,fun v H1 Hb t1 r1=>⟨true,Rep.sQ r1,?_⟩⟩
  try dsimp only
  rw [if_pos rfl]
  exact ⟨H1,ρ1,x,ρ',t1.st,e,fun v H2 Hc t2 r2=>k v H2 Hc (t1.trans t2) (r2.early fun a n=>t1.stp.gone n)⟩
 ·rename_i ρ1 e1
  cases e
  refine ⟨H0,ρ,_,_,st,e1,fun v H1 Hb t1 r1=>⟨false,Rep.sQ r1,?_⟩⟩
  try dsimp only
  rw [if_neg Bool.false_ne_true]
  exact k _ H1 Hb t1 (Rep.bl false)
 ·cases e
theorem KZ {a:Dm.FE} (h:tD (Dm.qS a) σ H Q):Gb (tD a) σ H Q:=by
 obtain ⟨H0,ρ,x,ρ',st,e,k⟩:=h
 unfold Dm.qS at e
 split at e
 ·rename_i c ρ1 e1
  cases e
  exact ⟨H0,ρ,_,_,st,e1,fun v H1 Hb t1 r1=>⟨c,Rep.sQ r1,k _ H1 Hb t1 (Rep.bl (!c))⟩⟩
 ·cases e
variable {Qt:Bool→Hp→Prop}
theorem sS {a:Dm.FE} (h:tDT (Dm.tV a) σ H Qt):Gi (tD a) σ H Qt:=by
 obtain ⟨H0,ρ,x,ρ',st,e,k⟩:=h
 unfold Dm.tV at e
 split at e
 ·rename_i c ρ1 e1
  cases e
  exact ⟨H0,ρ,_,_,st,e1,fun v H1 Hb t1 r1=>⟨_,Rep.sQ r1,k H1 Hb t1⟩⟩
 ·cases e
theorem IA {t:Dm.FT} (h:tDT (Dm.bY t) σ H Qt):bY (tDT t) σ H Qt:=by
 obtain ⟨H0,ρ,x,ρ',st,e,k⟩:=h
 unfold Dm.bY at e
 split at e
 ·rename_i c ρ1 e1
  cases e
  exact ⟨H0,ρ,_,_,st,e1,fun H1 Hb t1=>k H1 Hb t1⟩
 ·cases e
theorem IB {t u:Dm.FT} (h:tDT (Dm.fV t u) σ H Qt):fV (tDT t) (tDT u) σ H Qt:=by
 obtain ⟨H0,ρ,x,ρ',st,e,k⟩:=h
 unfold Dm.fV at e
 split at e
 ·rename_i ρ1 e1
  refine ⟨H0,ρ,_,ρ1,st,e1,fun H1 Hb t1=>?_⟩
  dsimp only
  rw [if_pos rfl]
  exact ⟨H1,ρ1,x,ρ',t1.st,e,fun H2 Hc t2=>k H2 Hc (t1.trans t2)⟩
 ·rename_i ρ1 e1
  cases e
  refine ⟨H0,ρ,_,_,st,e1,fun H1 Hb t1=>?_⟩
  dsimp only
  rw [if_neg Bool.false_ne_true]
  exact k H1 Hb t1
 ·cases e
theorem K0 {t u:Dm.FT} (h:tDT (Dm.tOr t u) σ H Qt):tOr (tDT t) (tDT u) σ H Qt:=by
 obtain ⟨H0,ρ,x,ρ',st,e,k⟩:=h
 unfold Dm.tOr at e
 split at e
 ·rename_i ρ1 e1
  cases e
  refine ⟨H0,ρ,_,_,st,e1,fun H1 Hb t1=>?_⟩
  dsimp only
  rw [if_pos rfl]
  exact k H1 Hb t1
 ·rename_i ρ1 e1
  refine ⟨H0,ρ,_,ρ1,st,e1,fun H1 Hb t1=>?_⟩
  dsimp only
  rw [if_neg Bool.false_ne_true]
  exact ⟨H1,ρ1,x,ρ',t1.st,e,fun H2 Hc t2=>k H2 Hc (t1.trans t2)⟩
 ·cases e
end
structure SSt (σ:St) (ρ:Dm.Env) (H0 H:Hp) (σ':St) (ρ':Dm.Env) (H0' H':Hp):Prop where
 st:aB H0' H' σ' ρ'
 stp:Stp (au σ ρ) H0 H H0' H'
 own:∀ a,au σ' ρ' a→au σ ρ a∨H a=none
 fx:σ'[0]?=σ[0]?
theorem ESt.sst {σ:St} {ρ ρ':Dm.Env} {H0 H H0' H':Hp} (t:ESt σ ρ H0 H ρ' H0' H'):SSt σ ρ H0 H σ ρ' H0' H':=⟨t.st,t.stp,fun a z=>.inl (t.own a z),rfl⟩
theorem SSt.refl {σ:St} {ρ:Dm.Env} {H0 H:Hp} (st:aB H0 H σ ρ):SSt σ ρ H0 H σ ρ H0 H:=(ESt.refl st).sst
theorem SSt.trans {σ σ1 σ2:St} {ρ ρ1 ρ2:Dm.Env} {H0 H H1 H' H2 H'':Hp} (t:SSt σ ρ H0 H σ1 ρ1 H1 H') (u:SSt σ1 ρ1 H1 H' σ2 ρ2 H2 H''):SSt σ ρ H0 H σ2 ρ2 H2 H'':=
 ⟨u.st,t.stp.trans u.stp t.own,fun a z=>(u.own a z).elim (t.own a) fun n=>.inr (t.stp.gone n),u.fx.trans t.fx⟩
noncomputable def A3 (σ:St) (ρ:Dm.Env) (H H0' H':Hp) (v:V):Dm.RV→Prop
 | .val d=>Rep H0' v d
 | .new d=>∃ a,v=V.ref a∧(H a=none∨au σ ρ a)∧H0' a=none∧Own H0' H' a d
noncomputable def o4 (D:Ends) (σ:St) (ρ:Dm.Env) (H0 H:Hp):Dm.Out→Prop
 | .nx ρ'=>∀ σ' H0' H',SSt σ ρ H0 H σ' ρ' H0' H'→D.nx σ' H'
 | .bk ρ'=>∀ σ' H0' H',SSt σ ρ H0 H σ' ρ' H0' H'→D.bk σ' H'
 | .ct ρ'=>∀ σ' H0' H',SSt σ ρ H0 H σ' ρ' H0' H'→D.ct σ' H'
 | .ret z ρ'=>∀ σ' v H0' H',SSt σ ρ H0 H σ' ρ' H0' H'→A3 σ ρ H H0' H' v z→(∀ d a,z=.new d→v=.ref a→¬ au σ' ρ' a)→D.rt v H'
noncomputable def tDS (g:Dm.FS):TS:=fun D σ H=>∃ H0 ρ o,aB H0 H σ ρ∧g ρ=some o∧o4 D σ ρ H0 H o
theorem o4.pre {D:Ends} {σ σ1:St} {ρ ρ1:Dm.Env} {H0 H H1 H':Hp} {o:Dm.Out} (t:SSt σ ρ H0 H σ1 ρ1 H1 H') (k:o4 D σ ρ H0 H o):o4 D σ1 ρ1 H1 H' o:=by
 cases o with
 | nx ρ'=>exact fun σ' H0' H' u=>k σ' H0' H' (t.trans u)
 | bk ρ'=>exact fun σ' H0' H' u=>k σ' H0' H' (t.trans u)
 | ct ρ'=>exact fun σ' H0' H' u=>k σ' H0' H' (t.trans u)
 | ret z ρ'=>
  refine fun σ' v H0' H'' u r no=>k σ' v H0' H'' (t.trans u) ?_ no
  cases z with
  | val d=>exact r
  | new d=>
   obtain ⟨a,e,n,n0,w⟩:=r
   refine ⟨a,e,?_,n0,w⟩
   rcases n with n | n
   ·exact .inl (t.stp.gone n)
   ·exact (t.own a n).symm
theorem aB.mask {H0 H:Hp} {σ:L2.St} {ρ:Dm.Env} (st:aB H0 H σ ρ) (i:Nat):aB H0 H σ (ρ.set i .un) where
 same:=st.same
 len:=by rw [List.length_set];exact st.len
 sh:=fun j d h=>by
  by_cases q:i=j
  ·subst q;rw [List.getElem?_set] at h;simp only [if_true] at h;split at h<;>cases h
  ·rw [List.getElem?_set_ne q] at h;exact st.sh j d h
 ow:=fun j d h=>by
  by_cases q:i=j
  ·subst q;rw [List.getElem?_set] at h;simp only [if_true] at h;split at h<;>cases h
  ·rw [List.getElem?_set_ne q] at h;exact st.ow j d h
 dis:=fun j j' d d' a h1 h2 h3 h4=>by
  by_cases q:i=j
  ·subst q;rw [List.getElem?_set] at h1;simp only [if_true] at h1;split at h1<;>cases h1
  ·by_cases q':i=j'
   ·subst q';rw [List.getElem?_set] at h2;simp only [if_true] at h2;split at h2<;>cases h2
   ·rw [List.getElem?_set_ne q] at h1
    rw [List.getElem?_set_ne q'] at h2
    exact st.dis j j' d d' a h1 h2 h3 h4
theorem e8 {σ:L2.St} {ρ:Dm.Env} {i:Nat} {a:Addr} (h:au σ (ρ.set i .un) a):∃ (j:Nat) (d:Dm.Dat),j≠i∧ρ[j]?=some (Dm.Cell.ow d)∧σ[j]?=some (some (V.ref a)):=by
 obtain ⟨j,d,h1,h2⟩:=h
 by_cases q:i=j
 ·subst q;rw [List.getElem?_set] at h1;simp only [if_true] at h1;split at h1<;>cases h1
 ·rw [List.getElem?_set_ne q] at h1;exact ⟨j,d,fun z=>q z.symm,h1,h2⟩
section
variable {D:Ends} {σ:St} {H:Hp}
theorem MR (h:tDS Dm.sNx D σ H):Aw D σ H:=by
 obtain ⟨H0,ρ,o,st,e,k⟩:=h
 cases e
 exact k σ H0 H (.refl st)
theorem K1 {s u:Dm.FS} (h:tDS (Dm.aA s u) D σ H):zq (tDS s) (tDS u) D σ H:=by
 obtain ⟨H0,ρ,o,st,e,k⟩:=h
 unfold Dm.aA at e
 split at e
 ·rename_i ρ1 e1
  exact ⟨H0,ρ,.nx ρ1,st,e1,fun σ' H0' H' t=>⟨H0',ρ1,o,t.st,e,k.pre t⟩⟩
 ·rename_i h1
  cases o with
  | nx ρ1=>exact absurd e (h1 ρ1)
  | bk ρ1=>exact ⟨H0,ρ,_,st,e,k⟩
  | ct ρ1=>exact ⟨H0,ρ,_,st,e,k⟩
  | ret z ρ1=>exact ⟨H0,ρ,_,st,e,k⟩
theorem IC {f:Dm.FE} (h:tDS (Dm.sE f) D σ H):uz (tD f) D σ H:=by
 obtain ⟨H0,ρ,o,st,e,k⟩:=h
 unfold Dm.sE at e
 split at e
 ·cases e
 ·rename_i x ρ1 e1
  cases e
  exact ⟨H0,ρ,x,ρ1,st,e1,fun v H0' H' t r=>k σ H0' H' t.sst⟩
theorem K2 {f:Dm.FE} (h:tDS (Dm.sR f) D σ H):Ks (tD f) D σ H:=by
 obtain ⟨H0,ρ,o,st,e,k⟩:=h
 unfold Dm.sR at e
 split at e
 ·cases e
 ·rename_i d ρ1 e1
  cases e
  refine ⟨H0,ρ,_,ρ1,st,e1,fun v H0' H' t r=>?_⟩
  obtain ⟨a,e,n,no,n0,w⟩:=r
  exact k σ v H0' H' t.sst ⟨a,e,.inl n,n0,w⟩ fun d' a' _ e' z=>by
   rw [e] at e'
   cases e'
   exact no z
 ·rename_i d ρ1 e1
  cases e
  exact ⟨H0,ρ,_,ρ1,st,e1,fun v H0' H' t r=>k σ v H0' H' t.sst r fun d' a' z=>by cases z⟩
 ·rename_i i ρ1 e1
  split at e
  ·rename_i d h1
   cases e
   refine ⟨H0,ρ,_,ρ1,st,e1,fun v H0' H' t r=>?_⟩
   obtain ⟨q,_⟩:=r
   obtain ⟨a,q',n0,w⟩:=t.st.ow i d h1
   rw [q] at q'
   cases q'
   refine k σ _ H0' H' ⟨t.st.mask i,t.stp,fun b z=>?_,rfl⟩ ⟨a,rfl,.inr (t.own a ⟨i,d,h1,q⟩),n0,w⟩ fun d' a' _ e' z=>?_
   ·obtain ⟨j,d2,_,z1,z2⟩:=e8 z
    exact .inl (t.own b ⟨j,d2,z1,z2⟩)
   ·cases e'
    obtain ⟨j,d2,hj,z1,z2⟩:=e8 z
    exact hj (t.st.dis j i d2 d a z1 h1 z2 q)
  ·rename_i d h1
   cases e
   refine ⟨H0,ρ,_,ρ1,st,e1,fun v H0' H' t r=>?_⟩
   obtain ⟨q,_⟩:=r
   obtain ⟨u,q',w⟩:=t.st.sh i d h1
   rw [q] at q'
   cases q'
   exact k σ _ H0' H' t.sst w fun d' a' z=>by cases z
  ·cases e
theorem K3 {t:Dm.FT} {a b:Dm.FS} (h:tDS (Dm.sIf t a b) D σ H):HH (tDT t) (tDS a) (tDS b) D σ H:=by
 obtain ⟨H0,ρ,o,st,e,k⟩:=h
 unfold Dm.sIf at e
 split at e
 ·cases e
 ·rename_i ρ1 e1
  refine ⟨H0,ρ,true,ρ1,st,e1,fun H1 Hb t1=>?_⟩
  dsimp only
  rw [if_pos rfl]
  exact ⟨H1,ρ1,o,t1.st,e,k.pre t1.sst⟩
 ·rename_i ρ1 e1
  refine ⟨H0,ρ,false,ρ1,st,e1,fun H1 Hb t1=>?_⟩
  dsimp only
  rw [if_neg Bool.false_ne_true]
  exact ⟨H1,ρ1,o,t1.st,e,k.pre t1.sst⟩
end
theorem iY {σ:St} {i j:Nat} {c d:Option V} (h:(σ.set i c)[j]?=some d):(j=i∧d=c)∨(j≠i∧σ[j]?=some d):=by
 by_cases e:j=i
 ·subst e
  by_cases l:j<σ.length
  ·rw [List.getElem?_set_self l] at h
   exact .inl ⟨rfl,(Option.some.inj h).symm⟩
  ·rw [List.getElem?_eq_none (by simpa using Nat.not_lt.mp l)] at h
   cases h
 ·rw [List.getElem?_set_ne (Ne.symm e)] at h
  exact .inr ⟨e,h⟩
theorem aB.inσ {H0 H:Hp} {σ:St} {ρ:Dm.Env} {i:Nat} {c d:Dm.Cell} (st:aB H0 H σ ρ) (h:(ρ.set i c)[i]?=some d):i<σ.length:=by
 have:=(List.getElem?_eq_some_iff.mp h).1
 rw [List.length_set] at this
 rw [st.len];exact this
theorem fO {σ:St} {ρ:Dm.Env} {i:Nat} {v:V} {d:Dm.Dat} {b:Addr} (h:au (σ.set i (some v)) (ρ.set i (.sh d)) b):au σ ρ b:=by
 obtain ⟨j,d',h1,h2⟩:=h
 rcases aP h1 with ⟨_,z⟩ | ⟨hj,h1⟩
 ·cases z
 ·rcases iY h2 with ⟨z,_⟩ | ⟨_,h2⟩
  ·exact absurd z hj
  ·exact ⟨j,d',h1,h2⟩
theorem aB.sV {H0 H:Hp} {σ:St} {ρ:Dm.Env} {i:Nat} {v:V} {d:Dm.Dat} (st:aB H0 H σ ρ) (r:Rep H0 v d):aB H0 H (σ.set i (some v)) (ρ.set i (.sh d)) where
 same:=st.same
 len:=by rw [List.length_set,List.length_set];exact st.len
 sh:=fun j d' h=>by
  rcases aP h with ⟨rfl,z⟩ | ⟨hj,h'⟩
  ·cases z
   exact ⟨v,List.getElem?_set_self (st.inσ h),r⟩
  ·obtain ⟨u,q,w⟩:=st.sh j d' h'
   exact ⟨u,by rw [List.getElem?_set_ne (Ne.symm hj)];exact q,w⟩
 ow:=fun j d' h=>by
  rcases aP h with ⟨_,z⟩ | ⟨hj,h'⟩
  ·cases z
  ·obtain ⟨u,q,w⟩:=st.ow j d' h'
   exact ⟨u,by rw [List.getElem?_set_ne (Ne.symm hj)];exact q,w⟩
 dis:=fun j k d1 d2 b h1 h2 h3 h4=>by
  rcases aP h1 with ⟨_,z⟩ | ⟨hj,h1⟩
  ·cases z
  rcases aP h2 with ⟨_,z⟩ | ⟨hk,h2⟩
  ·cases z
  rw [List.getElem?_set_ne (Ne.symm hj)] at h3
  rw [List.getElem?_set_ne (Ne.symm hk)] at h4
  exact st.dis j k d1 d2 b h1 h2 h3 h4
theorem aB.A4 {H0 H:Hp} {σ:St} {ρ:Dm.Env} {i:Nat} {a:Addr} {d:Dm.Dat} (st:aB H0 H σ ρ) (no:¬ au σ ρ a) (n0:H0 a=none) (w:Own H0 H a d):aB H0 H (σ.set i (some (.ref a))) (ρ.set i (.ow d)) where
 same:=st.same
 len:=by rw [List.length_set,List.length_set];exact st.len
 sh:=fun j d' h=>by
  rcases aP h with ⟨_,z⟩ | ⟨hj,h'⟩
  ·cases z
  ·obtain ⟨u,q,w⟩:=st.sh j d' h'
   exact ⟨u,by rw [List.getElem?_set_ne (Ne.symm hj)];exact q,w⟩
 ow:=fun j d' h=>by
  rcases aP h with ⟨rfl,z⟩ | ⟨hj,h'⟩
  ·cases z
   exact ⟨a,List.getElem?_set_self (st.inσ h),n0,w⟩
  ·obtain ⟨u,q,w⟩:=st.ow j d' h'
   exact ⟨u,by rw [List.getElem?_set_ne (Ne.symm hj)];exact q,w⟩
 dis:=fun j k d1 d2 b h1 h2 h3 h4=>by
  rcases aP h1 with ⟨e1,z1⟩ | ⟨hj,h1'⟩
  ·rcases aP h2 with ⟨e2,z2⟩ | ⟨hk,h2'⟩
   ·rw [e1,e2]
   ·rcases iY h3 with ⟨_,z⟩ | ⟨z,_⟩
    ·cases z
     rw [List.getElem?_set_ne (Ne.symm hk)] at h4
     exact absurd ⟨k,d2,h2',h4⟩ no
    ·exact absurd e1 z
  ·rcases aP h2 with ⟨e2,z2⟩ | ⟨hk,h2'⟩
   ·rcases iY h4 with ⟨_,z⟩ | ⟨z,_⟩
    ·cases z
     rw [List.getElem?_set_ne (Ne.symm hj)] at h3
     exact absurd ⟨j,d1,h1',h3⟩ no
    ·exact absurd e2 z
   ·rw [List.getElem?_set_ne (Ne.symm hj)] at h3
    rw [List.getElem?_set_ne (Ne.symm hk)] at h4
    exact st.dis j k d1 d2 b h1' h2' h3 h4
theorem sX {σ:St} {ρ:Dm.Env} {i:Nat} {a b:Addr} {d:Dm.Dat} (h:au (σ.set i (some (.ref a))) (ρ.set i (.ow d)) b):b=a∨au σ ρ b:=by
 obtain ⟨j,d',h1,h2⟩:=h
 rcases aP h1 with ⟨e,_⟩ | ⟨hj,h1⟩
 ·rcases iY h2 with ⟨_,z⟩ | ⟨z,_⟩
  ·cases z;exact .inl rfl
  ·exact absurd e z
 ·rcases iY h2 with ⟨z,_⟩ | ⟨_,h2⟩
  ·exact absurd z hj
  ·exact .inr ⟨j,d',h1,h2⟩
theorem aB.write {H0 H:Hp} {σ:St} {ρ:Dm.Env} {i:Nat} {a:Addr} {d d':Dm.Dat} {o:HO} (st:aB H0 H σ ρ) (e:ρ[i]?=some (.ow d)) (q:σ[i]?=some (some (V.ref a))) (w':Own H0 (upd H a o) a d') :
  aB H0 (upd H a o) σ (ρ.set i (.ow d')):=by
 obtain ⟨a',q',n,w⟩:=st.ow i d e
 rw [q] at q'
 cases q'
 refine ⟨fun b u z=>?_,by rw [List.length_set];exact st.len,fun j d1 h=>?_,fun j d1 h=>?_,fun j k d1 d2 b h1 h2 h3 h4=>?_⟩
 ·rw [ay (aM z n)];exact st.same _ _ z
 ·rcases aP h with ⟨_,z⟩ | ⟨hj,h'⟩
  ·cases z
  ·exact st.sh j d1 h'
 ·rcases aP h with ⟨rfl,z⟩ | ⟨hj,h'⟩
  ·cases z
   exact ⟨a,q,n,w'⟩
  ·obtain ⟨b,q1,n1,w1⟩:=st.ow j d1 h'
   have nb:b≠a:=fun y=>hj (st.dis j i d1 d a h' e (y▸q1) q)
   exact ⟨b,q1,n1,w1.mono (az.refl _) (ay nb)⟩
 ·have f:∀ {j:Nat} {d1:Dm.Dat},(ρ.set i (.ow d'))[j]?=some (.ow d1)→∃ d2,ρ[j]?=some (.ow d2):=fun {j d1} h=>by
   rcases aP h with ⟨rfl,_⟩ | ⟨_,h'⟩
   ·exact ⟨d,e⟩
   ·exact ⟨d1,h'⟩
  obtain ⟨x1,y1⟩:=f h1
  obtain ⟨x2,y2⟩:=f h2
  exact st.dis j k x1 x2 b y1 y2 h3 h4
theorem fB {σ:St} {ρ:Dm.Env} {i:Nat} {d d':Dm.Dat} {b:Addr} (e:ρ[i]?=some (.ow d)) (h:au σ (ρ.set i (.ow d')) b):au σ ρ b:=by
 obtain ⟨j,d1,h1,h2⟩:=h
 rcases aP h1 with ⟨rfl,_⟩ | ⟨_,h'⟩
 ·exact ⟨j,d,e,h2⟩
 ·exact ⟨j,d1,h',h2⟩
theorem Stp.write {σ:St} {ρ:Dm.Env} {H0 H:Hp} {a:Addr} {o:HO} (w:au σ ρ a):Stp (au σ ρ) H0 H H0 (upd H a o):=
 ⟨az.refl _,fun b u e n=>by rw [ay (show b≠a from fun z=>n (by rw [z];exact w))];exact e,fun b u e=>.inr (.inl e),fun b u e=>by
  by_cases z:b=a
  ·subst z;exact ⟨o,aE⟩
  ·exact ⟨u,by rw [ay z];exact e⟩⟩
section
variable {D:Ends} {σ:St} {H:Hp}
theorem A5 {i:Nat} {f:Dm.FE} (h:tDS (Dm.sA i f) D σ H):wm (tD f) (k7 i) D σ H:=by
 obtain ⟨H0,ρ,o,st,e,k⟩:=h
 unfold Dm.sA at e
 split at e
 ·cases e
 rename_i hi0
 split at e
 ·cases e
 ·rename_i d ρ1 e1
  cases e
  refine ⟨H0,ρ,_,ρ1,st,e1,fun v H0' H' t r=>?_⟩
  obtain ⟨a,e,n,no,n0,w⟩:=r
  subst e
  refine k _ H0' H' ⟨t.st.A4 no n0 w,t.stp,fun b z=>?_,List.getElem?_set_ne hi0⟩
  rcases sX z with rfl | z
  ·exact .inr n
  ·exact .inl (t.own b z)
 ·rename_i x ρ1 _ e1
  split at e
  ·cases e
  ·rename_i d ρ2 e2
   cases e
   refine ⟨H0,ρ,_,ρ1,st,e1,fun v H0' H' t r=>?_⟩
   obtain ⟨H1,t1,b1,r1,_,_⟩:=take1 t (az.refl _) r e2
   exact k _ H1 H' ⟨t1.st.sV r1,t1.stp,fun b z=>.inl (t1.own b (fO z)),List.getElem?_set_ne hi0⟩
theorem yl {ρ:Dm.Env} {i:Nat} {d:Dm.Dat} {j:Nat} (h:Def ρ j):Def (ρ.set i (.sh d)) j:=trivial
noncomputable def gv:List Nat→TGs
 | []=>Kv
 | i::is=>Gd (k7 i) (gv is)
theorem sY {H0 H:Hp} {Q:St→Hp→Prop}:∀ {is:List Nat} {xs:List V} {ds:List Dm.Dat} {σ:St} {ρ ρ':Dm.Env},aB H0 H σ ρ→aJ H0 xs ds→Dm.sets is ds ρ=some ρ' →
  (∀ σ',aB H0 H σ' ρ'→(∀ a,au σ' ρ' a→au σ ρ a)→(∀ j,j∉is→σ'[j]?=σ[j]?)→(∀ j,Def ρ j→Def ρ' j)→σ'[0]?=σ[0]?→Q σ' H)→gv is xs σ H Q
 | [],_,[],σ,ρ,ρ',st,r,e,k=>by
  cases r
  cases e
  exact ⟨rfl,k σ st (fun _ z=>z) (fun _ _=>rfl) (fun _ z=>z) rfl⟩
 | i::is,_,d::ds,σ,ρ,ρ',st,r,e,k=>by
  cases r with
  | cons h r=>
   unfold Dm.sets at e
   split at e
   ·cases e
   rename_i hi0
   refine ⟨_,_,rfl,?_⟩
   refine sY (st.sV h) r e fun σ' st' o' n' d' f'=>k σ' st' (fun a z=>fO (o' a z)) (fun j hj=>?_) (fun j z=>d' j (yl z)) (f'.trans (List.getElem?_set_ne hi0))
   rw [n' j fun z=>hj (List.mem_cons_of_mem _ z)]
   exact List.getElem?_set_ne fun z=>hj (by rw [z];exact List.mem_cons_self)
 | [],_,_::_,_,_,_,_,_,e,_=>by cases e
 | _::_,_,[],_,_,_,_,_,e,_=>by cases e
theorem o5:∀ {is:List Nat} {ds:List Dm.Dat} {ρ ρ':Dm.Env},Dm.sets is ds ρ=some ρ'→ds.length=is.length
 | [],[],_,_,_=>rfl
 | i::is,_::ds,_,_,e=>by
  unfold Dm.sets at e
  split at e
  ·cases e
  ·simp [o5 (is:=is) (ds:=ds) e]
 | [],_::_,_,_,e=>by cases e
 | _::_,[],_,_,e=>by cases e
noncomputable def BD (is:List Nat) (g:TG) (bd:Dm.FB):Prop:=∀ (H0 H:Hp) (σ:St) (ρ ρ':Dm.Env) (x:V) (d:Dm.Dat) (Q:St→Hp→Prop),aB H0 H σ ρ→Rep H0 x d→bd d ρ=some ρ' →
 (∀ σ',aB H0 H σ' ρ'→(∀ a,au σ' ρ' a→au σ ρ a)→(∀ j,j∉is→σ'[j]?=σ[j]?)→(∀ j,Def ρ j→Def ρ' j)→σ'[0]?=σ[0]?→Q σ' H)→g x σ H Q
theorem ym (i:Nat):BD [i] (k7 i) (Dm.bN i):=by
 intro H0 H σ ρ ρ' x d Q st r e k
 unfold Dm.bN at e
 split at e
 ·cases e
 rename_i hi0
 cases e
 refine k _ (st.sV r) (fun a z=>fO z) (fun j hj=>?_) (fun j h=>yl h) (List.getElem?_set_ne hi0)
 exact List.getElem?_set_ne (fun z=>hj (by rw [z];exact List.mem_singleton.mpr rfl))
theorem A6 {K:PySem.W.Frag} {is:List Nat} {n:Nat} {f:Dm.FE} (hn:is.length=n) (h:tDS (Dm.sU is f) D σ H):wm (tD f) (HL K n (gv is)) D σ H:=by
 obtain ⟨H0,ρ,o,st,e,k⟩:=h
 unfold Dm.sU at e
 split at e
 ·cases e
 ·rename_i x ρ1 e1
  split at e
  ·rename_i ds ρ2 e2
   split at e
   ·cases e
   ·rename_i ρ3 e3
    cases e
    refine ⟨H0,ρ,_,ρ1,st,e1,fun v H0' H' t r=>?_⟩
    obtain ⟨H1,t1,b1,r1,_,_⟩:=take1 t (az.refl _) r e2
    cases r1 with
    | tup q rs=>
     refine ⟨_,_,rfl,SqT.of (t1.st.same _ _ q),by rw [rs.length,o5 e3,hn],?_⟩
     exact sY t1.st rs e3 fun σ' st' o' _ _ f'=>k σ' H1 H' ⟨st',t1.stp,fun a z=>.inl (t1.own a (o' a z)),f'⟩
  ·cases e
theorem A7 {K:PySem.W.Frag} (is:List Nat) {n:Nat} (hn:is.length=n):BD is (HL K n (gv is)) (Dm.bT is):=by
 intro H0 H σ ρ ρ' x d Q st r e k
 unfold Dm.bT at e
 split at e
 ·cases r with
  | tup q rs=>exact ⟨_,_,rfl,SqT.of (st.same _ _ q),by rw [rs.length,o5 e,hn],sY st rs e k⟩
 ·cases e
theorem K4 {K:PySem.W.Frag} {i:Nat} {f:Dm.FE} (h:tDS (Dm.lz i f) D σ H):uz (tBM K "list" sN (ux i) (tDA [f])) D σ H:=by
 obtain ⟨H0,ρ,o,st,e,k⟩:=h
 unfold Dm.lz at e
 split at e
 ·rename_i ds0 h0
  obtain ⟨a0,q0,n0,w0⟩:=st.ow i _ h0
  refine ⟨_,q0,?_⟩
  split at e
  ·cases e
  rename_i x ρ1 e1
  split at e
  ·cases e
  rename_i d ρ2 e2
  split at e
  ·rename_i ds h2
   split at e
   ·rename_i hz
    cases e
    obtain ⟨xs0,y0,_⟩:=w0
    refine ⟨.inl ⟨rfl,xs0,.inl (.inl y0)⟩,?_⟩
    refine ⟨H0,ρ,[x],ρ1,st,by unfold Dm.eAs;rw [e1];rfl,fun vs H0' H' t r=>?_⟩
    cases r with
    | cons r rr=>
     cases rr
     obtain ⟨H1,t1,b1,r1,_,_⟩:=take1 t (az.refl _) r e2
     obtain ⟨a,q,n,w⟩:=t1.st.ow i _ h2
     rw [q0] at q
     cases q
     obtain ⟨xs,y,rs⟩:=w
     refine ⟨a0,xs,_,rfl,rfl,y,by rw [rs.length];exact Nat.lt_of_lt_of_le hz (by decide),?_⟩
     have ow:au σ ρ2 a0:=⟨i,_,h2,q0⟩
     refine k σ H1 _ ⟨t1.st.write h2 q0 ⟨_,aE,rs.append (.cons r1 .nil)⟩,t1.stp.trans (Stp.write ow) fun b z=>.inl (t1.own b z),fun b z=>.inl (t1.own b (fB h2 z)),rfl⟩
   ·cases e
  ·cases e
 ·cases e
theorem ID (n:Nat) (i:Int):Dm.ixN n i=L2.ixN n i:=rfl
theorem K5 {i:Nat} {j f:Dm.FE} (h:tDS (Dm.mQ i j f) D σ H):wm (tD f) (gX (ux i) (tD j) Gk) D σ H:=by
 obtain ⟨H0,ρ,o,st,e,k⟩:=h
 unfold Dm.mQ at e
 split at e
 ·cases e
 rename_i x ρ1 e1
 split at e
 ·cases e
 rename_i d ρ2 e2
 split at e
 case h_2=>cases e
 rename_i d0 h2
 split at e
 ·rename_i m ρ3 e3
  split at e
  ·rename_i ds h3
   split at e
   ·cases e
   ·rename_i p e4
    cases e
    refine ⟨H0,ρ,_,ρ1,st,e1,fun v H0' H' t r=>?_⟩
    obtain ⟨H1,t1,b1,r1,_,_⟩:=take1 t (az.refl _) r e2
    obtain ⟨a0,q0,_,_⟩:=t1.st.ow i _ h2
    refine ⟨_,q0,H1,ρ2,_,ρ3,t1.st,e3,fun u H2 Hc t2 r2=>?_⟩
    obtain ⟨a,q,n,w⟩:=t2.st.ow i _ h3
    rw [q0] at q
    cases q
    obtain ⟨xs,y,rs⟩:=w
    refine ⟨a0,xs,m,p,rfl,Rep.isInt r2,y,by rw [rs.length];exact e4,?_⟩
    have ow:au σ ρ3 a0:=⟨i,_,h3,q0⟩
    have tt:=t1.trans t2
    refine k σ H2 _ ⟨t2.st.write h3 q0 ⟨_,aE,rs.set (r1.mono t2.stp.s0) p⟩,tt.stp.trans (Stp.write ow) fun b z=>.inl (tt.own b z),fun b z=>.inl (tt.own b (fB h3 z)),rfl⟩
  ·cases e
 ·cases e
theorem Ec {t:Dm.FT} {body:Dm.FS} {n:Nat} (h:tDS (Dm.whD t body n) D σ H):AD (tDT t) (tDS body) D σ H:=by
 refine ⟨fun m σ H=>tDS (Dm.whD t body m) D σ H,⟨n,h⟩,?_⟩
 rintro m σ H ⟨H0,ρ,o,st,e,k⟩
 cases m with
 | zero=>unfold Dm.whD at e;cases e
 | succ m=>
  unfold Dm.whD at e
  split at e
  ·cases e
  ·rename_i ρ1 e1
   cases e
   refine ⟨H0,ρ,false,ρ1,st,e1,fun H1 Hb t1=>?_⟩
   dsimp only
   rw [if_neg Bool.false_ne_true]
   exact k σ H1 Hb t1.sst
  ·rename_i ρ1 e1
   refine ⟨H0,ρ,true,ρ1,st,e1,fun H1 Hb t1=>?_⟩
   dsimp only
   rw [if_pos rfl]
   refine ⟨fun σ' H'=>tDS (Dm.whD t body m) D σ' H',fun σ' H' q=>⟨m,Nat.lt_succ_self m,q⟩,?_⟩
   have k1:=k.pre t1.sst
   split at e
   ·rename_i ρ2 e2
    exact ⟨H1,ρ1,_,t1.st,e2,fun σ' H0' H' t2=>⟨H0',ρ2,o,t2.st,e,k1.pre t2⟩⟩
   ·rename_i ρ2 e2
    exact ⟨H1,ρ1,_,t1.st,e2,fun σ' H0' H' t2=>⟨H0',ρ2,o,t2.st,e,k1.pre t2⟩⟩
   ·rename_i ρ2 e2
    cases e
    exact ⟨H1,ρ1,_,t1.st,e2,k1⟩
   ·rename_i v ρ2 e2
    cases e
    exact ⟨H1,ρ1,_,t1.st,e2,k1⟩
   ·cases e
noncomputable def JW (J:It) (H00:Hp) (ys:List Dm.Dat):Prop:=∀ H0 H,az H00 H0→az H0 H→(∀ i,ys.length≤i→J.stop i H) ∧
 ∀ (i:Nat) (d:Dm.Dat),ys[i]?=some d→J.go i H∧∀ x H',J.yld i H x H'→∃ H0',aN H0 H H0' H'∧Rep H0' x d
noncomputable def tDI (fi:Dm.FI):TI:=fun σ H R=>∃ H0 ρ ys ρ',aB H0 H σ ρ∧fi ρ=some (ys,ρ')∧∀ J H0' H',ESt σ ρ H0 H ρ' H0' H'→JW J H0' ys→R J H'
theorem K6 {fi:Dm.FI} {bd:Dm.FB} {g:TG} {body:Dm.FS} {is:List Nat} (hb:BD is g bd) (h:tDS (Dm.gu fi bd body) D σ H):HN (tDI fi) g (tDS body) D σ H:=by
 obtain ⟨H0,ρ,o,st,e,k⟩:=h
 unfold Dm.gu at e
 split at e
 ·cases e
 rename_i ys ρ1 e1
 refine ⟨H0,ρ,ys,ρ1,st,e1,fun J H00 Hb t1 jw=>?_⟩
 refine ⟨fun i m σ H=>∃ H0 ρ o,aB H0 H σ ρ∧az H00 H0∧m=ys.length-i∧i≤ys.length∧Dm.lC bd body (ys.drop i) ρ=some o∧o4 D σ ρ H0 H o,
  ⟨ys.length,H00,ρ1,o,t1.st,az.refl _,by simp,Nat.zero_le _,by simpa using e,k.pre t1.sst⟩,?_⟩
 rintro i m σ H ⟨H0,ρ,o,st,s00,rfl,hi,e,k⟩
 obtain ⟨js,jg⟩:=jw H0 H s00 st.same
 by_cases hlt:i<ys.length
 ·have hd:ys[i]?=some ys[i]:=by simp [hlt]
  obtain ⟨g1,g2⟩:=jg i ys[i] hd
  rw [List.drop_eq_getElem_cons hlt] at e
  unfold Dm.lC at e
  refine .inr ⟨g1,fun σ' H'=>∃ H0 ρ o,aB H0 H' σ' ρ∧az H00 H0∧Dm.lC bd body (ys.drop (i+1)) ρ=some o∧o4 D σ' ρ H0 H' o,?_,fun x H' y=>?_⟩
  ·rintro σ' H' ⟨H0',ρ',o',h1,h2,h3,h4⟩
   exact ⟨ys.length-(i+1),by omega,H0',ρ',o',h1,h2,rfl,hlt,h3,h4⟩
  ·obtain ⟨H0',gr,rx⟩:=g2 x H' y
   split at e
   ·cases e
   ·rename_i ρ2 e2
    have t2:=ESt.grow st gr
    refine hb H0' H' σ ρ ρ2 x ys[i] _ t2.st rx e2 fun σ2 st2 o2 _ _ f2=>?_
    have t3:SSt σ ρ H0 H σ2 ρ2 H0' H':=⟨st2,t2.stp,fun a z=>.inl (o2 a z),f2⟩
    have k3:=k.pre t3
    have s3:az H00 H0':=s00.trans gr.s0
    split at e
    ·rename_i ρ3 e3
     exact ⟨H0',ρ2,_,st2,e3,fun σ4 H4 Hd t4=>⟨H4,ρ3,o,t4.st,s3.trans t4.stp.s0,e,k3.pre t4⟩⟩
    ·rename_i ρ3 e3
     exact ⟨H0',ρ2,_,st2,e3,fun σ4 H4 Hd t4=>⟨H4,ρ3,o,t4.st,s3.trans t4.stp.s0,e,k3.pre t4⟩⟩
    ·rename_i ρ3 e3
     cases e
     exact ⟨H0',ρ2,_,st2,e3,k3⟩
    ·rename_i v ρ3 e3
     cases e
     exact ⟨H0',ρ2,_,st2,e3,k3⟩
    ·cases e
 ·have e':i=ys.length:=by omega
  subst e'
  rw [List.drop_length] at e
  cases e
  exact .inl ⟨js _ (Nat.le_refl _),k σ H0 H (.refl st)⟩
theorem Ed {K:PySem.W.Frag} {H0:Hp} {a:Addr} {xs:List V} {ds:List Dm.Dat} (hq:Rd H0 a (.lst xs)) (rs:aJ H0 xs ds):JW (Itl K a) H0 ds:=by
 intro H0' H s0 s1
 have q:SqL K H a xs:=.inl (az.rd s1 (az.rd s0 hq))
 refine ⟨fun i hi=>⟨xs,q,by rw [rs.length];exact hi⟩,fun i d e=>?_⟩
 obtain ⟨v,hv,rv⟩:=rs.get e
 refine ⟨⟨xs,v,q,hv⟩,fun x H' y=>?_⟩
 obtain ⟨e1,y⟩:=y
 subst e1
 have z:=y xs q
 rw [hv] at z
 cases z
 exact ⟨H0',aN.refl s1,rv.mono s0⟩
theorem IE {K:PySem.W.Frag} {H0:Hp} {a:Addr} {xs:List V} {ds:List Dm.Dat} (hq:H0 a=some (.tup xs)) (rs:aJ H0 xs ds):JW (Itt K a) H0 ds:=by
 intro H0' H s0 s1
 have q:SqT K H a xs:=.inl (.inl (s1 _ _ (s0 _ _ hq)))
 refine ⟨fun i hi=>⟨xs,q,by rw [rs.length];exact hi⟩,fun i d e=>?_⟩
 obtain ⟨v,hv,rv⟩:=rs.get e
 refine ⟨⟨xs,v,q,hv⟩,fun x H' y=>?_⟩
 obtain ⟨e1,y⟩:=y
 subst e1
 have z:=y xs q
 rw [hv] at z
 cases z
 exact ⟨H0',aN.refl s1,rv.mono s0⟩
theorem uQ {H0:Hp} {lo:Int} {n:Nat}:JW (Itr lo n) H0 (Dm.ups lo n):=by
 intro H0' H s0 s1
 have el:(Dm.ups lo n).length=n:=by simp [Dm.ups]
 refine ⟨fun i hi=>by rw [el] at hi;exact hi,fun i d e=>?_⟩
 have hi:i<n:=by have:=(List.getElem?_eq_some_iff.mp e).1;rw [el] at this;exact this
 have hd:d=.int (lo+i):=by
  unfold Dm.ups at e
  rw [List.getElem?_map,List.getElem?_range hi] at e
  exact (Option.some.inj e).symm
 refine ⟨hi,fun x H' y=>?_⟩
 obtain ⟨rfl,rfl⟩:=y
 subst hd
 exact ⟨H0',aN.refl s1,.int _⟩
variable {R:It→Hp→Prop}
theorem MS {K:PySem.W.Frag} {f:Dm.FE} (h:tDI (Dm.iL f) σ H R):uA K (tD f) σ H R:=by
 obtain ⟨H0,ρ,ys,ρ',st,e,k⟩:=h
 unfold Dm.iL at e
 split at e
 ·cases e
 rename_i x ρ1 e1
 split at e
 ·rename_i ds ρ2 e2
  cases e
  refine ⟨H0,ρ,_,ρ1,st,e1,fun v H0' H' t r=>?_⟩
  obtain ⟨H1,t1,b1,r1,_,_⟩:=take1 t (az.refl _) r e2
  cases r1 with
  | lst q rs=>exact ⟨_,rfl,⟨_,.inl (az.rd t1.st.same q)⟩,k _ H1 H' t1 (Ed q rs)⟩
 ·cases e
theorem MT {K:PySem.W.Frag} {f:Dm.FE} (h:tDI (Dm.iT f) σ H R):AG K (tD f) σ H R:=by
 obtain ⟨H0,ρ,ys,ρ',st,e,k⟩:=h
 unfold Dm.iT at e
 split at e
 ·cases e
 rename_i x ρ1 e1
 split at e
 ·rename_i ds ρ2 e2
  cases e
  refine ⟨H0,ρ,_,ρ1,st,e1,fun v H0' H' t r=>?_⟩
  obtain ⟨H1,t1,b1,r1,_,_⟩:=take1 t (az.refl _) r e2
  cases r1 with
  | tup q rs=>exact ⟨_,rfl,⟨_,.inl (.inl (t1.st.same _ _ q))⟩,k _ H1 H' t1 (IE q rs)⟩
 ·cases e
theorem K7 {f:Dm.FE} (h:tDI (Dm.iR1 f) σ H R):Ge (tDA [f]) σ H R:=by
 obtain ⟨H0,ρ,ys,ρ',st,e,k⟩:=h
 unfold Dm.iR1 at e
 split at e
 ·rename_i j ρ1 e1
  split at e
  ·rename_i hb
   cases e
   refine ⟨H0,ρ,[.val (.int j)],_,st,by unfold Dm.eAs;rw [e1];rfl,fun vs H0' H' t r=>?_⟩
   cases r with
   | cons r rr=>
    cases rr
    cases Rep.isInt r
    have h1:=hb.1
    have h2:=hb.2
    unfold Dm.BIG at h1 h2
    exact ⟨j,rfl,by omega,by omega,k _ H0' H' t uQ⟩
  ·cases e
 ·cases e
theorem K8 {f g:Dm.FE} (h:tDI (Dm.iR2 f g) σ H R):Gf (tDA [f,g]) σ H R:=by
 obtain ⟨H0,ρ,ys,ρ',st,e,k⟩:=h
 unfold Dm.iR2 at e
 split at e
 ·rename_i i ρ1 e1
  split at e
  ·rename_i j ρ2 e2
   split at e
   ·rename_i hb
    cases e
    refine ⟨H0,ρ,[.val (.int i),.val (.int j)],_,st,by unfold Dm.eAs;rw [e1];dsimp only;unfold Dm.eAs;rw [e2];rfl,fun vs H0' H' t r=>?_⟩
    cases r with
    | cons r rr=>
     cases rr with
     | cons r' rr=>
      cases rr
      cases Rep.isInt r
      cases Rep.isInt r'
      obtain ⟨h1,h2,h3,h4⟩:=hb
      unfold Dm.BIG at h1 h2 h3 h4
      exact ⟨i,j,rfl,⟨by omega,by omega,by omega,by omega⟩,k _ H0' H' t uQ⟩
   ·cases e
  ·cases e
 ·cases e
noncomputable def tLC (wi:TI) (own:Nat) (g:TG) (tt:TT) (te:TE):TE:=fun σ H Q=>wi σ H fun J H1=>∀ D,H1 D=none→∃ W:Nat→Nat→St→Hp→Prop,
 (∃ m,W 0 m (σ++List.replicate own none) (upd H1 D (.lst [])))∧∀ i m σ' H',W i m σ' H' →
  (J.stop i H'∧Q (.ref D) H')∨(J.go i H'∧∀ x H2,J.yld i H' x H2→g x σ' H2 fun σ2 H3=>tt σ2 H3 fun b H4=>if b=true
   then te σ2 H4 fun y H5=>∃ acc,H5 D=some (.lst acc)∧acc.length<sizeLine∧∃ m',m'<m∧W (i+1) m' σ2 (upd H5 D (.lst (acc++[y])))
   else ∃ m',m'<m∧W (i+1) m' σ2 H4)
theorem aB.aside {H0 H:Hp} {σ:St} {ρ:Dm.Env} {a:Addr} {o:HO} (st:aB H0 H σ ρ) (n0:H0 a=none) (no:¬ au σ ρ a):aB H0 (upd H a o) σ ρ where
 same:=fun b u z=>by rw [ay (aM z n0)];exact st.same _ _ z
 len:=st.len
 sh:=st.sh
 ow:=fun j d h=>by
  obtain ⟨b,q,n,w⟩:=st.ow j d h
  have nb:b≠a:=fun y=>no ⟨j,d,h,y▸q⟩
  exact ⟨b,q,n,w.mono (az.refl _) (ay nb)⟩
 dis:=st.dis
theorem aB.dh {H0 H:Hp} {σ:St} {ρ:Dm.Env} {a:Addr} (st:aB H0 H σ ρ) (h:H a=none):¬ au σ ρ a:=fun ⟨i,d,h1,h2⟩=>by
 obtain ⟨b,q,n,w⟩:=st.ow i d h1
 rw [h2] at q
 cases q
 obtain ⟨o,z⟩:=w.some
 rw [h] at z;cases z
theorem lF {α:Type} {l:List α} {r:List α} {i:Nat} {x:α} (h:(l++r)[i]?=some x) (n:x∉r):i<l.length∧l[i]?=some x:=by
 by_cases hi:i<l.length
 ·rw [List.getElem?_append_left hi] at h
  exact ⟨hi,h⟩
 ·rw [List.getElem?_append_right (Nat.not_lt.mp hi)] at h
  exact absurd (List.mem_of_getElem? h) n
theorem A8 {d:Dm.Dat} {k:Nat}:Dm.Cell.sh d∉List.replicate k Dm.Cell.un:=fun h=>by
 have:=List.eq_of_mem_replicate h
 cases this
theorem lG {d:Dm.Dat} {k:Nat}:Dm.Cell.ow d∉List.replicate k Dm.Cell.un:=fun h=>by
 have:=List.eq_of_mem_replicate h
 cases this
theorem aB.ext {H0 H:Hp} {σ:St} {ρ:Dm.Env} (st:aB H0 H σ ρ) (k:Nat):aB H0 H (σ++List.replicate k none) (ρ++List.replicate k .un) where
 same:=st.same
 len:=by simp [st.len]
 sh:=fun i d h=>by
  obtain ⟨hi,h⟩:=lF h A8
  obtain ⟨v,q,r⟩:=st.sh i d h
  exact ⟨v,by rw [List.getElem?_append_left (by rw [st.len];exact hi)];exact q,r⟩
 ow:=fun i d h=>by
  obtain ⟨hi,h⟩:=lF h lG
  obtain ⟨v,q,r⟩:=st.ow i d h
  exact ⟨v,by rw [List.getElem?_append_left (by rw [st.len];exact hi)];exact q,r⟩
 dis:=fun i j d e a h1 h2 h3 h4=>by
  obtain ⟨hi,h1⟩:=lF h1 lG
  obtain ⟨hj,h2⟩:=lF h2 lG
  rw [List.getElem?_append_left (by rw [st.len];exact hi)] at h3
  rw [List.getElem?_append_left (by rw [st.len];exact hj)] at h4
  exact st.dis i j d e a h1 h2 h3 h4
theorem mV {H0 H:Hp} {σ:St} {ρ:Dm.Env} (st:aB H0 H σ ρ) {k:Nat} {a:Addr} (h:au (σ++List.replicate k none) (ρ++List.replicate k .un) a):au σ ρ a:=by
 obtain ⟨i,d,h1,h2⟩:=h
 obtain ⟨hi,h1⟩:=lF h1 lG
 rw [List.getElem?_append_left (by rw [st.len];exact hi)] at h2
 exact ⟨i,d,h1,h2⟩
theorem Stp.aside {O:Addr→Prop} {H0 H H0' H':Hp} {D:Addr} {o:HO} (t:Stp O H0 H H0' H') (hD:H D=none):Stp O H0 H H0' (upd H' D o):=
 ⟨t.s0,fun a u e n=>by rw [ay (aM e hD)];exact t.s1 a u e n,t.s2,fun a u e=>by rw [ay (aM e hD)];exact t.s3 a u e⟩
theorem ESt.fZ {σ:St} {ρ ρ':Dm.Env} {H0 H H0' H':Hp} (t:ESt σ ρ H0 H ρ' H0' H') {D:Addr} {o:HO} (h:H D=some o) (n0:H0 D=none) (no:¬ au σ ρ D):H' D=some o∧H0' D=none∧¬ au σ ρ' D:=by
 refine ⟨t.stp.s1 D o h no,?_,fun z=>no (t.own D z)⟩
 cases q:H0' D with
 | none=>rfl
 | some u=>
  rcases t.stp.s2 D u q with z | z | z
  ·rw [h] at z;cases z
  ·rw [n0] at z;cases z
  ·exact absurd z no
noncomputable def JWa (J:It) (H00:Hp) (pa:Option (Addr×HO)) (ys:List Dm.Dat):Prop:=∀ H0 H,az H00 H0→az H0 H→(∀ q,pa=some q→H q.1=some q.2)→(∀ i,ys.length≤i→J.stop i H) ∧
 ∀ (i:Nat) (d:Dm.Dat),ys[i]?=some d→J.go i H∧∀ x H',J.yld i H x H'→∃ H0',aN H0 H H0' H'∧Rep H0' x d
theorem uR {σ:St} {own:Nat} {bd:Dm.FB} {g:TG} {t:Dm.FT} {el:Dm.FE} {is:List Nat} {Q:VK} {H00 Hb:Hp} {ρ1 ρ2:Dm.Env} {ds ys:List Dm.Dat} {J:It} {pa:Option (Addr×HO)} (hb:BD is g bd) (hl:∀ i∈is,σ.length≤i)
  (st1:aB H00 Hb σ ρ1) (hp:∀ q,pa=some q→Hb q.1=some q.2∧H00 q.1=none∧¬ au σ ρ1 q.1) (jw:JWa J H00 pa ds) (hsz:ds.length≤Dm.SZ) (e2:Dm.fX bd t el ds (ρ1++List.replicate own .un) []=some (ys,ρ2))
  (k:∀ v H0' H',ESt σ ρ1 H00 Hb (ρ2.take ρ1.length) H0' H'→iX Hb H0' H' σ (ρ2.take ρ1.length) v (.new (.lst ys))→(∀ q,pa=some q→H' q.1=some q.2∧H0' q.1=none)→Q v H') (D:Addr) (hD:Hb D=none) :
  ∃ W:Nat→Nat→St→Hp→Prop,(∃ m,W 0 m (σ++List.replicate own none) (upd Hb D (.lst [])))∧∀ i m σ' H',W i m σ' H' →
  (J.stop i H'∧Q (.ref D) H')∨(J.go i H'∧∀ x H2,J.yld i H' x H2→g x σ' H2 fun σ2 H3=>tDT t σ2 H3 fun b H4=>if b=true
   then tD el σ2 H4 fun y H5=>∃ acc,H5 D=some (.lst acc)∧acc.length<sizeLine∧∃ m',m'<m∧W (i+1) m' σ2 (upd H5 D (.lst (acc++[y])))
   else ∃ m',m'<m∧W (i+1) m' σ2 H4):=by
 have hpD:∀ q,pa=some q→q.1≠D:=fun q e z=>by have:=(hp q e).1;rw [z,hD] at this;cases this
 have noD:¬ au σ ρ1 D:=st1.dh hD
 refine ⟨fun i m σ' H'=>∃ (H0c:Hp) (ρc:Dm.Env) (zM:List Dm.Dat) (wH:List V),aB H0c H' σ' ρc∧az H00 H0c∧m=ds.length-i∧i≤ds.length∧Dm.fX bd t el (ds.drop i) ρc zM=some (ys,ρ2) ∧
  H' D=some (.lst wH)∧aJ H0c wH zM∧H0c D=none∧zM.length≤i∧Stp (au σ ρ1) H00 Hb H0c H'∧(∀ j,j<σ.length→σ'[j]?=σ[j]?)∧(∀ a,au σ' ρc a→au σ ρ1 a)∧(∀ j,Def ρ1 j→Def ρc j)∧(∀ q,pa=some q→H' q.1=some q.2∧H0c q.1=none∧¬ au σ' ρc q.1),
  ⟨ds.length,H00,ρ1++List.replicate own .un,[],[],(st1.aside (st1.same.free hD) noD).ext own,az.refl _,by simp,Nat.zero_le _,by simpa using e2,aE,.nil,st1.same.free hD,Nat.zero_le _,(Stp.refl _ _ _).aside hD,
   fun j hj=>List.getElem?_append_left hj,fun a z=>mV st1 z,fun j z=>trivial,fun q e=>⟨by rw [ay (hpD q e)];exact (hp q e).1,(hp q e).2.1,fun z=>(hp q e).2.2 (mV st1 z)⟩⟩,?_⟩
 rintro i m σ' H' ⟨H0c,ρc,zM,wH,sc,s00,rfl,hi,ec,hDl,ra,n0,hal,sp,hσ,ho,hdf,hpc⟩
 have nOc:¬ au σ' ρc D:=fun z=>noD (ho D z)
 obtain ⟨js,jg⟩:=jw H0c H' s00 sc.same fun q e=>(hpc q e).1
 by_cases hlt:i<ds.length
 ·have hd:ds[i]?=some ds[i]:=by simp [hlt]
  obtain ⟨g1,g2⟩:=jg i ds[i] hd
  rw [List.drop_eq_getElem_cons hlt] at ec
  unfold Dm.fX at ec
  refine .inr ⟨g1,fun y H2 yy=>?_⟩
  obtain ⟨H0',gr,rx⟩:=g2 y H2 yy
  split at ec
  ·cases ec
  rename_i ρ3 e3
  have t2:=ESt.grow sc gr
  obtain ⟨hD2,n02,no2⟩:=t2.fZ hDl n0 nOc
  have hp2:=fun q e=>t2.fZ (hpc q e).1 (hpc q e).2.1 (hpc q e).2.2
  refine hb H0' H2 σ' ρc ρ3 y ds[i] _ t2.st rx e3 fun σ3 st3 o3 k3 d3 _=>?_
  have no3:¬ au σ3 ρ3 D:=fun z=>no2 (o3 D z)
  have po3:∀ q,pa=some q→¬ au σ3 ρ3 q.1:=fun q e z=>(hp2 q e).2.2 (o3 q.1 z)
  have hσ3:∀ j,j<σ.length→σ3[j]?=σ[j]?:=fun j hj=>(k3 j fun z=>Nat.not_lt.mpr (hl j z) hj).trans (hσ j hj)
  have ho3:∀ a,au σ3 ρ3 a→au σ ρ1 a:=fun a z=>ho a (o3 a z)
  have K9:∀ j,Def ρ1 j→Def ρ3 j:=fun j z=>d3 j (hdf j z)
  have sp3:Stp (au σ ρ1) H00 Hb H0' H2:=sp.trans t2.stp fun a z=>.inl (ho a z)
  have ra3:=ra.mono gr.s0
  have s3:az H00 H0':=s00.trans gr.s0
  split at ec
  ·cases ec
  ·rename_i ρ4 e4
   refine ⟨H0',ρ3,false,ρ4,st3,e4,fun sZ H'' t4=>?_⟩
   dsimp only
   rw [if_neg Bool.false_ne_true]
   obtain ⟨hD4,n04,no4⟩:=t4.fZ hD2 n02 no3
   have hp4:=fun q e=>t4.fZ (hp2 q e).1 (hp2 q e).2.1 (po3 q e)
   exact ⟨ds.length-(i+1),by omega,sZ,ρ4,zM,wH,t4.st,s3.trans t4.stp.s0,rfl,hlt,ec,hD4,ra3.mono t4.stp.s0,n04,Nat.le_succ_of_le hal,sp3.trans t4.stp fun a z=>.inl (ho3 a z),hσ3,fun a z=>ho3 a (t4.own a z),fun j z=>t4.dfn j (K9 j z),hp4⟩
  ·rename_i ρ4 e4
   refine ⟨H0',ρ3,true,ρ4,st3,e4,fun sZ H'' t4=>?_⟩
   dsimp only
   rw [if_pos rfl]
   obtain ⟨hD4,n04,no4⟩:=t4.fZ hD2 n02 no3
   have hp4:=fun q e=>t4.fZ (hp2 q e).1 (hp2 q e).2.1 (po3 q e)
   split at ec
   ·cases ec
   rename_i x5 ρ5 e5
   split at ec
   ·cases ec
   rename_i y6 ρ6 e6
   refine ⟨sZ,ρ4,x5,ρ5,t4.st,e5,fun v H5 Hc t5 r5=>?_⟩
   obtain ⟨H6,t6,b6,r6,_,_⟩:=take1 t5 (az.refl _) r5 e6
   obtain ⟨hD6,n06,no6⟩:=t6.fZ hD4 n04 no4
   have hp6:=fun q e=>t6.fZ (hp4 q e).1 (hp4 q e).2.1 (hp4 q e).2.2
   refine ⟨wH,hD6,?_,ds.length-(i+1),by omega,H6,ρ6,zM++[y6],wH++[v],t6.st.aside n06 no6,(s3.trans t4.stp.s0).trans t6.stp.s0,rfl,hlt,ec,aE,?_,n06,?_,?_,hσ3,fun a z=>ho3 a (t4.own a (t6.own a z)),fun j z=>t6.dfn j (t4.dfn j (K9 j z)),fun q e=>⟨by rw [ay (hpD q e)];exact (hp6 q e).1,(hp6 q e).2.1,(hp6 q e).2.2⟩⟩
   ·rw [ra.length]
    unfold Dm.SZ at hsz
    exact Nat.lt_of_le_of_lt (Nat.le_trans hal (Nat.le_trans (Nat.le_of_lt hlt) hsz)) (by decide)
   ·exact ((ra3.mono t4.stp.s0).mono t6.stp.s0).append (.cons r6 .nil)
   ·rw [List.length_append,List.length_singleton];omega
   ·exact ((sp3.trans t4.stp fun a z=>.inl (ho3 a z)).trans t6.stp fun a z=>.inl (ho3 a (t4.own a z))).aside hD
 ·have e':i=ds.length:=by omega
  subst e'
  rw [List.drop_length] at ec
  cases ec
  refine .inl ⟨js _ (Nat.le_refl _),k _ H0c H' ?_ ?_ fun q e=>⟨(hpc q e).1,(hpc q e).2.1⟩⟩
  ·have hlen:σ.length≤ρ2.length:=by
    rw [← sc.len]
    refine Nat.not_lt.mp fun z=>?_
    have q:=hσ σ'.length z
    rw [List.getElem?_eq_none (Nat.le_refl _),List.getElem?_eq_getElem z] at q
    cases q
   have tk:∀ {j:Nat} {c:Dm.Cell},(ρ2.take ρ1.length)[j]?=some c→j<σ.length∧ρ2[j]?=some c:=fun {j c} h=>by
    have hj:j<ρ1.length:=by
     have:=(List.getElem?_eq_some_iff.mp h).1
     rw [List.length_take] at this
     omega
    rw [List.getElem?_take_of_lt hj] at h
    exact ⟨by rw [st1.len];exact hj,h⟩
   have own':∀ a,au σ (ρ2.take ρ1.length) a→au σ' ρ2 a:=fun a ⟨j,d,h1,h2⟩=>by
    obtain ⟨hj,h1⟩:=tk h1
    exact ⟨j,d,h1,(hσ j hj).trans h2⟩
   refine ⟨⟨sc.same,?_,fun j d h=>?_,fun j d h=>?_,fun j j' d d' a h1 h2 h3 h4=>?_⟩,sp,fun a z=>ho a (own' a z),fun j z=>?_⟩
   ·rw [List.length_take,← st1.len];omega
   ·obtain ⟨hj,h⟩:=tk h
    obtain ⟨v,q,r⟩:=sc.sh j d h
    exact ⟨v,(hσ j hj).symm.trans q,r⟩
   ·obtain ⟨hj,h⟩:=tk h
    obtain ⟨v,q,r⟩:=sc.ow j d h
    exact ⟨v,(hσ j hj).symm.trans q,r⟩
   ·obtain ⟨hj,h1⟩:=tk h1
    obtain ⟨hj',h2⟩:=tk h2
    exact sc.dis j j' d d' a h1 h2 ((hσ j hj).trans h3) ((hσ j' hj').trans h4)
   ·trivial
  ·refine ⟨D,rfl,hD,fun ⟨j,d,h1,h2⟩=>?_,n0,wH,hDl,ra⟩
   have hj:j<ρ1.length:=by
    have:=(List.getElem?_eq_some_iff.mp h1).1
    rw [List.length_take] at this
    omega
   rw [List.getElem?_take_of_lt hj] at h1
   exact nOc ⟨j,d,h1,(hσ j (by rw [st1.len];exact hj)).trans h2⟩
theorem wJ {fi:Dm.FI} {own:Nat} {bd:Dm.FB} {g:TG} {t:Dm.FT} {el:Dm.FE} {is:List Nat} {Q:VK} (hb:BD is g bd) (hl:∀ i∈is,σ.length≤i) (h:tD (Dm.cU fi own bd t el) σ H Q) :
  tLC (tDI fi) own g (tDT t) (tD el) σ H Q:=by
 obtain ⟨H0,ρ,x,ρ',st,e,k⟩:=h
 unfold Dm.cU at e
 split at e
 ·cases e
 rename_i ds ρ1 e1
 split at e
 case isFalse=>cases e
 rename_i hsz
 split at e
 ·cases e
 rename_i ys ρ2 e2
 cases e
 refine ⟨H0,ρ,ds,ρ1,st,e1,fun J H00 Hb t1 jw D hD=>uR (pa:=none) hb hl t1.st (fun q e=>by cases e) (fun H0 H s0 s1 _=>jw H0 H s0 s1) hsz e2 (fun v H0' H' t2 r2 _=>k v H0' H' (t1.trans t2) (r2.early fun a n=>t1.stp.gone n)) D hD⟩
theorem bh {n m:Nat} {body:Dm.FS} {vs:List V} {H:Hp} {Q:VK} {E:XK} (h:spD (Dm.fn n m body) vs H Q E):vs.length=n:=by
 obtain ⟨H0,ds,z,s,rs,e,k⟩:=h
 unfold Dm.fn at e
 split at e
 ·rename_i hl
  rw [rs.length];exact hl
 ·cases e
theorem fH {N:List Str} {n m:Nat} {body:Dm.FS} {vs:List V} {Q:VK} {E:XK} (hm:N.length=n+m) (h:spD (Dm.fn n m body) vs H Q E) :
  tDS body { nx:=fun _ H'=>Q .non H',rt:=Q } (start N vs) H:=by
 have hvn:=bh h
 obtain ⟨H0,ds,z,s,rs,e,k⟩:=h
 have hl:=rs.length
 have no:∀ a,¬ au (start N vs) (ds.map Dm.Cell.sh++List.replicate m .un) a:=fun a ⟨i,d,h1,_⟩=>by
  by_cases hi:i<ds.length
  ·rw [List.getElem?_append_left (by simpa using hi),List.getElem?_map] at h1
   cases q:ds[i]? with
   | none=>rw [q] at h1;cases h1
   | some y=>rw [q] at h1;cases h1
  ·rw [List.getElem?_append_right (by simpa using hi),List.getElem?_replicate] at h1
   split at h1<;>cases h1
 have st:aB H0 H (start N vs) (ds.map Dm.Cell.sh++List.replicate m .un):=by
  refine ⟨s,?_,fun i d h=>?_,fun i d h=>?_,fun i j d e a h1 h2 _ _=>?_⟩
  ·unfold L2.start
   simp only [List.length_append,List.length_map,List.length_replicate]
   omega
  ·have hi:i<ds.length:=by
    by_cases hi:i<ds.length
    ·exact hi
    ·rw [List.getElem?_append_right (by simpa using hi),List.getElem?_replicate] at h
     split at h<;>cases h
   rw [List.getElem?_append_left (by simpa using hi),List.getElem?_map] at h
   cases q:ds[i]? with
   | none=>rw [q] at h;cases h
   | some y=>
    rw [q] at h
    cases h
    obtain ⟨v,hv,r⟩:=rs.get q
    refine ⟨v,?_,r⟩
    unfold L2.start
    rw [List.getElem?_append_left (by simpa [hl] using hi),List.getElem?_map,hv]
    rfl
  ·by_cases hi:i<ds.length
   ·rw [List.getElem?_append_left (by simpa using hi),List.getElem?_map] at h
    cases q:ds[i]? with
    | none=>rw [q] at h;cases h
    | some y=>rw [q] at h;cases h
   ·rw [List.getElem?_append_right (by simpa using hi),List.getElem?_replicate] at h
    split at h<;>cases h
  ·by_cases hi:i<ds.length
   ·rw [List.getElem?_append_left (by simpa using hi),List.getElem?_map] at h1
    cases q:ds[i]? with
    | none=>rw [q] at h1;cases h1
    | some y=>rw [q] at h1;cases h1
   ·rw [List.getElem?_append_right (by simpa using hi),List.getElem?_replicate] at h1
    split at h1<;>cases h1
 have gr:∀ {H0' H'},Stp (au (start N vs) (ds.map Dm.Cell.sh++List.replicate m .un)) H0 H H0' H'→az H0' H'→aN H0 H H0' H':=fun {H0' H'} t ss=>
  ⟨t.s0,fun a o e=>t.s1 a o e (no a),fun a o e=>(t.s2 a o e).imp id fun q=>q.elim id fun z=>absurd z (no a),ss⟩
 unfold Dm.fn at e
 rw [if_pos (by rw [← hl];exact hvn)] at e
 split at e
 ·rename_i r ρ' e1
  cases e
  refine ⟨H0,_,_,st,e1,fun σ' v H0' H' t r _=>k v H0' H' (gr t.stp t.st.same) ?_⟩
  cases z with
  | val d=>exact r
  | new d=>
   obtain ⟨a,e,n,n0,w⟩:=r
   exact ⟨a,e,n.elim id fun z=>absurd z (no a),n0,w⟩
 ·rename_i ρ' e1
  cases e
  exact ⟨H0,_,_,st,e1,fun σ' H0' H' t=>k _ H0' H' (gr t.stp t.st.same) .non⟩
 ·cases e
end
open PySem PySem.Spec PyProof.Rows L2
noncomputable def bw (X:Cx) (nm:List Str) (scope:Scope) (own:List Str) (cl:List (Str×Addr)) (C:Addr) (s:Shared) (H:Hp) (fp:List Addr):Cx where
 prog:=X.prog
 w:=X.w
 K:=X.K
 mg:=X.mg
 base:=X.base
 A:=X.A
 N:=nm++own
 s₀:=s
 H₀:=H
 env:=compEnvC scope cl C X.env
 outer:=X.stack
 stack:=X.stack
 ex:=fp
 fn:=fun _=>false
 calm:=X.calm
 pn:=[]
 xe:=fun _ _=>False
noncomputable def PTs (X:Cx) (ifs:List Expr) (t:TT):Prop:=
 ∀ (pins:List (Addr×Obj)) (s:Shared) (σ:L2.St) (H:Hp) (Q:Bool→Hp→Prop),Inv X pins σ H s→t σ H Q →
  wpAny (model X.prog X.w) X.A (forIn ifs true fun c r=>if r=true then do let ok ← isTrue c X.env (eval c X.env);pure (ForInStep.yield ok) else pure (ForInStep.yield r)) (TP X pins σ Q) X.xe s
noncomputable def Ef:TT:=fun _ H Q=>Q true H
theorem yo {X:Cx}:PTs X [] Ef:=fun pins s σ H Q I h=>wpAny_tests_nil ⟨H,I,h⟩
theorem Eg {X:Cx} {c:Expr} {t:TT} (h:PT X c t):PTs X [c] t:=fun pins s σ H Q I hq=>wpAny_tests_one (h pins s σ H Q I hq)
theorem gw (env:Env):∀ (names:List (Str×NameKind)) (cs:List (Str×Addr)),(∀ y∈names,y.2=.free→∃ c,env.cells.lookup y.1=some c) →
  ∃ cl,(forIn names cs fun (x:Str×NameKind) (r:List (Str×Addr))=>(if (x.2 == NameKind.free)=true then do let c ← cellOf env x.1;pure (ForInStep.yield ((x.1,c)::r)) else pure (ForInStep.yield r):Sem (ForInStep (List (Str×Addr)))))=pure cl ∧
   (∀ x c,cl.lookup x=some c→env.cells.lookup x=some c∨cs.lookup x=some c)∧(∀ y∈names,y.2=.free→∃ c,cl.lookup y.1=some c)∧(∀ x c,cs.lookup x=some c→∃ c',cl.lookup x=some c')
 | [],cs,_=>⟨cs,rfl,fun _ _ h=>.inr h,fun _ h=>(nomatch h),fun _ c h=>⟨c,h⟩⟩
 | (n,k)::r,cs,h=>by
  have hr:∀ y∈r,y.2=.free→∃ c,env.cells.lookup y.1=some c:=fun y hy=>h y (List.mem_cons_of_mem _ hy)
  by_cases hk:k=.free
  ·subst hk
   obtain ⟨c,hc⟩:=h (n,.free) List.mem_cons_self rfl
   obtain ⟨cl,e,h1,h2,h3⟩:=gw env r ((n,c)::cs) hr
   refine ⟨cl,?_,fun x c' q=>?_,fun y hy hf=>?_,fun x c' q=>?_⟩
   ·rw [List.forIn_cons]
    have e1:cellOf env n=pure c:=by unfold cellOf;rw [hc]
    simp only [beq_self_eq_true,if_true,e1,pure_bind]
    exact e
   ·rcases h1 x c' q with z | z
    ·exact .inl z
    ·rw [List.lookup_cons] at z
     cases hx:x == n with
     | true=>
      rw [hx] at z
      have:x=n:=by simpa using hx
      subst this
      injection z with z
      subst z
      exact .inl hc
     | false=>rw [hx] at z;exact .inr z
   ·rcases List.mem_cons.mp hy with rfl | hy
    ·exact h3 n c (by rw [List.lookup_cons,beq_self_eq_true])
    ·exact h2 y hy hf
   ·by_cases hx:x=n
    ·subst hx
     exact h3 x c (by rw [List.lookup_cons,beq_self_eq_true])
    ·have hx':(x == n)=false:=by simpa using hx
     exact h3 x c' (by rw [List.lookup_cons,hx'];exact q)
  ·have hb:(k == NameKind.free)=false:=by simpa using hk
   obtain ⟨cl,e,h1,h2,h3⟩:=gw env r cs hr
   refine ⟨cl,?_,h1,fun y hy hf=>?_,h3⟩
   ·rw [List.forIn_cons]
    simp only [hb,Bool.false_eq_true,if_false,pure_bind]
    exact e
   ·rcases List.mem_cons.mp hy with rfl | hy
    ·exact absurd hf hk
    ·exact h2 y hy hf
theorem o6 {env:Env} {scope:Scope} (h:∀ y∈scope.names,y.2=.free→∃ c,env.cells.lookup y.1=some c) :
  ∃ cl,closureFor scope env=pure cl∧(∀ x c,cl.lookup x=some c→env.cells.lookup x=some c)∧∀ y∈scope.names,y.2=.free→∃ c,cl.lookup y.1=some c:=by
 obtain ⟨cl,e,h1,h2,_⟩:=gw env scope.names [] h
 refine ⟨cl,?_,fun x c q=>(h1 x c q).elim id fun z=>by simp at z,h2⟩
 unfold closureFor
 have e':(forIn scope.names ([]:List (Str×Addr)) fun (x:Str×NameKind) (r:List (Str×Addr))=>(if (x.2 == NameKind.free)=true then do let c ← cellOf env x.1;pure (ForInStep.yield ((x.1,c)::r)) else pure (ForInStep.yield r):Sem (ForInStep (List (Str×Addr)))))=pure cl:=e
 first
  | (rw [show (forIn scope.names ([]:List (Str×Addr)) _:Sem (List (Str×Addr)))=pure cl from e'];rfl)
  | (simp only [e'];rfl)
theorem s_ {prog:Program} {w:World} {A:Around} {R:Result→Shared→Prop} {s:Shared} {elt target iter:Expr} {ifs:List Expr} {scope:Scope} {pos:Pos} {it acc:Value} {env:Env} (I:Nat→Shared→Prop)
  (turn:∀ n s,I n s→wpAny (model prog w) A (pyNext it) (fun r s₁=>match r with
   | none=>R (.ok .next) s₁
   | some v=>wpAny (model prog w) A (letOwnedTupleGo target it v) (fun _ s₁'=>wpAny (model prog w) A (assign target env v) (fun _ s₂=>
     wpAny (model prog w) A (forIn ifs true fun c r=>if r=true then do let ok ← isTrue c env (eval c env);pure (ForInStep.yield ok) else pure (ForInStep.yield r)) (fun ok s₃=>
      if ok=true then wpAny (model prog w) A (eval elt env) (fun x s₄=>
       wpAny (model prog w) A (call (.builtin "list.append") [acc,x]) (fun _ s₅=>∃ m,m<n∧I m s₅) (fun _ _=>False) s₄) (fun _ _=>False) s₃
      else ∃ m,m<n∧I m s₃) (fun _ _=>False) s₂) (fun _ _=>False) s₁') (fun _ _=>False) s₁) (fun _ _=>False) s)
  (n:Nat) (h:I n s) :
  codeAny (model prog w) A (.compLoop (.ListComp elt [⟨target,iter,ifs,0⟩] scope pos) 0 it acc env) R s:=by
 have no:∀ {P:Value→Shared→Prop} (x:Value) (s':Shared),False→P x s':=fun _ _ f=>f.elim
 refine codeAny_loop rfl I (fun n s hI=>?_) n h
 show wpAny _ A ((compTurn (.ListComp elt [⟨target,iter,ifs,0⟩] scope pos) 0 it acc env).onRaise (fun x=>do noteFrame x env;theTreesLotGoes x)) _ _ s
 refine wpAny_noted ?_
 rw [compTurn_list]
 refine wpAny_bind (wpAny_standAt (wpAny_bind (wpAny_mono (turn n s hI) (fun r s₁ h₁=>?_) no)))
 cases r with
 | none=>exact wpAny_pure h₁
 | some v=>
  refine wpAny_bind (wpAny_mono h₁ (fun _ s₁' h₁'=>?_) no)
  refine wpAny_bind (wpAny_mono h₁' (fun _ s₂ h₂=>wpAny_bind (wpAny_mono h₂ (fun ok s₃ h₃=>?_) no)) no)
  cases ok with
  | false=>exact wpAny_pure ⟨rfl,h₃⟩
  | true=>
   exact wpAny_bind (wpAny_bind (wpAny_mono h₃ (fun x s₄ h₄=>wpAny_bind (wpAny_mono h₄ (fun _ s₅ h₅=>wpAny_pure (wpAny_pure ⟨rfl,h₅⟩)) no)) no))
theorem fm (env:Env):∀ (names:List (Str×NameKind)) (x:Str) (k:NameKind),
  (names.map fun (n,k)=>if (k == NameKind.free&&env.scope.kind == .function&&env.kindOf n == some .cell) then (n,NameKind.cell) else (n,k)).lookup x=some k →
  ∃ k0,names.lookup x=some k0∧(k=k0∨(k0=.free∧k=.cell))
 | [],x,k,h=>by simp at h
 | (n,k1)::r,x,k,h=>by
  have h:List.lookup x ((if (k1 == NameKind.free&&env.scope.kind == .function&&env.kindOf n == some .cell)=true then (n,NameKind.cell) else (n,k1))::r.map fun (n,k)=>if (k == NameKind.free&&env.scope.kind == .function&&env.kindOf n == some .cell) then (n,NameKind.cell) else (n,k))=some k:=h
  cases hx:x == n with
  | true=>
   by_cases hc:(k1 == NameKind.free&&env.scope.kind == .function&&env.kindOf n == some .cell)=true
   ·rw [if_pos hc,List.lookup_cons,hx] at h
    injection h with h
    have hk:k1=.free:=by
     simp only [Bool.and_eq_true,beq_iff_eq] at hc
     exact hc.1.1
    exact ⟨k1,by rw [List.lookup_cons,hx],.inr ⟨hk,h.symm⟩⟩
   ·rw [if_neg hc,List.lookup_cons,hx] at h
    injection h with h
    exact ⟨k1,by rw [List.lookup_cons,hx],.inl h.symm⟩
  | false=>
   by_cases hc:(k1 == NameKind.free&&env.scope.kind == .function&&env.kindOf n == some .cell)=true
   ·rw [if_pos hc,List.lookup_cons,hx] at h
    obtain ⟨k0,e,z⟩:=fm env r x k h
    exact ⟨k0,by rw [List.lookup_cons,hx];exact e,z⟩
   ·rw [if_neg hc,List.lookup_cons,hx] at h
    obtain ⟨k0,e,z⟩:=fm env r x k h
    exact ⟨k0,by rw [List.lookup_cons,hx];exact e,z⟩
structure fJ (X:Cx) (nm:List Str) (scope:Scope):Prop where
 kind:scope.kind=.function
 cell:∀ y∈scope.names,y.2≠.cell
 names:∀ y∈scope.names,y.2=.local→scope.names.lookup y.1=some .local
 free:∀ y∈scope.names,y.2=.free→X.env.kindOf y.1=some .cell∨X.env.kindOf y.1=some .free
 apart:∀ x∈nm,scope.names.lookup x≠some .local
 len:nm.length=X.N.length
 mask:∀ (i:Nat) (x:Str),nm[i]?=some x→X.N[i]?=some x∨scope.names.lookup x=none
section
variable {X:Cx} {nm:List Str} {elt tg iter:Expr} {ifs:List Expr} {scope:Scope} {pos:Pos} {own:List Str} {wi:TI} {g:TG} {tt:TT} {te:TE}
theorem rD {pins:List (Addr×Obj)} {s2:Shared} {σ:L2.St} {H2:Hp} {cl:List (Str×Addr)} {it:Addr} {fp:List Addr} {tn:Nat→Heap→Prop} {J:It} {Q:VK} {E:Value→Shared→Prop} {RR:Value→Addr→Result→Shared→Prop}
  (hc:X.calm=true) (S:fJ X nm scope) (o7:∀ x c,cl.lookup x=some c→X.env.cells.lookup x=some c) (zN:∀ y∈scope.names,y.2=.free→∃ c,cl.lookup y.1=some c)
  (hg:∀ cl C s H fp,PG (bw X nm scope own cl C s H fp) tg g) (ht:∀ cl C s H fp,PTs (bw X nm scope own cl C s H fp) ifs tt) (he:∀ cl C s H fp,PE (bw X nm scope own cl C s H fp) elt te)
  (I2:Inv X pins σ H2 s2) (T:Turn X.prog X.w X.K tg J fp it tn) (st2:tn 0 s2.heap) (f2:∀ b∈fp,sG X pins H2 b)
  (hR:∀ D,H2 D=none→∃ W:Nat→Nat→L2.St→Hp→Prop,
   (∃ m,W 0 m (σ++List.replicate own.length none) (upd H2 D (.lst [])))∧∀ i m σ' H',W i m σ' H' →
    (J.stop i H'∧Q (.ref D) H')∨(J.go i H'∧∀ x H2,J.yld i H' x H2→g x σ' H2 fun σ2 H3=>tt σ2 H3 fun b H4=>if b=true
     then te σ2 H4 fun y H5=>∃ acc,H5 D=some (.lst acc)∧acc.length<sizeLine∧∃ m',m'<m∧W (i+1) m' σ2 (upd H5 D (.lst (acc++[y])))
     else ∃ m',m'<m∧W (i+1) m' σ2 H4))
  (MU:∀ D C H6 s6,Inv X pins σ H6 s6→H6 C=none→C≠X.env.locals→X.s₀.heap.objs.size≤C→(∀ x c,X.env.cells.lookup x=some c→c≠C)→(∀ p∈X.pn++pins,p.1≠C)→(∃ m,s6.heap.Ns C m)→Q (.ref D) H6→RR (.ref D) C (.ok .next) s6) :
  wpAny (model X.prog X.w) X.A (newList []) (fun acc s₃=>wpAny (model X.prog X.w) X.A (newFunctionEnv scope X.env.globals cl [] X.env.qual none .none (some X.env)) (fun cenv s₄=>
   codeAny (model X.prog X.w) X.A (.compStart (.ListComp elt [⟨tg,iter,ifs,0⟩] scope pos) 0 (.ref it) acc { cenv with scope:=relabel scope X.env }) (RR acc cenv.locals) s₄) E s₃) E s2:=by
 have no:∀ {P:Value→Shared→Prop} (x:Value) (s':Shared),False→P x s':=fun _ _ f=>f.elim
 refine wpAny_newObj_type (wpAny_newFunctionEnv S.cell (by intro y hy;simp at hy) (fun h₁ hns₁ hsb₁=>?_) S.kind)
 dsimp only at hns₁ hsb₁ ⊢
 have I3:Inv X pins σ (upd H2 s2.heap.objs.size (.lst [])) { s2 with heap:=s2.heap.push { cls:=.type "list",dict:=none,data:=.seq ([]:List Value).toArray } }:=I2.Ip (t':=s2.toks) (ys:=[]) (its:=[]) .nil (Nat.zero_le _)
 generalize hG2:s2.heap.push { cls:=.type "list",dict:=none,data:=.seq ([]:List Value).toArray }=G2 at hns₁ hsb₁ I3 ⊢
 have hC:G2.objs.size=s2.heap.objs.size+1:=by rw [← hG2,Heap.size_push]
 have up2:∀ b o,s2.heap.get? b=some o→G2.get? b=some o:=fun b o e=>hG2▸Heap.get?_push_of_some _ e
 have up3:∀ b o,G2.get? b=some o→h₁.get? b=some o:=fun b o e=>hsb₁.extBut b o (Nat.ne_of_lt (Heap.lt_size e)) (Heap.get?_push_of_some _ e)
 have MV:G2.get? G2.objs.size=none:=Heap.get?_none_of_le (Nat.le_refl _)
 have fpo:∀ b∈fp,∃ o,s2.heap.get? b=some o:=fun b hb=>by
  obtain ⟨o,e,_⟩:=T.obj 0 _ st2 b hb
  exact ⟨o,e⟩
 have fpC:∀ b∈fp,b≠G2.objs.size:=fun b hb=>by
  obtain ⟨o,e⟩:=fpo b hb
  exact Nat.ne_of_lt (Heap.lt_size (up2 b o e))
 have H3C:(upd H2 s2.heap.objs.size (.lst [])) G2.objs.size=none:=I3.hok.fresh (Nat.le_refl _)
 have fpD:∀ b∈fp,b≠s2.heap.objs.size:=fun b hb=>by
  obtain ⟨o,e⟩:=fpo b hb
  exact Nat.ne_of_lt (Heap.lt_size e)
 have K_:∀ b∈fp,b∉frs X.stack:=fun b hb z=>by
  rcases List.mem_cons.mp (I3.oO b z) with y | y
  ·exact (f2 b hb).2.1 y
  ·exact (f2 b hb).2.2.1 y
 have ok':(bw X nm scope own cl G2.objs.size { s2 with heap:=G2 } (upd H2 s2.heap.objs.size (.lst [])) fp).Ok:=by
  refine ⟨I3.ok.mod,S.kind,I3.ok.glob,I3.ok.blt,Nat.le_refl _,fun x y c e1 e2=>I3.ok.inj x y c (o7 x c e1) (o7 y c e2),fun x hx=>?_,fun x c z=>(nomatch z),I3.ok.hd,I3.ok.frames,.inl rfl,
   fun b hb=>⟨fpC b hb,fun x c e=>(f2 b hb).2.2.2.2.1 x c (o7 x c e)⟩,fun b o e=>I3.bs b o e,Nat.le_trans I3.ok.bsz I3.sz,fun b o e hb=>?_,fun b hb=>K_ b hb,I3.stack,I3.sD⟩
  ·have hx:(relabel scope X.env).names.lookup x=some .cell∨(relabel scope X.env).names.lookup x=some .free:=hx
   have key:∀ k,(relabel scope X.env).names.lookup x=some k→k≠.local→k=.cell∨k=.free→∃ c,cl.lookup x=some c:=fun k hk _ hkk=>by
    obtain ⟨k0,e0,z⟩:=fm X.env scope.names x k hk
    have m0:=PySem.mem_of_lookup e0
    have f0:k0=.free:=by
     rcases z with z | z
     ·subst z
      rcases hkk with q | q
      ·exact absurd q (S.cell _ m0)
      ·exact q
     ·exact z.1
    exact zN (x,k0) m0 f0
   rcases hx with hx | hx
   ·exact key _ hx (by decide) (.inl rfl)
   ·exact key _ hx (by decide) (.inr rfl)
  ·rcases (f2 b hb).2.2.2.1 with z | z
   ·exact I3.ok.Au b o e z
   ·exact absurd (Nat.lt_of_lt_of_le (Heap.lt_size e) (Nat.le_trans I3.ok.bsz z)) (Nat.lt_irrefl _)
 have stat:∀ {H':Hp},(∀ b∈fp,H' b=none)→∀ b∈fp,sG (bw X nm scope own cl G2.objs.size { s2 with heap:=G2 } (upd H2 s2.heap.objs.size (.lst [])) fp) [] H' b:=fun hn b hb=>
  ⟨hn b hb,fpC b hb,K_ b hb,.inl hb,fun x c e=>(f2 b hb).2.2.2.2.1 x c (o7 x c e),fun p hp=>(nomatch (show p∈([]:List (Addr×Obj)) from hp))⟩
 have I4:Inv (bw X nm scope own cl G2.objs.size { s2 with heap:=G2 } (upd H2 s2.heap.objs.size (.lst [])) fp) [] (σ++List.replicate own.length none) (upd H2 s2.heap.objs.size (.lst [])) { s2 with heap:=h₁,toks:=s2.toks+([]:List (Str×Value)).length }:=by
  refine ⟨ok',rfl,I3.bare,Un.kept up3,⟨_,hns₁,fun i x v e1 e2 e3=>?_⟩,fun x c e=>?_,H3C,fun x c e=>I3.fu x c (o7 x c e),fun p hp=>(nomatch (show p∈([]:List (Addr×Obj)) from hp)),I3.hok.kept up3,?_⟩
  ·have e1:(nm++own)[i]?=some x:=e1
   have hi:i<σ.length:=by
    by_cases hi:i<σ.length
    ·exact hi
    ·rw [List.getElem?_append_right (Nat.not_lt.mp hi),List.getElem?_replicate] at e2
     split at e2<;>cases e2
   rw [List.getElem?_append_left hi] at e2
   rw [List.getElem?_append_left (by rw [S.len,← I3.len];exact hi)] at e1
   have key:∀ k,(relabel scope X.env).names.lookup x=some k→k=.local∨k=.cell∨k=.free→scope.names.lookup x=some .free∧(k=.cell∨k=.free):=fun k hk hkk=>by
    obtain ⟨k0,e0,z⟩:=fm X.env scope.names x k hk
    have m0:=PySem.mem_of_lookup e0
    have n1:k0≠.local:=fun y=>S.apart x (List.mem_of_getElem? e1) (y▸e0)
    have n2:k0≠.cell:=S.cell _ m0
    rcases z with z | z
    ·subst z
     rcases hkk with q | q | q
     ·exact absurd q n1
     ·exact absurd q n2
     ·subst q;exact ⟨e0,.inr rfl⟩
    ·obtain ⟨z1,z2⟩:=z
     subst z1;subst z2
     exact ⟨e0,.inl rfl⟩
   have hk:∃ k,(relabel scope X.env).names.lookup x=some k∧(k=.cell∨k=.free)∧scope.names.lookup x=some .free:=by
    rcases (show (relabel scope X.env).names.lookup x=some .local∨(relabel scope X.env).names.lookup x=some .cell∨(relabel scope X.env).names.lookup x=some .free from e3) with q | q | q
    ·obtain ⟨a,b⟩:=key _ q (.inl rfl);exact ⟨_,q,b,a⟩
    ·obtain ⟨a,b⟩:=key _ q (.inr (.inl rfl));exact ⟨_,q,b,a⟩
    ·obtain ⟨a,b⟩:=key _ q (.inr (.inr rfl));exact ⟨_,q,b,a⟩
   obtain ⟨k,hk1,hk2,hk3⟩:=hk
   have m0:=PySem.mem_of_lookup hk3
   obtain ⟨c,hcc⟩:=zN (x,.free) m0 rfl
   obtain ⟨m,hn,hl⟩:=I3.loc
   have hout:=S.free (x,.free) m0 rfl
   have MW:Vis X.env.scope x:=by
    rcases hout with q | q
    ·exact .inr (.inl q)
    ·exact .inr (.inr q)
   have e1':X.N[i]?=some x:=by
    rcases S.mask i x e1 with z | z
    ·exact z
    ·rw [z] at hk3;cases hk3
   obtain ⟨u,ru,lk⟩:=hl i x v e1' e2 MW
   refine ⟨u,ru,.inr ⟨?_,c,hcc,?_⟩⟩
   ·rcases hk2 with q | q
    ·subst q;exact .inl hk1
    ·subst q;exact .inr hk1
   ·rcases lk with ⟨q,_⟩ | ⟨_,c',e',z⟩
    ·rcases hout with y | y
     ·rw [q] at y;cases y
     ·rw [q] at y;cases y
    ·rw [o7 x c hcc] at e'
     cases e'
     obtain ⟨o,ho,hd⟩:=z
     exact ⟨o,up3 c o ho,hd⟩
  ·obtain ⟨v,o,ho,hd⟩:=I3.cell x c (o7 x c e)
   exact ⟨v,o,up3 c o ho,hd⟩
  ·show (σ++List.replicate own.length none).length=(nm++own).length
   rw [List.length_append,List.length_append,List.length_replicate,I3.len,S.len]
 obtain ⟨W,⟨m0,w0⟩,turn⟩:=hR s2.heap.objs.size I2.fresh
 have st4:tn 0 h₁:=T.keep 0 _ _ st2 fun b hb o e=>up3 b o (up2 b o e)
 have MX:∀ b∈fp,(upd H2 s2.heap.objs.size (.lst [])) b=none:=fun b hb=>by rw [ay (fpD b hb)];exact (f2 b hb).1
 have loop:∀ s₃:Shared,s₃={ s2 with heap:=h₁,toks:=s2.toks+([]:List (Str×Value)).length } →
   codeAny (model X.prog X.w) X.A (.compLoop (.ListComp elt [⟨tg,iter,ifs,0⟩] scope pos) 0 (.ref it) (.ref s2.heap.objs.size) (compEnvC scope cl G2.objs.size X.env))
    (RR (.ref s2.heap.objs.size) G2.objs.size) s₃:=by
  rintro s₃ rfl
  refine s_ (fun n s'=>∃ i σ' H',Inv (bw X nm scope own cl G2.objs.size { s2 with heap:=G2 } (upd H2 s2.heap.objs.size (.lst [])) fp) [] σ' H' s'∧tn i s'.heap∧(∀ b∈fp,H' b=none)∧W i n σ' H') ?_ m0
   ⟨0,_,_,I4,st4,MX,w0⟩
  rintro n s5 ⟨i,σ5,H5,I5,st5,fr5,w5⟩
  rcases turn i n σ5 H5 w5 with ⟨stop,q⟩ | ⟨go,step⟩
  ·refine wpAny_mono (T.done (bw X nm scope own cl G2.objs.size { s2 with heap:=G2 } (upd H2 s2.heap.objs.size (.lst [])) fp) rfl rfl rfl hc i [] s5 σ5 H5 (fun _ _=>False) I5 (stat fr5) st5 stop) (fun r s6 hr6=>?_) no
   obtain ⟨hr,I6⟩:=hr6
   subst hr
   have I7:Inv X pins σ H5 s6:=I3.Kp (ch:=fp) I6.os I6.base I6.hok I6.bare fun b hb=>⟨(f2 b hb).2.2.2.1,(f2 b hb).2.1,(f2 b hb).2.2.2.2.1,(f2 b hb).2.2.2.2.2⟩
   refine MU _ _ H5 s6 I7 I6.free (Nat.ne_of_gt (show X.env.locals<G2.objs.size from I3.lt)) I3.sz (fun x c e=>?_) (fun p hp=>?_) (let ⟨m,hn,_⟩:=I6.loc;⟨m,hn⟩) q
   ·obtain ⟨v,z⟩:=I3.cell x c e
    exact Nat.ne_of_lt z.lt
   ·exact Nat.ne_of_lt (Heap.lt_size (I3.pin p hp).1)
  ·refine wpAny_mono (T.item (bw X nm scope own cl G2.objs.size { s2 with heap:=G2 } (upd H2 s2.heap.objs.size (.lst [])) fp) rfl rfl rfl hc i [] s5 σ5 H5 (fun _ _=>False) I5 (stat fr5) st5 go) (fun r s6 hr6=>?_) no
   obtain ⟨u,hr,h6⟩:=hr6
   subst hr
   refine wpAny_mono h6 (fun _ s7 h7=>?_) no
   obtain ⟨x,H7,I7,r7,y7,st7,fr7⟩:=h7
   have I7':=I7.pinned (stat fr7) (T.obj _ _ st7)
   have again:∀ {s9:Shared} {σ9:L2.St} {H9:Hp} {m':Nat},m'<n→Inv (bw X nm scope own cl G2.objs.size { s2 with heap:=G2 } (upd H2 s2.heap.objs.size (.lst [])) fp) ([]++oR fp s7.heap) σ9 H9 s9→W (i+1) m' σ9 H9 →
     ∃ m,m<n∧∃ i σ' H',Inv (bw X nm scope own cl G2.objs.size { s2 with heap:=G2 } (upd H2 s2.heap.objs.size (.lst [])) fp) [] σ' H' s9∧tn i s9.heap∧(∀ b∈fp,H' b=none)∧W i m σ' H':=fun {s9 σ9 H9 m'} hm I9 w9=>by
    refine ⟨m',hm,i+1,σ9,H9,I9.k8,T.keep _ _ _ st7 fun b hb o e=>(I9.pin (b,o) (List.mem_append_right _ (List.mem_append_right _ (gY hb e)))).1,fun b hb=>?_,w9⟩
    obtain ⟨o,e,d⟩:=T.obj _ _ st7 b hb
    exact (I9.pin (b,o) (List.mem_append_right _ (List.mem_append_right _ (gY hb e)))).2.1
   refine wpAny_mono (hg cl G2.objs.size _ _ fp _ s7 σ5 H7 x u _ I7' r7 (step x H7 y7)) (fun _ s8 h8=>?_) no
   obtain ⟨σ8,H8,I8,q8⟩:=h8
   refine wpAny_mono (ht cl G2.objs.size _ _ fp _ s8 σ8 H8 _ I8 q8) (fun b s9 h9=>?_) no
   obtain ⟨H9,I9,q9⟩:=h9
   cases b with
   | false=>
    rw [if_neg Bool.false_ne_true] at q9 ⊢
    obtain ⟨m',hm,w9⟩:=q9
    exact again hm I9 w9
   | true=>
    rw [if_pos rfl] at q9 ⊢
    refine wpAny_mono (he cl G2.objs.size _ _ fp _ s9 σ8 H9 _ I9 q9) (fun y s10 h10=>?_) no
    obtain ⟨yv,H10,I10,r10,acc,hacc,hlen,m',hm,w10⟩:=h10
    refine wpAny_mono (mJ (X:=bw X nm scope own cl G2.objs.size { s2 with heap:=G2 } (upd H2 s2.heap.objs.size (.lst [])) fp) _ s10 σ8 H10 (.ref s2.heap.objs.size) [yv] (.ref s2.heap.objs.size) [y] (fun _ H'=>H'=upd H10 s2.heap.objs.size (.lst (acc++[yv]))) I10 rfl (.cons r10 .nil) ⟨_,acc,yv,rfl,rfl,hacc,hlen,rfl⟩) (fun _ s11 h11=>?_) no
    obtain ⟨_,H11,I11,_,e11⟩:=h11
    subst e11
    exact again hm I11 w10
 exact codeAny_compStart_list (loop _ rfl) (T.self _ 0 _ _ _ st4 (loop _ rfl))
theorem yp (hc:X.calm=true) (S:fJ X nm scope) (hi:PI X tg iter wi)
  (hg:∀ cl C s H fp,PG (bw X nm scope own cl C s H fp) tg g) (ht:∀ cl C s H fp,PTs (bw X nm scope own cl C s H fp) ifs tt) (he:∀ cl C s H fp,PE (bw X nm scope own cl C s H fp) elt te)
  (hs:∀ x,foldedSetIterable iter X.env x=pure x:=by intro _;rfl):PE X (.ListComp elt [⟨tg,iter,ifs,0⟩] scope pos) (tLC wi own.length g tt te):=by
 intro pins s σ H Q I h
 obtain ⟨cl,hclos,o7,zN⟩:=o6 (env:=X.env) (scope:=scope) fun y hy hf=>I.ok.has y.1 (S.free y hy hf)
 rw [eval_ListComp]
 refine wpAny_comprehension_free (use:=none) rfl hs hclos S.kind S.names (thn (hi pins s σ H _ I h) fun v s1 h1=>thn h1 fun itv s2 h2=>?_)
 obtain ⟨it,fp,tn,J,H2,e,I2,T,st2,f2,hR⟩:=h2
 subst e
 refine rD (Q:=Q) (RR:=fun acc C=>compPost (model X.prog X.w) X.A X.xe none (EP X pins σ Q) acc C) hc S o7 zN hg ht he I2 T st2 f2 hR ?_
 intro D C H6 s6 I6 hCn hCL hCs hCc hCp hns q
 obtain ⟨m,hn⟩:=hns
 refine ⟨m,hn,fun h' hs'=>⟨.ref D,H6,I6.turned (t':=s6.toks) (fun b o hb e=>(hs'.2 b hb).trans e) hCn hCL (.inr hCs) hCc hCp,rfl,q⟩⟩
theorem iZ {i:Nat} {y:Str} {py spos:Pos} (hN:X.N.Nodup) (hi':X.N[i]?=some y) (hy:Loc X.env.scope y) (hc:X.calm=true) (S:fJ X nm scope) (hi:PI X tg iter wi)
  (hg:∀ cl C s H fp,PG (bw X nm scope own cl C s H fp) tg g) (ht:∀ cl C s H fp,PTs (bw X nm scope own cl C s H fp) ifs tt) (he:∀ cl C s H fp,PE (bw X nm scope own cl C s H fp) elt te)
  (hsw:swapsWith (.ListComp elt [⟨tg,iter,ifs,0⟩] scope pos) (some (.Name y py)) spos.line X.env=pure true:=by rfl)
  (hs:∀ x,foldedSetIterable iter X.env x=pure x:=by intro _;rfl) (hf:X.fn y=true∨X.env.scope.names.lookup y=some .local:=by first | exact .inl rfl | exact .inr rfl | assumption) :
  PS X (.Assign [.Name y py] (.ListComp elt [⟨tg,iter,ifs,0⟩] scope pos) spos) (wm (tLC wi own.length g tt te) (k7 i)):=by
 intro pins s σ H Dn I h
 obtain ⟨cl,hclos,o7,zN⟩:=o6 (env:=X.env) (scope:=scope) fun y hy hf=>I.ok.has y.1 (S.free y hy hf)
 rw [exec_Assign_Name_used _ _ _ _ hsw]
 refine wpAny_bind (wpAny_standAt (wpAny_bind ?_))
 show wpAny _ X.A (do let _ ← comprehension (.ListComp elt [⟨tg,iter,ifs,0⟩] scope pos) scope X.env _ (newList []) false (eval iter X.env) (some (assign (.Name y py) X.env))) _ _ s
 refine wpAny_bind (wpAny_mono (wpAny_comprehension_free (use:=some (assign (.Name y py) X.env)) (Q:=fun _ s'=>SP X pins Dn .next s') rfl hs hclos S.kind S.names
  (thn (hi pins s σ H _ I h) fun v s1 h1=>thn h1 fun itv s2 h2=>?_)) (fun _ s' hq=>wpAny_pure (wpAny_pure hq)) fun _ _ e=>e)
 obtain ⟨it,fp,tn,J,H2,e,I2,T,st2,f2,hR⟩:=h2
 subst e
 refine rD (Q:=fun x H1=>k7 i x σ H1 Dn.nx) (RR:=fun acc C=>compPost (model X.prog X.w) X.A X.xe (some (assign (.Name y py) X.env)) (fun _ s'=>SP X pins Dn .next s') acc C) hc S o7 zN hg ht he I2 T st2 f2 hR ?_
 intro D C H6 s6 I6 hCn hCL hCs hCc hCp hns q
 obtain ⟨m,hn⟩:=hns
 show wpAny _ X.A (assign (.Name y py) X.env (.ref D)) _ _ _
 refine wpAny_assign_Name (mG I6 hN hi' hy (v:=.ref D) rfl (fun s7 I7 h7=>?_) hf)
 obtain ⟨a,sb,ha⟩:=h7
 have hCa:C≠a:=by
  rcases ha with ha | ha
  ·rw [ha];exact hCL
  ·exact Ne.symm (hCc y a ha)
 refine ⟨m,hn.sameBut sb hCa,fun h' hs'=>⟨_,H6,I7.turned (t':=s7.toks) (fun b o hb e=>(hs'.2 b hb).trans e) hCn hCL (.inr hCs) hCc hCp,q⟩⟩
end
mutual
noncomputable def toPy:Dm.Dat→PyData
 | .non=>.none
 | .bl b=>.bool b
 | .int i=>.int i
 | .str s=>.str ⟨s.toArray⟩
 | .tup xs=>.tuple (di xs)
 | .lst xs=>.list (di xs)
 | .dct _ _=>.dict []
 | .exc _=>.dict []
 | .fn _=>.dict []
noncomputable def di:List Dm.Dat→List PyData
 | []=>[]
 | x::xs=>toPy x::di xs
end
mutual
theorem lH:∀ a b:Dm.Dat,PyData.eqv (toPy a) (toPy b)=Dm.eqD a b
 | .non,b=>by cases b<;>simp [toPy,PyData.eqv,Dm.eqD]
 | .bl x,b=>by cases b<;>simp [toPy,PyData.eqv,Dm.eqD,Dm.b2i]
 | .int x,b=>by cases b<;>simp [toPy,PyData.eqv,Dm.eqD,Dm.b2i]
 | .str x,b=>by
  cases b with
  | str y=>
   simp only [toPy,PyData.eqv,Dm.eqD]
   rw [Bool.eq_iff_iff]
   simp only [beq_iff_eq]
   constructor
   ·intro h
    have h:=congrArg (fun s:Str=>s.cps.toList) h
    simpa using h
   ·rintro rfl
    rfl
  | _=>simp [toPy,PyData.eqv,Dm.eqD]
 | .tup xs,b=>by
  cases b with
  | tup ys=>simp only [toPy,PyData.eqv,Dm.eqD];exact mW xs ys
  | _=>simp [toPy,PyData.eqv,Dm.eqD]
 | .lst xs,b=>by
  cases b with
  | lst ys=>simp only [toPy,PyData.eqv,Dm.eqD];exact mW xs ys
  | _=>simp [toPy,PyData.eqv,Dm.eqD]
 | .dct ks vs,b=>by cases b<;>simp [toPy,PyData.eqv,Dm.eqD]
 | .exc C,b=>by cases b<;>simp [toPy,PyData.eqv,Dm.eqD]
 | .fn C,b=>by cases b<;>simp [toPy,PyData.eqv,Dm.eqD]
theorem mW:∀ a b:List Dm.Dat,PyData.eqvAll (di a) (di b)=Dm.mR a b
 | [],b=>by cases b<;>simp [di,PyData.eqvAll,Dm.mR]
 | x::xs,b=>by
  cases b with
  | nil=>simp [di,PyData.eqvAll,Dm.mR]
  | cons y ys=>simp only [di,PyData.eqvAll,Dm.mR];rw [lH x y,mW xs ys]
end
theorem A9 {s:List Nat} (h:(s.all fun c=>decide (c<128))=true):PyData.strOk ⟨s.toArray⟩=true:=by
 unfold PyData.strOk
 rw [Array.all_eq_true']
 intro c hc
 have h1:=List.all_eq_true.mp h c (by simpa using hc)
 have h2:c<128:=of_decide_eq_true h1
 exact decide_eq_true (by omega)
theorem dj {P:Program} {w:World} {H:Hp} {h:Heap} (ok:HOk P w H h):∀ (n:Nat),
  (∀ (v:V) (d:Dm.Dat) (u:Value),Rep H v d→RelV v u→Dm.okD n d=true→∃ as,Reads h u (toPy d) as∧(toPy d).canLay0=true∧(toPy d).depth≤n) ∧
  (∀ (vs:List V) (ds:List Dm.Dat) (us:List Value),aJ H vs ds→Vals vs us→ds.all (Dm.okD n)=true→∃ as,ReadsAll h us (di ds) as∧PyData.canLayAll0 (di ds)=true∧PyData.depthAll (di ds)≤n):=by
 intro n
 induction n with
 | zero=>
  have one:∀ (v:V) (d:Dm.Dat) (u:Value),Rep H v d→RelV v u→Dm.okD 0 d=true→∃ as,Reads h u (toPy d) as∧(toPy d).canLay0=true∧(toPy d).depth≤0:=by
   intro v d u r rv k
   cases r with
   | non=>cases rv;exact ⟨_,.none,rfl,Nat.le_refl _⟩
   | bl b=>cases rv;exact ⟨_,.bool b,rfl,Nat.le_refl _⟩
   | int i=>obtain ⟨t,rfl⟩:=rv;exact ⟨_,.int i t,rfl,Nat.le_refl _⟩
   | str s=>obtain ⟨t,rfl⟩:=rv;exact ⟨_,.str _ t,A9 k,Nat.le_refl _⟩
   | tup _ _=>cases k
   | lst _ _=>cases k
   | dct _ _ _=>cases k
   | exc _=>cases k
   | fn _=>cases k
  refine ⟨one,fun vs ds=>?_⟩
  induction ds generalizing vs with
  | nil=>intro us r rv _;cases r;cases rv;exact ⟨_,.nil,rfl,Nat.le_refl _⟩
  | cons d ds ih=>
   intro us r rv k
   cases r with
   | cons r rs=>
    cases rv with
    | cons q qs=>
     rw [List.all_cons,Bool.and_eq_true] at k
     obtain ⟨a1,h1,h2,h3⟩:=one _ _ _ r q k.1
     obtain ⟨a2,h4,h5,h6⟩:=ih _ _ rs qs k.2
     exact ⟨_,.cons h1 h4,by simp [di,PyData.canLayAll0,h2,h5],by simp only [di,PyData.depthAll];omega⟩
 | succ n ih=>
  have one:∀ (v:V) (d:Dm.Dat) (u:Value),Rep H v d→RelV v u→Dm.okD (n+1) d=true→∃ as,Reads h u (toPy d) as∧(toPy d).canLay0=true∧(toPy d).depth≤n+1:=by
   intro v d u r rv k
   cases r with
   | non=>cases rv;exact ⟨_,.none,rfl,Nat.zero_le _⟩
   | bl b=>cases rv;exact ⟨_,.bool b,rfl,Nat.zero_le _⟩
   | int i=>obtain ⟨t,rfl⟩:=rv;exact ⟨_,.int i t,rfl,Nat.zero_le _⟩
   | str s=>obtain ⟨t,rfl⟩:=rv;exact ⟨_,.str _ t,A9 k,Nat.zero_le _⟩
   | tup q rs=>
    cases rv
    obtain ⟨z,its,vr,ob,e,hc,m,hd⟩:=ok _ _ q
    obtain ⟨as,h1,h2,h3⟩:=ih.2 _ _ _ rs vr k
    exact ⟨_,.tuple e hc hd h1,h2,by simp only [toPy,PyData.depth];omega⟩
   | lst q rs=>
    cases rv
    obtain ⟨z,its,m,vr,e⟩:=q.ok ok
    obtain ⟨as,h1,h2,h3⟩:=ih.2 _ _ _ rs vr k
    exact ⟨_,.list e rfl rfl h1,h2,by simp only [toPy,PyData.depth];omega⟩
   | dct _ _ _=>cases k
   | exc _=>cases k
   | fn _=>cases k
  refine ⟨one,fun vs ds=>?_⟩
  induction ds generalizing vs with
  | nil=>intro us r rv _;cases r;cases rv;exact ⟨_,.nil,rfl,Nat.zero_le _⟩
  | cons d ds ih=>
   intro us r rv k
   cases r with
   | cons r rs=>
    cases rv with
    | cons q qs=>
     rw [List.all_cons,Bool.and_eq_true] at k
     obtain ⟨a1,h1,h2,h3⟩:=one _ _ _ r q k.1
     obtain ⟨a2,h4,h5,h6⟩:=ih _ _ rs qs k.2
     exact ⟨_,.cons h1 h4,by simp [di,PyData.canLayAll0,h2,h5],by simp only [di,PyData.depthAll];omega⟩
theorem mU.full {H0 H:Hp} (s:az H0 H) {v:V} {d:Dm.Dat} (r:mU H0 H v d):Rep H v d:=by
 rcases r with r | ⟨a,rfl,w⟩
 ·exact r.mono s
 ·cases d with
  | lst ds=>obtain ⟨xs,q,rs⟩:=w;exact .lst (.inl q) (rs.mono s)
  | dct ks ds=>obtain ⟨kvs,q,e,rs⟩:=w;exact .dct q e (rs.mono s)
  | _=>exact False.elim w
noncomputable def Eh (neg:Bool):R2:=fun x y H Q=>∃ dx dy,Rep H x dx∧Rep H y dy∧Dm.okD 8 dx=true∧Dm.okD 8 dy=true∧Q (.bl (if neg then !Dm.eqD dx dy else Dm.eqD dx dy)) H
section
variable {X:Cx}
theorem A_ {k:Nat} (hr:bL k X.A):OpR X (compareOp .Eq) (Eh false):=by
 intro pins s σ H x y v u Q I rx ry h
 obtain ⟨dx,dy,r1,r2,k1,k2,q⟩:=h
 obtain ⟨as,h1,h2,h3⟩:=(dj I.hok 8).1 x dx v r1 rx k1
 obtain ⟨bs,h4,h5,h6⟩:=(dj I.hok 8).1 y dy u r2 ry k2
 have hu:=hr.units
 refine PySem.SeqAt.compareEq_reads h1 h4 h2 h5 (by omega) ?_
 rw [lH]
 exact ⟨.bl (Dm.eqD dx dy),H,I,rfl,q⟩
theorem Ba {k:Nat} (hr:bL k X.A):OpR X (compareOp .NotEq) (Eh true):=by
 intro pins s σ H x y v u Q I rx ry h
 obtain ⟨dx,dy,r1,r2,k1,k2,q⟩:=h
 obtain ⟨as,h1,h2,h3⟩:=(dj I.hok 8).1 x dx v r1 rx k1
 obtain ⟨bs,h4,h5,h6⟩:=(dj I.hok 8).1 y dy u r2 ry k2
 have hu:=hr.units
 refine PySem.SeqAt.compareNe_reads h1 h4 h2 h5 (by omega) ?_
 rw [lH]
 exact ⟨.bl (!Dm.eqD dx dy),H,I,rfl,q⟩
noncomputable def Ei (neg:Bool):R2:=fun x y H Q=>∃ dx ds,Rep H x dx∧(Rep H y (.lst ds)∨Rep H y (.tup ds))∧Dm.okD 8 dx=true∧ds.all (Dm.okD 7)=true∧Q (.bl (if neg then !Dm.inD dx ds else Dm.inD dx ds)) H
theorem i0 (x:Dm.Dat):∀ ds:List Dm.Dat,((di ds).any fun y=>PyData.eqv y (toPy x))=Dm.inD x ds
 | []=>rfl
 | d::ds=>by
  have:=i0 x ds
  unfold Dm.inD at this ⊢
  simp only [di,List.any_cons,lH]
  rw [this]
theorem Bb {k:Nat} (hr:bL k X.A):OpR X (compareOp .In) (Ei false):=by
 intro pins s σ H x y v u Q I rx ry h
 obtain ⟨dx,ds,r1,r2,k1,k2,q⟩:=h
 obtain ⟨as,h1,h2,h3⟩:=(dj I.hok 8).1 x dx v r1 rx k1
 have hu:=hr.units
 rcases r2 with r2 | r2
 ·obtain ⟨bs,h4,h5,h6⟩:=(dj I.hok 8).1 y (.lst ds) u r2 ry k2
  have h6:PyData.depthAll (di ds)+1≤8:=h6
  refine PySem.SeqAt.in_list_reads h4 h1 h5 h2 (by omega) ?_
  rw [i0]
  exact ⟨.bl (Dm.inD dx ds),H,I,rfl,q⟩
 ·obtain ⟨bs,h4,h5,h6⟩:=(dj I.hok 8).1 y (.tup ds) u r2 ry k2
  have h6:PyData.depthAll (di ds)+1≤8:=h6
  refine PySem.SeqAt.in_tuple_reads h4 h1 h5 h2 (by omega) ?_
  rw [i0]
  exact ⟨.bl (Dm.inD dx ds),H,I,rfl,q⟩
theorem zO {k:Nat} (hr:bL k X.A):OpR X (compareOp .NotIn) (Ei true):=by
 intro pins s σ H x y v u Q I rx ry h
 obtain ⟨dx,ds,r1,r2,k1,k2,q⟩:=h
 obtain ⟨as,h1,h2,h3⟩:=(dj I.hok 8).1 x dx v r1 rx k1
 have hu:=hr.units
 rcases r2 with r2 | r2
 ·obtain ⟨bs,h4,h5,h6⟩:=(dj I.hok 8).1 y (.lst ds) u r2 ry k2
  have h6:PyData.depthAll (di ds)+1≤8:=h6
  refine PySem.SeqAt.notIn_list_reads h4 h1 h5 h2 (by omega) ?_
  rw [i0]
  exact ⟨.bl (!Dm.inD dx ds),H,I,rfl,q⟩
 ·obtain ⟨bs,h4,h5,h6⟩:=(dj I.hok 8).1 y (.tup ds) u r2 ry k2
  have h6:PyData.depthAll (di ds)+1≤8:=h6
  refine PySem.SeqAt.notIn_tuple_reads h4 h1 h5 h2 (by omega) ?_
  rw [i0]
  exact ⟨.bl (!Dm.inD dx ds),H,I,rfl,q⟩
end
theorem aH {H0 H:Hp} {v:V} {i:Int} (r:mU H0 H v (.int i)):v=.int i:=by
 rcases r with r | ⟨a,_,w⟩
 ·exact Rep.isInt r
 ·exact False.elim w
theorem Ej {H0 H:Hp} {v:V} {b:Bool} (r:mU H0 H v (.bl b)):v=.bl b:=by
 rcases r with r | ⟨a,_,w⟩
 ·exact Rep.sQ r
 ·exact False.elim w
theorem bC {H0 H:Hp} (s:az H0 H) {v:V} {ds:List Dm.Dat} (r:mU H0 H v (.lst ds)):∃ a xs,v=.ref a∧Rd H a (.lst xs)∧aJ H0 xs ds:=by
 rcases r with r | ⟨a,e,xs,q,rs⟩
 ·cases r with
  | lst q rs=>exact ⟨_,_,rfl,az.rd s q,rs⟩
 ·exact ⟨a,xs,e,.inl q,rs⟩
theorem i6 {H0 H:Hp} (s:az H0 H) {v:V} {ds:List Dm.Dat} (r:mU H0 H v (.tup ds)):∃ a xs,v=.ref a∧H a=some (.tup xs)∧aJ H0 xs ds:=by
 rcases r with r | ⟨a,_,w⟩
 ·cases r with
  | tup q rs=>exact ⟨_,_,rfl,s _ _ q,rs⟩
 ·exact False.elim w
theorem IF:OpD (rI0 fun i j=>.int (i-j)) Dm.gX:=by
 intro H0 H x y dx dy z Q s rx ry e k
 unfold Dm.gX at e
 split at e
 ·cases e;cases aH rx;cases aH ry
  exact ⟨_,_,rfl,rfl,k _ H0 H (aN.refl s) (.int _)⟩
 ·cases e
theorem Gr:OpD (rI0 fun i j=>.bl (decide (i<j))) Dm.gLt:=by
 intro H0 H x y dx dy z Q s rx ry e k
 unfold Dm.gLt at e
 split at e
 ·cases e;cases aH rx;cases aH ry
  exact ⟨_,_,rfl,rfl,k _ H0 H (aN.refl s) (.bl _)⟩
 ·cases e
theorem Gs:OpD (rI0 fun i j=>.bl (decide (i≤j))) Dm.gLe:=by
 intro H0 H x y dx dy z Q s rx ry e k
 unfold Dm.gLe at e
 split at e
 ·cases e;cases aH rx;cases aH ry
  exact ⟨_,_,rfl,rfl,k _ H0 H (aN.refl s) (.bl _)⟩
 ·cases e
theorem La:OpD (rI0 fun i j=>.bl (decide (j<i))) Dm.gGt:=by
 intro H0 H x y dx dy z Q s rx ry e k
 unfold Dm.gGt at e
 split at e
 ·cases e;cases aH rx;cases aH ry
  exact ⟨_,_,rfl,rfl,k _ H0 H (aN.refl s) (.bl _)⟩
 ·cases e
theorem Lb:OpD (rI0 fun i j=>.bl (decide (j≤i))) Dm.gGe:=by
 intro H0 H x y dx dy z Q s rx ry e k
 unfold Dm.gGe at e
 split at e
 ·cases e;cases aH rx;cases aH ry
  exact ⟨_,_,rfl,rfl,k _ H0 H (aN.refl s) (.bl _)⟩
 ·cases e
theorem IG:OpD (rI (fun _ j=>0<j) fun i j=>.int (i % j)) Dm.g7:=by
 intro H0 H x y dx dy z Q s rx ry e k
 unfold Dm.g7 at e
 split at e
 ·split at e
  ·rename_i hj
   cases e;cases aH rx;cases aH ry
   exact ⟨_,_,rfl,rfl,hj,k _ H0 H (aN.refl s) (.int _)⟩
  ·cases e
 ·cases e
theorem II:OpD (rI KA fun i j=>.int (i ^ j.toNat)) Dm.g8:=by
 intro H0 H x y dx dy z Q s rx ry e k
 unfold Dm.g8 at e
 split at e
 ·split at e
  ·rename_i hj
   cases e;cases aH rx;cases aH ry
   exact ⟨_,_,rfl,rfl,⟨hj.1,hj.2.1,Nat.lt_trans hj.2.2 (by decide)⟩,k _ H0 H (aN.refl s) (.int _)⟩
  ·cases e
 ·cases e
section
variable {X:Cx}
noncomputable def Gu (i j:Int):Prop:=0<j∧j<Dm.jM
theorem Bc:OpR X (binaryOp .FloorDiv) (rI Gu fun i j=>.int (i / j)):=opI fun i j _ _ _ _ _ hc q=>by
 have h:j.natAbs.log2<9000:=by
  have h1:j.natAbs<2 ^ 200:=by
   have:=hc.2
   unfold Dm.jM at this
   have h2:=hc.1
   have e:(2:Nat) ^ 200=1606938044258990275541962092341162602522202993782792835301376:=by decide +kernel
   omega
  have h3:j.natAbs≠0:=by have:=hc.1;omega
  have:=(Nat.log2_lt h3).mpr h1
  omega
 have e:i.fdiv j=i / j:=Int.fdiv_eq_ediv_of_nonneg i (Int.le_of_lt hc.1)
 rw [← e] at q
 exact floordiv_int (Int.ne_of_gt hc.1) q (.inl (PyProof.noPylong_of_log2 h))
end
theorem IJ:OpD (rI Gu fun i j=>.int (i / j)) Dm.mS:=by
 intro H0 H x y dx dy z Q s rx ry e k
 unfold Dm.mS at e
 split at e
 ·split at e
  ·rename_i hj
   cases e;cases aH rx;cases aH ry
   exact ⟨_,_,rfl,rfl,hj,k _ H0 H (aN.refl s) (.int _)⟩
  ·cases e
 ·cases e
theorem IK:UnD (rU fun i=>.int (-i)) Dm.iP:=by
 intro H0 H x dx z Q s rx e k
 unfold Dm.iP at e
 split at e
 ·cases e;cases aH rx
  exact ⟨_,rfl,k _ H0 H (aN.refl s) (.int _)⟩
 ·cases e
noncomputable def Bd:R2:=fun x y H Q=>∃ l b xs zs,x=.ref l∧y=.ref b∧Rd H l (.lst xs)∧Rd H b (.lst zs)∧xs.length+zs.length≤sizeLine∧∀ p,H p=none→Q (.ref p) (upd H p (.lst (xs++zs)))
noncomputable def Be:R2:=fun x y H Q=>∃ l k xs,x=.ref l∧y=.int k∧Rd H l (.lst xs)∧-(2 ^ 63)≤k∧k<2 ^ 63∧xs.length*k.toNat≤sizeLine ∧
 ∀ p,H p=none→Q (.ref p) (upd H p (.lst (List.replicate k.toNat xs).flatten))
section
variable {X:Cx}
theorem Ek:OpR X (binaryOp .Add) Bd:=by
 intro pins s σ H x y v u Q I rx ry h
 obtain ⟨l,b,xs,zs,rfl,rfl,hH,hB,hz,q⟩:=h
 cases rx
 cases ry
 obtain ⟨z,its,n,r,e⟩:=hH.ok I.hok
 obtain ⟨z2,its2,n2,r2,e2⟩:=hB.ok I.hok
 have hl:=r.length
 have hl2:=r2.length
 refine PySem.P.add_list e e2 ?_ (by rw [List.size_toArray,List.size_toArray];omega)
 have ea:its.toArray++its2.toArray=(its++its2).toArray:=by simp
 rw [ea]
 exact ⟨.ref _,_,I.Ip (t':=s.toks) (r.append r2) (by rw [List.length_append];omega),rfl,q _ I.fresh⟩
theorem El:OpR X (binaryOp .Mult) Be:=by
 intro pins s σ H x y v u Q I rx ry h
 obtain ⟨l,k,xs,rfl,rfl,hH,h1,h2,hz,q⟩:=h
 cases rx
 obtain ⟨t,rfl⟩:=ry
 obtain ⟨z,its,n,r,e⟩:=hH.ok I.hok
 have hl:=r.length
 have hlen:its.toArray.size*k.toNat≤sizeLine:=by rw [List.size_toArray,← hl];exact hz
 have hcap:¬ its.toArray.size*k.toNat>(2 ^ 63-1) / 8:=by
  have:(sizeLine:Nat)≤(2 ^ 63-1) / 8:=by decide
  omega
 have hfit:¬ (!Builtin.List.listFitsIndex k)=true:=by
  rw [fitsIndex_both h1 h2]
  exact Bool.false_ne_true
 have Lc:¬ Builtin.List.listTooLong (its.toArray.size*k.toNat)=true:=by
  rw [uG hlen]
  exact Bool.false_ne_true
 have hnew:List.foldl (fun x1 x2=>x1++x2) #[] (List.replicate (if its.toArray.isEmpty=true then 0 else k.toNat) its.toArray)=(List.replicate k.toNat its).flatten.toArray:=by
  have f0:∀ m:Nat,List.foldl (fun x1 x2=>x1++x2) #[] (List.replicate m its.toArray)=(List.replicate m its).flatten.toArray:=fun m=>by
   have:=foldl_rep its m []
   rw [List.nil_append] at this
   exact this
  rw [f0]
  cases its with
  | nil=>simp
  | cons a r'=>rw [if_neg (by simp)]
 refine wpAny_binaryOp_repeat_ref (T := "list") (U := "int") (by decide) ⟨_,e,rfl⟩ (fun s'=>typeIs_int s' k t) noFill_list_mul F.fills_int_mul F.slot_int_rmul repeat_list F.slot_int_index.lookup
  (call_meets F.slot_int_rmul (typeIs_int s k t) F.entry_int_rmul (F.args_int_rmul_2 _ _) (int___rmul___int_list k t l its.toArray n)
   ⟨e,rfl,⟨_,e,rfl⟩,call_meets F.slot_list_mul ⟨_,e,rfl⟩ F.entry_list_mul (F.args_list_mul_2 _ _) (AutoListH.list___mul___list_int_3 l its.toArray n k t hfit hcap Lc) ⟨e,?_⟩⟩)
 rw [hnew]
 exact ⟨.ref _,_,I.Ip (t':=s.toks) (r.rep k.toNat) (by rw [len_rep,Nat.mul_comm];exact hz),rfl,q _ I.fresh⟩
theorem Em:OpR X (binaryOp .Add) (fun x y H Q=>rI0 (fun i j=>.int (i+j)) x y H Q∨Bd x y H Q):=HR.or Ek
theorem Eo:OpR X (binaryOp .Mult) (fun x y H Q=>rI AJ (fun i j=>.int (i*j)) x y H Q∨Be x y H Q):=HU.or El
end
theorem IL:OpD (fun x y H Q=>rI0 (fun i j=>.int (i+j)) x y H Q∨Bd x y H Q) Dm.bH:=by
 intro H0 H x y dx dy z Q s rx ry e k
 unfold Dm.bH at e
 split at e
 ·cases e;cases aH rx;cases aH ry
  exact .inl ⟨_,_,rfl,rfl,k _ H0 H (aN.refl s) (.int _)⟩
 ·split at e
  ·rename_i hz
   cases e
   obtain ⟨a,us,rfl,qa,ra⟩:=bC s rx
   obtain ⟨b,ws,rfl,qb,rb⟩:=bC s ry
   refine .inr ⟨a,b,us,ws,rfl,rfl,qa,qb,by rw [ra.length,rb.length];exact oF hz,fun p hp=>?_⟩
   exact k _ _ _ (aN.uO s hp) ⟨p,rfl,hp,s.free hp,_,aE,ra.append rb⟩
  ·cases e
 ·cases e
theorem IM:OpD (fun x y H Q=>rI AJ (fun i j=>.int (i*j)) x y H Q∨Be x y H Q) Dm.fN:=by
 intro H0 H x y dx dy z Q s rx ry e k
 unfold Dm.fN at e
 split at e
 ·split at e
  ·rename_i hj
   cases e;cases aH rx;cases aH ry
   exact .inl ⟨_,_,rfl,rfl,hj,k _ H0 H (aN.refl s) (.int _)⟩
  ·cases e
 ·split at e
  ·rename_i hz
   cases e;cases aH ry
   obtain ⟨a,us,rfl,qa,ra⟩:=bC s rx
   obtain ⟨h1,h2,h3⟩:=hz
   unfold Dm.BIG at h1 h2
   refine .inr ⟨a,_,us,rfl,rfl,qa,by omega,by omega,by rw [ra.length];exact oF h3,fun p hp=>?_⟩
   exact k _ _ _ (aN.uO s hp) ⟨p,rfl,hp,s.free hp,_,aE,ra.rep _⟩
  ·cases e
 ·cases e
theorem Gv:OpD (Eh false) Dm.gEq:=by
 intro H0 H x y dx dy z Q s rx ry e k
 unfold Dm.gEq at e
 split at e
 ·rename_i hk
  rw [Bool.and_eq_true] at hk
  cases e
  exact ⟨dx,dy,rx.full s,ry.full s,hk.1,hk.2,k _ H0 H (aN.refl s) (.bl _)⟩
 ·cases e
theorem Gw:OpD (Eh true) Dm.gNe:=by
 intro H0 H x y dx dy z Q s rx ry e k
 unfold Dm.gNe at e
 split at e
 ·rename_i hk
  rw [Bool.and_eq_true] at hk
  cases e
  exact ⟨dx,dy,rx.full s,ry.full s,hk.1,hk.2,k _ H0 H (aN.refl s) (.bl _)⟩
 ·cases e
theorem Gx:OpD (Ei false) Dm.gIn:=by
 intro H0 H x y dx dy z Q s rx ry e k
 unfold Dm.gIn at e
 split at e
 ·split at e
  ·rename_i hk
   rw [Bool.and_eq_true] at hk
   cases e
   exact ⟨dx,_,rx.full s,.inl (ry.full s),hk.1,hk.2,k _ H0 H (aN.refl s) (.bl _)⟩
  ·cases e
 ·split at e
  ·rename_i hk
   rw [Bool.and_eq_true] at hk
   cases e
   exact ⟨dx,_,rx.full s,.inr (ry.full s),hk.1,hk.2,k _ H0 H (aN.refl s) (.bl _)⟩
  ·cases e
 ·cases e
theorem Bf:OpD (Ei true) Dm.mT:=by
 intro H0 H x y dx dy z Q s rx ry e k
 unfold Dm.mT at e
 split at e
 ·split at e
  ·rename_i hk
   rw [Bool.and_eq_true] at hk
   cases e
   exact ⟨dx,_,rx.full s,.inl (ry.full s),hk.1,hk.2,k _ H0 H (aN.refl s) (.bl _)⟩
  ·cases e
 ·split at e
  ·rename_i hk
   rw [Bool.and_eq_true] at hk
   cases e
   exact ⟨dx,_,rx.full s,.inr (ry.full s),hk.1,hk.2,k _ H0 H (aN.refl s) (.bl _)⟩
  ·cases e
 ·cases e
theorem yq {H0:Hp} {xs:List V} {ds:List Dm.Dat} {i:Int} {d:Dm.Dat} (rs:aJ H0 xs ds) (e:Dm.atI ds i=some d):∃ v,L2.atI xs i=some v∧Rep H0 v d:=by
 unfold Dm.atI at e
 cases q:Dm.ixN ds.length i with
 | none=>rw [q] at e;cases e
 | some j=>
  rw [q] at e
  obtain ⟨v,hv,r⟩:=rs.get (i:=j) e
  refine ⟨v,?_,r⟩
  unfold L2.atI
  rw [rs.length]
  have q':L2.ixN ds.length i=some j:=q
  rw [q']
  exact hv
theorem Ld {K:PySem.W.Frag}:OpD (fun x y H Q=>Ij K x y H Q∨KI K x y H Q) Dm.gIx:=by
 intro H0 H x y dx dy z Q s rx ry e k
 unfold Dm.gIx at e
 split at e
 ·rename_i ds i
  cases q:Dm.atI ds i with
  | none=>rw [q] at e;cases e
  | some d=>
   rw [q] at e;cases e
   cases aH ry
   obtain ⟨a,us,rfl,qa,ra⟩:=bC s rx
   obtain ⟨v,hv,rv⟩:=yq ra q
   exact .inl ⟨a,us,i,v,rfl,rfl,.inl qa,hv,k _ H0 H (aN.refl s) rv⟩
 ·rename_i ds i
  cases q:Dm.atI ds i with
  | none=>rw [q] at e;cases e
  | some d=>
   rw [q] at e;cases e
   cases aH ry
   obtain ⟨a,us,rfl,qa,ra⟩:=i6 s rx
   obtain ⟨v,hv,rv⟩:=yq ra q
   exact .inr ⟨a,us,i,v,rfl,rfl,.inl (.inl qa),hv,k _ H0 H (aN.refl s) rv⟩
 ·cases e
theorem IP {K:PySem.W.Frag}:CallD (fun xs H Q=>∃ p ys,xs=[.ref p]∧(SqL K H p ys∨SqT K H p ys)∧Q (.int ys.length) H) Dm.d8:=by
 intro H0 H vs ds z Q s rs e k
 unfold Dm.d8 at e
 split at e
 ·cases e
  cases rs with
  | cons r rr=>
   cases rr
   obtain ⟨a,us,rfl,qa,ra⟩:=bC s r
   exact ⟨a,us,rfl,.inl (.inl qa),k _ H0 H (aN.refl s) (by rw [ra.length];exact .int _)⟩
 ·cases e
  cases rs with
  | cons r rr=>
   cases rr
   obtain ⟨a,us,rfl,qa,ra⟩:=i6 s r
   exact ⟨a,us,rfl,.inr (.inl (.inl qa)),k _ H0 H (aN.refl s) (by rw [ra.length];exact .int _)⟩
 ·cases e
theorem Ep:CallD (fun xs H Q=>∃ i j,xs=[.int i,.int j]∧Q (.int (if j<i then j else i)) H) Dm.gJ:=by
 intro H0 H vs ds z Q s rs e k
 unfold Dm.gJ at e
 split at e
 ·cases e
  cases rs with
  | cons r rr=>
   cases rr with
   | cons r' rr=>
    cases rr
    cases aH r;cases aH r'
    exact ⟨_,_,rfl,k _ H0 H (aN.refl s) (.int _)⟩
 ·cases e
theorem Er:CallD (fun xs H Q=>∃ i j,xs=[.int i,.int j]∧Q (.int (if j>i then j else i)) H) Dm.iJ:=by
 intro H0 H vs ds z Q s rs e k
 unfold Dm.iJ at e
 split at e
 ·cases e
  cases rs with
  | cons r rr=>
   cases rr with
   | cons r' rr=>
    cases rr
    cases aH r;cases aH r'
    exact ⟨_,_,rfl,k _ H0 H (aN.refl s) (.int _)⟩
 ·cases e
theorem Es {K:PySem.W.Frag}:CallD (fun xs H Q=>∃ p ys,xs=[.ref p]∧(SqL K H p ys∨SqT K H p ys)∧∀ l,H l=none→Q (.ref l) (upd H l (.lst ys))) Dm.iW:=by
 intro H0 H vs ds z Q s rs e k
 unfold Dm.iW at e
 split at e
 ·cases e
  cases rs with
  | cons r rr=>
   cases rr
   obtain ⟨a,us,rfl,qa,ra⟩:=bC s r
   exact ⟨a,us,rfl,.inl (.inl qa),fun p hp=>k _ _ _ (aN.uO s hp) ⟨p,rfl,hp,s.free hp,_,aE,ra⟩⟩
 ·cases e
  cases rs with
  | cons r rr=>
   cases rr
   obtain ⟨a,us,rfl,qa,ra⟩:=i6 s r
   exact ⟨a,us,rfl,.inr (.inl (.inl qa)),fun p hp=>k _ _ _ (aN.uO s hp) ⟨p,rfl,hp,s.free hp,_,aE,ra⟩⟩
 ·cases e
theorem Bg {K:PySem.W.Frag}:CallD (fun xs H Q=>∃ p ys,xs=[.ref p]∧((SqL K H p ys∧∀ l,H l=none→Q (.ref l) (upd H l (.tup ys)))∨(SqT K H p ys∧Q (.ref p) H))) Dm.e7:=by
 intro H0 H vs ds z Q s rs e k
 unfold Dm.e7 at e
 split at e
 ·cases e
  cases rs with
  | cons r rr=>
   cases rr
   obtain ⟨a,us,rfl,qa,ra⟩:=bC s r
   refine ⟨a,us,rfl,.inl ⟨.inl qa,fun p hp=>?_⟩⟩
   have g:=aN.zK (o:=HO.tup us) s hp
   exact k _ _ _ g (.tup aE (ra.mono g.s0))
 ·cases e
  cases rs with
  | cons r rr=>
   cases rr
   rcases r with r | ⟨a,_,w⟩
   ·cases r with
    | tup q rs=>exact ⟨_,_,rfl,.inr ⟨.inl (.inl (s _ _ q)),k _ H0 H (aN.refl s) (.tup q rs)⟩⟩
   ·exact False.elim w
 ·cases e
noncomputable abbrev DS (X:Cx) (st:Stmt) (f:Dm.FS):Prop:=PS X st (tDS f)
noncomputable abbrev DSs (X:Cx) (st:List Stmt) (f:Dm.FS):Prop:=PSs X st (tDS f)
noncomputable abbrev DI (X:Cx) (tg it:Expr) (f:Dm.FI):Prop:=PI X tg it (tDI f)
theorem PI.weak {X:Cx} {tg it:Expr} {t t':TI} (h:PI X tg it t) (k:∀ σ H R,t' σ H R→t σ H R):PI X tg it t':=fun pins s σ H R I q=>h pins s σ H R I (k σ H R q)
section
variable {X:Cx} {a b c e:Expr} {fa fb fc f:Dm.FE} {pos:Pos}
theorem d_v (i:Nat) {x:Str} (hN:X.N[i]?=some x:=by rfl) (hv:Vis X.env.scope x:=by first | exact Or.inl rfl | exact Or.inr (Or.inl rfl) | exact Or.inr (Or.inr rfl)) (hd:(x == ("__debug__" : Str))=false:=by decide)
  (hcd:(x == ("__classdict__" : Str))=false:=by decide):DE X (.Name x pos) (Dm.eV i):=PE.weak (jY hN hv hd hcd) fun _ _ _=>KR
theorem d_i {i:Int} {j}:DE X (.Constant (.int i) j pos) (Dm.eC (.int i)):=PE.weak Hy fun _ _ _=>lE fun _=>.int i
theorem d_b {v:Bool} {j}:DE X (.Constant (.bool v) j pos) (Dm.eC (.bl v)):=PE.weak Kq fun _ _ _=>lE fun _=>.bl v
theorem d_n {j}:DE X (.Constant .none j pos) (Dm.eC .non):=PE.weak Hz fun _ _ _=>lE fun _=>.non
theorem d_s {s:List Nat} {x:Str} {j} (hx:x=⟨s.toArray⟩:=by rfl):DE X (.Constant (.str x) j pos) (Dm.eC (.str s)):=by
 subst hx
 exact PE.weak HA fun _ _ _=>lE fun _=>.str s
theorem d_g {x:Str} {i:Int} {t:Tok} (hg:Gl X x) (hm:X.mg x=some (.int i t)) (hd:(x == ("__debug__" : Str))=false:=by decide):DE X (.Name x pos) (Dm.eC (.int i)):=
 PE.weak (x8 (v:=.int i) hg hm ⟨t,rfl⟩ hd) fun _ _ _=>lE fun _=>.int i
theorem zP {op:Operator} {r:R2} {g:Dm.Dat→Dm.Dat→Option Dm.RV} (o:OpR X (binaryOp op) r) (od:OpD r g) (ha:DE X a fa) (hb:DE X b fb):DE X (.BinOp a op b pos) (Dm.e2 g fa fb):=
 PE.weak (Kw o ha hb) fun _ _ _=>wG od
theorem bK (ha:DE X a fa) (hb:DE X b fb):DE X (.BinOp a .Add b pos) (Dm.e2 Dm.bH fa fb):=zP Em IL ha hb
theorem rE (ha:DE X a fa) (hb:DE X b fb):DE X (.BinOp a .Sub b pos) (Dm.e2 Dm.gX fa fb):=zP HS IF ha hb
theorem iK (ha:DE X a fa) (hb:DE X b fb):DE X (.BinOp a .Mult b pos) (Dm.e2 Dm.fN fa fb):=zP Eo IM ha hb
theorem Gy (ha:DE X a fa) (hb:DE X b fb):DE X (.BinOp a .FloorDiv b pos) (Dm.e2 Dm.mS fa fb):=zP Bc IJ ha hb
theorem nN (ha:DE X a fa) (hb:DE X b fb):DE X (.BinOp a .Mod b pos) (Dm.e2 Dm.g7 fa fb):=zP HV IG ha hb
theorem o8 (ha:DE X a fa) (hb:DE X b fb):DE X (.BinOp a .Pow b pos) (Dm.e2 Dm.g8 fa fb):=zP HX II ha hb
theorem rF (ha:DE X a fa):DE X (.UnaryOp .USub a pos) (Dm.e1 Dm.iP fa):=PE.weak (Ky HY ha) fun _ _ _=>MQ IK
theorem yr {op:CmpOp} {r:R2} {g:Dm.Dat→Dm.Dat→Option Dm.RV} (o:OpR X (compareOp op) r) (od:OpD r g) (ha:DE X a fa) (hb:DE X b fb) (hm:behindInMarks op b=false):DE X (.Compare a [op] [b] pos) (Dm.e2 g fa fb):=
 PE.weak (DQ o ha hb hm) fun _ _ _=>wG od
theorem nP {op:CmpOp} {r:R2} {g:Dm.Dat→Dm.Dat→Option Dm.RV} (o:OpR X (compareOp op) r) (od:OpD r g) (ha:DE X a fa) (hb:DE X b fb) (hm:behindInMarks op b=false):DT X (.Compare a [op] [b] pos) (Dm.tV (Dm.e2 g fa fb)):=
 PT.weak (DR o ha hb hm) fun σ H Q h=>wG od (sS h)
theorem Le {k:Nat} (hr:bL k X.A) (ha:DE X a fa) (hb:DE X b fb):DE X (.Compare a [.Eq] [b] pos) (Dm.e2 Dm.gEq fa fb):=yr (A_ hr) Gv ha hb (gZ _)
theorem MY {k:Nat} (hr:bL k X.A) (ha:DE X a fa) (hb:DE X b fb):DE X (.Compare a [.NotEq] [b] pos) (Dm.e2 Dm.gNe fa fb):=yr (Ba hr) Gw ha hb (gZ _)
theorem MZ (ha:DE X a fa) (hb:DE X b fb):DE X (.Compare a [.Lt] [b] pos) (Dm.e2 Dm.gLt fa fb):=yr Gg Gr ha hb (gZ _)
theorem D4 {k:Nat} (hr:bL k X.A) (ha:DE X a fa) (hb:DE X b fb) (hm:behindInMarks .In b=false:=by rfl):DE X (.Compare a [.In] [b] pos) (Dm.e2 Dm.gIn fa fb):=yr (Bb hr) Gx ha hb hm
theorem gM {k:Nat} (hr:bL k X.A) (ha:DE X a fa) (hb:DE X b fb):DT X (.Compare a [.Eq] [b] pos) (Dm.tV (Dm.e2 Dm.gEq fa fb)):=nP (A_ hr) Gv ha hb (gZ _)
theorem IQ {k:Nat} (hr:bL k X.A) (ha:DE X a fa) (hb:DE X b fb):DT X (.Compare a [.NotEq] [b] pos) (Dm.tV (Dm.e2 Dm.gNe fa fb)):=nP (Ba hr) Gw ha hb (gZ _)
theorem zQ (ha:DE X a fa) (hb:DE X b fb):DT X (.Compare a [.Lt] [b] pos) (Dm.tV (Dm.e2 Dm.gLt fa fb)):=nP Gg Gr ha hb (gZ _)
theorem zR (ha:DE X a fa) (hb:DE X b fb):DT X (.Compare a [.Gt] [b] pos) (Dm.tV (Dm.e2 Dm.gGt fa fb)):=nP KC La ha hb (gZ _)
theorem M0 (ha:DE X a fa) (hb:DE X b fb):DT X (.Compare a [.GtE] [b] pos) (Dm.tV (Dm.e2 Dm.gGe fa fb)):=nP KD Lb ha hb (gZ _)
theorem Et {k:Nat} (hr:bL k X.A) (ha:DE X a fa) (hb:DE X b fb) (hm:behindInMarks .In b=false:=by rfl):DT X (.Compare a [.In] [b] pos) (Dm.tV (Dm.e2 Dm.gIn fa fb)):=nP (Bb hr) Gx ha hb hm
theorem Lf {k:Nat} (hr:bL k X.A) (ha:DE X a fa) (hb:DE X b fb) (hm:behindInMarks .NotIn b=false:=by rfl):DT X (.Compare a [.NotIn] [b] pos) (Dm.tV (Dm.e2 Dm.mT fa fb)):=nP (zO hr) Bf ha hb hm
theorem cz (ha:DE X a fa) (hb:DE X b fb) (hs:sI b:=by intro _ _;rfl):DE X (.Subscript a b pos) (Dm.e2 Dm.gIx fa fb):=PE.weak (Gj (yh.or Ik) ha hb hs) fun _ _ _=>wG Ld
theorem af:DA X [] []:=PA.weak oV fun _ _ _=>KS
theorem aa {es:List Expr} {fs:List Dm.FE} (h:DE X e f) (r:DA X es fs) (hs:starEach (e::es) X.env=(false,eval e X.env)::starEach es X.env:=by rfl):DA X (e::es) (f::fs):=PA.weak (g4 h r hs) fun _ _ _=>Iz
theorem bD {es:List Expr} {fs:List Dm.FE} {x1} (h:DA X es fs):DE X (.Tuple es x1 pos) (Dm.bz fs):=PE.weak (Ib h) fun _ _ _=>KU
theorem b_ {es:List Expr} {fs:List Dm.FE} (h:DA X es fs):DE X (.List es pos) (Dm.cj fs):=PE.weak (AO h) fun _ _ _=>KW
theorem wK {es:List Expr} {fs:List Dm.FE} {r:List V→Hp→VK→Prop} {g:List Dm.Dat→Option Dm.RV} {x:Str} {id:String} {p:Pos} (hc:fW X (.builtin id) r) (cd:CallD r g) (hv:bootBuiltins x=some (.builtin id)) (hg:Gl X x) (hm:X.mg x=none) (ha:DA X (e::es) fs)
  (hn:x ≠ "__name__" := by decide) (hdb:(x == ("__debug__" : Str))=false:=by decide) (he:starEach (e::es) X.env=(false,eval e X.env)::starEach es X.env:=by rfl) (hpl:(backTo pos (starEach es X.env)).any (·.1)=false:=by rfl) :
  DE X (.Call (.Name x p) (e::es) [] pos) (Dm.eB g fs):=PE.weak (k_ hc hg hm hv ha hn hdb he hpl) fun _ _ _=>Eb cd
theorem Lg {es:List Expr} {fs:List Dm.FE} {r:List V→Hp→VK→Prop} {g:List Dm.Dat→Option Dm.RV} {x:Str} {T:String} {p:Pos} (hc:fW X (.type T) r) (cd:CallD r g) (hv:bootBuiltins x=some (.type T)) (hg:Gl X x) (hm:X.mg x=none) (ha:DA X (e::es) fs)
  (hn:x ≠ "__name__" := by decide) (hdb:(x == ("__debug__" : Str))=false:=by decide) (he:starEach (e::es) X.env=(false,eval e X.env)::starEach es X.env:=by rfl) (hpl:(backTo pos (starEach es X.env)).any (·.1)=false:=by rfl) :
  DE X (.Call (.Name x p) (e::es) [] pos) (Dm.eB g fs):=PE.weak (zE hc hg hm hv ha hn hdb he hpl) fun _ _ _=>Eb cd
variable {es:List Expr} {fs:List Dm.FE} {p:Pos}
theorem jS (hg:Gl X "len") (hm:X.mg "len" = none) (ha:DA X [e] fs) (he:starEach [e] X.env=[(false,eval e X.env)]:=by rfl) (hpl:(backTo pos (starEach [] X.env)).any (·.1)=false:=by rfl):DE X (.Call (.Name "len" p) [e] [] pos) (Dm.eB Dm.d8 fs):=wK sL IP PySem.boot_len hg hm ha (he:=he) (hpl:=hpl)
theorem wL (hc:X.calm=true) (hg:Gl X "min") (hm:X.mg "min" = none) (ha:DA X [a,b] fs) (he:starEach [a,b] X.env=(false,eval a X.env)::starEach [b] X.env:=by rfl) (hpl:(backTo pos (starEach [b] X.env)).any (·.1)=false:=by rfl):DE X (.Call (.Name "min" p) [a,b] [] pos) (Dm.eB Dm.gJ fs):=wK (zz hc) Ep (by rfl) hg hm ha (he:=he) (hpl:=hpl)
theorem Bj (hc:X.calm=true) (hg:Gl X "max") (hm:X.mg "max" = none) (ha:DA X [a,b] fs) (he:starEach [a,b] X.env=(false,eval a X.env)::starEach [b] X.env:=by rfl) (hpl:(backTo pos (starEach [b] X.env)).any (·.1)=false:=by rfl):DE X (.Call (.Name "max" p) [a,b] [] pos) (Dm.eB Dm.iJ fs):=wK (zy hc) Er (by rfl) hg hm ha (he:=he) (hpl:=hpl)
theorem IS (hg:Gl X "list") (hm:X.mg "list" = none) (ha:DA X [e] fs) (he:starEach [e] X.env=[(false,eval e X.env)]:=by rfl) (hpl:(backTo pos (starEach [] X.env)).any (·.1)=false:=by rfl):DE X (.Call (.Name "list" p) [e] [] pos) (Dm.eB Dm.iW fs):=Lg sM Es (by rfl) hg hm ha (he:=he) (hpl:=hpl)
theorem yt (hg:Gl X "tuple") (hm:X.mg "tuple" = none) (ha:DA X [e] fs) (he:starEach [e] X.env=[(false,eval e X.env)]:=by rfl) (hpl:(backTo pos (starEach [] X.env)).any (·.1)=false:=by rfl):DE X (.Call (.Name "tuple" p) [e] [] pos) (Dm.eB Dm.e7 fs):=Lg qR Bg (by rfl) hg hm ha (he:=he) (hpl:=hpl)
theorem aL {k:Nat} {F:Addr} {fd:FuncData} {ps:List Str} {g:List Dm.Dat→Option Dm.RV} {x:Str} (G:aW X.prog X.w X.K X.mg X.base CX0 k F fd ps (spD g)) (hr:bL k X.A) (hg:Gl X x) (hm:X.mg x=some (.ref F)) (hk:PySem.W.keepIn X.K (.ref F)=true) (hb:Binds X.K fd ps [])
  (ha:DA X (e::es) fs) (hdb:(x == ("__debug__" : Str))=false:=by decide) (he:starEach (e::es) X.env=(false,eval e X.env)::starEach es X.env:=by rfl) (hpl:(backTo pos (starEach es X.env)).any (·.1)=false:=by rfl) :
  DE X (.Call (.Name x p) (e::es) [] pos) (Dm.eF g fs):=PE.weak (oE G hr hg hm hk hb .nil (yj (X:=X)) ha hdb he hpl) fun _ _ _=>A2
theorem uS {op} (h:DE X a fa):DE X (.BoolOp op [a] pos) fa:=HD h
theorem o9 {rest:List Expr} (ha:DE X a fa) (hb:DE X (.BoolOp .And (b::rest) pos) fb):DE X (.BoolOp .And (a::b::rest) pos) (Dm.gq fa fb):=PE.weak (HE ha hb) fun _ _ _=>KY
theorem Lh (ha:DE X a fa):DE X (.UnaryOp .Not a pos) (Dm.qS fa):=PE.weak (HF ha) fun _ _ _=>KZ
noncomputable abbrev DW (X:Cx) (e:Expr) (f:Dm.FT):Prop:=PW X e (tDT f)
theorem PW.weak {t t':TT} (h:PW X e t) (k:∀ σ H Q,t' σ H Q→t σ H Q):PW X e t':=fun whole pins s σ H Q I q=>h whole pins s σ H Q I (k σ H Q q)
variable {ta tb:Dm.FT}
theorem i7 (h:DT X a ta):DW X (.BoolOp .And [a] pos) ta:=pw_and1 h
theorem jT (h:DT X a ta):DW X (.BoolOp .Or [a] pos) ta:=pw_or1 h
theorem w_and {rest:List Expr} (ha:DT X a ta) (hb:DW X (.BoolOp .And (b::rest) pos) tb):DW X (.BoolOp .And (a::b::rest) pos) (Dm.fV ta tb):=PW.weak (pw_and ha hb) fun _ _ _=>IB
theorem w_or {rest:List Expr} (ha:DT X a ta) (hb:DW X (.BoolOp .Or (b::rest) pos) tb):DW X (.BoolOp .Or (a::b::rest) pos) (Dm.tOr ta tb):=PW.weak (pw_or ha hb) fun _ _ _=>K0
theorem t_w (h:DW X a ta):DT X a ta:=h.pt
theorem fC (h:DT X a ta):DT X (.UnaryOp .Not a pos) (Dm.bY ta):=PT.weak (HC h) fun _ _ _=>IA
theorem fD (h:DE X e f) (he:∀ whole,isTrue e X.env whole=(do let v ← whole;standAt e.pos;holding [v] (truthy v)):=by intro _;rfl):DT X e (Dm.tV f):=PT.weak (HB h he) fun _ _ _=>sS
variable {tg:Expr}
theorem tu (hg:Gl X "range") (hm:X.mg "range" = none) (ha:DA X [a] [fa]) (hs:starEach [a] X.env=[(false,eval a X.env)]:=by rfl):DI X tg (.Call (.Name "range" p) [a] [] pos) (Dm.iR1 fa):=
 PI.weak (zv hg hm ha hs) fun _ _ _=>K7
theorem Li (hg:Gl X "range") (hm:X.mg "range" = none) (ha:DA X [a,b] [fa,fb]) (hs:starEach [a,b] X.env=[(false,eval a X.env),(false,eval b X.env)]:=by rfl) (hs2:starEach [b] X.env=[(false,eval b X.env)]:=by rfl):DI X tg (.Call (.Name "range" p) [a,b] [] pos) (Dm.iR2 fa fb):=
 PI.weak (zw hg hm ha hs hs2) fun _ _ _=>K8
end
section
variable {X:Cx} {st:Stmt} {rest:List Stmt} {fs gs:Dm.FS} {e a b c:Expr} {f fa fb:Dm.FE} {pos:Pos}
theorem dw:DSs X [] Dm.sNx:=PSs.weak x_ fun _ _ _=>MR
theorem ao (h1:DS X st fs) (h2:DSs X rest gs):DSs X (st::rest) (Dm.aA fs gs):=PSs.weak (iU h1 h2) fun _ _ _=>K1
theorem aC (h1:DS X st fs):DSs X [st] fs:=ya h1
theorem s_a (i:Nat) {x:Str} {pos':Pos} (hN:X.N.Nodup) (he:DE X e f) (hi:X.N[i]?=some x:=by rfl) (hx:Loc X.env.scope x:=by first | exact Or.inl rfl | exact Or.inr rfl) (hs:swapsWith e (some (.Name x pos')) pos.line X.env=pure false:=by rfl)
  (hf:X.fn x=true∨X.env.scope.names.lookup x=some .local:=by first | exact .inl rfl | exact .inr rfl | assumption):DS X (.Assign [.Name x pos'] e pos) (Dm.sA i f):=PS.weak (AB hN hi hx he hs hf) fun _ _ _=>A5
theorem j4:PGs X [] (gv []):=DM
theorem bV {es:List Expr} {is:List Nat} (i:Nat) {x:Str} {px:Pos} (hN:X.N.Nodup) (h2:PGs X es (gv is)) (hi:X.N[i]?=some x:=by rfl) (hx:Loc X.env.scope x:=by first | exact Or.inl rfl | exact Or.inr rfl)
  (hf:X.fn x=true∨X.env.scope.names.lookup x=some .local:=by first | exact .inl rfl | exact .inr rfl | assumption) (hs:(assignEach (.Name x px::es) X.env).map (·.2)=assign (.Name x px) X.env::(assignEach es X.env).map (·.2):=by rfl):PGs X (.Name x px::es) (gv (i::is)):=Az (sF hN hi hx hf) h2 hs
theorem s_u {is:List Nat} {es:List Expr} {k:Nat} {tpos:Pos} (hc:X.calm=true) (hg:PGs X es (gv is)) (he:DE X e f) (hn:(assignEach es X.env).length=is.length:=by rfl) (hst:(assignEach es X.env).findIdx? (·.1)=none:=by rfl)
  (hs:swapsWithSole [.Tuple es k tpos] e pos.line X.env=pure false:=by rfl) (hw:swappedStores [.Tuple es k tpos] e X.env=pure none:=by rfl) (h1:(assignEach [.Tuple es k tpos] X.env).map (·.2)=[assign (.Tuple es k tpos) X.env]:=by rfl) :
  DS X (.Assign [.Tuple es k tpos] e pos) (Dm.sU is f):=PS.weak (AA he (wk hc hg hn hst) hs hw h1) fun _ _ _=>A6 rfl
theorem s_e (he:DE X e f) (hs:swapsWith e none pos.line X.env=pure false:=by rfl):DS X (.Expr e pos) (Dm.sE f):=PS.weak (k6 he hs) fun _ _ _=>IC
theorem s_r (he:DE X e f):DS X (.Return (some e) pos) (Dm.sR f):=PS.weak (HG he) fun _ _ _=>K2
theorem fP {t:Dm.FT} {x y:List Stmt} (ht:DT X c t) (ha:DSs X x fs) (hb:DSs X y gs):DS X (.If c x y pos) (Dm.sIf t fs gs):=PS.weak (Ax ht ha hb) fun _ _ _=>K3
theorem lI:DS X st (fun _=>none):=PS.weak Ay fun _ _ _ ⟨_,_,_,_,z,_⟩=>by cases z
theorem Bk (i:Nat) {x:Str} {px ap cp:Pos} (he:DE X e f) (hi:X.N[i]?=some x:=by rfl) (hv:Vis X.env.scope x:=by first | exact Or.inl rfl | exact Or.inr (Or.inl rfl) | exact Or.inr (Or.inr rfl)) (hd:(x == ("__debug__" : Str))=false:=by decide)
  (hcd:(x == ("__classdict__" : Str))=false:=by decide) (hbase:attributeBase (.Name x px) "append" X.env (eval (.Name x px) X.env)=eval (.Name x px) X.env:=by rfl)
  (hfew:((backTo cp (starEach [e] X.env)).all (fun x=>!x.1)&&(backToKw cp (keywordEach [] X.env)).all (fun x=>x.1.isSome)
   && decide ([e].length+([]:List Keyword).length+(if ([]:List Keyword).isEmpty then 0 else 1)<30))=true:=by rfl)
  (hline:(ap.endLine == cp.line)=true:=by rfl) (hs:starEach [e] X.env=(false,eval e X.env)::starEach [] X.env:=by rfl) (hplain:(backTo cp (starEach [] X.env)).any (·.1)=false:=by rfl)
  (hsw:swapsWith (.Call (.Attribute (.Name x px) "append" ap) [e] [] cp) none pos.line X.env=pure false:=by rfl) :
  DS X (.Expr (.Call (.Attribute (.Name x px) "append" ap) [e] [] cp) pos) (Dm.lz i f):=
 PS.weak (k6 (uF PySem.F.plainAttrs_list PySem.F.slot_list_append PySem.F.type_list_append mJ (jY hi hv hd hcd) (aa he af hs) hbase hfew hline hs hplain) hsw) fun _ _ _=>K4
theorem Gz (i:Nat) {x:Str} {j:Expr} {fj:Dm.FE} {px sp:Pos} (hj:DE X j fj) (he:DE X e f) (hi:X.N[i]?=some x:=by rfl) (hv:Vis X.env.scope x:=by first | exact Or.inl rfl | exact Or.inr (Or.inl rfl) | exact Or.inr (Or.inr rfl)) (hd:(x == ("__debug__" : Str))=false:=by decide)
  (hcd:(x == ("__classdict__" : Str))=false:=by decide) (ha:∀ v,assign (.Subscript (.Name x px) j sp) X.env v=(do
   let ov ← holding [v] (eval (.Name x px) X.env)
   let iv ← holding [v,ov] (eval j X.env)
   standAt sp
   holding [v,ov,iv] (setItem ov iv v)
   release [v,ov,iv] []):=by intro _;rfl)
  (hs:swapsWithSole [.Subscript (.Name x px) j sp] e pos.line X.env=pure false:=by rfl) (hw:swappedStores [.Subscript (.Name x px) j sp] e X.env=pure none:=by rfl) (h1:(assignEach [.Subscript (.Name x px) j sp] X.env).map (·.2)=[assign (.Subscript (.Name x px) j sp) X.env]:=by rfl) :
  DS X (.Assign [.Subscript (.Name x px) j sp] e pos) (Dm.mQ i fj f):=PS.weak (AA he (HM (jY hi hv hd hcd) hj set_list ha) hs hw h1) fun _ _ _=>K5
theorem IT (n:Nat) {t:Dm.FT} {body:List Stmt} (hp:PassesOwn (model X.prog X.w) X.A X.env X.xe) (ht:DT X c t) (hb:DSs X body fs):DS X (.While c body [] pos) (Dm.whD t fs n):=PS.weak (AE hp ht hb) fun _ _ _=>Ec
structure TG' (X:Cx) (tg:Expr) (is:List Nat) (bd:Dm.FB):Prop where
 ex:∃ g,PG X tg g∧BD is g bd
theorem g_n (i:Nat) {x:Str} {px:Pos} (hN:X.N.Nodup) (hi:X.N[i]?=some x:=by rfl) (hx:Loc X.env.scope x:=by first | exact Or.inl rfl | exact Or.inr rfl) (hf:X.fn x=true∨X.env.scope.names.lookup x=some .local:=by first | exact .inl rfl | exact .inr rfl | assumption) :
  TG' X (.Name x px) [i] (Dm.bN i):=⟨⟨_,sF hN hi hx hf,ym i⟩⟩
theorem g_t {is:List Nat} {es:List Expr} {k:Nat} {tpos:Pos} (hc:X.calm=true) (hg:PGs X es (gv is)) (hn:(assignEach es X.env).length=is.length:=by rfl) (hst:(assignEach es X.env).findIdx? (·.1)=none:=by rfl):TG' X (.Tuple es k tpos) is (Dm.bT is):=
 ⟨⟨_,wk hc hg hn hst,A7 is rfl⟩⟩
theorem jU {tg it:Expr} {fi:Dm.FI} {is:List Nat} {bd:Dm.FB} {body:List Stmt} (hp:PassesOwn (model X.prog X.w) X.A X.env X.xe) (hc:X.calm=true) (hi:DI X tg it fi) (hg:TG' X tg is bd) (hb:DSs X body fs)
  (hs:∀ x,foldedSetIterable it X.env x=pure x:=by intro _;rfl):DS X (.For tg it body [] pos) (Dm.gu fi bd fs):=by
 obtain ⟨g,h1,h2⟩:=hg.ex
 exact PS.weak (AI hp hc hi h1 hb hs) fun _ _ _=>K6 h2
end
noncomputable def tyName:Dm.Dat→String
 | .non => "NoneType"
 | .bl _ => "bool"
 | .int _ => "int"
 | .str _ => "str"
 | .tup _ => "tuple"
 | .lst _ => "list"
 | .dct _ _ => "dict"
 | .exc _ => "dict"
 | .fn _ => "dict"
noncomputable def zS (T:String) (p:Dm.Dat→Bool):Prop:=∀ (K:PySem.W.Frag) (d:Dm.Dat),PySem.W.kitOne K (.type (tyName d)) (.type T)=some (p d)
theorem Eu:zS "int" Dm.isI:=fun K d=>by cases d<;>rfl
theorem Bl:zS "bool" Dm.isB:=fun K d=>by cases d<;>rfl
theorem o_:zS "list" Dm.isL:=fun K d=>by cases d<;>rfl
theorem kit_tuple:zS "tuple" Dm.isT:=fun K d=>by cases d<;>rfl
theorem Bm {K:PySem.W.Frag} {H:Hp} {v:V} {d:Dm.Dat} (r:Rep H v d) (nx:∀ C,d≠.exc C∧d≠.fn C):k9 K H v (.type (tyName d)):=by
 cases r with
 | non=>exact .non
 | bl b=>exact .bl b
 | int i=>exact .int i
 | str s=>exact .str _
 | tup q _=>exact .tup q
 | lst q _=>
  rcases q with q | ⟨o,q⟩
  ·exact .lst q
  ·exact .frz q
 | dct q _ _=>exact .dK q
 | exc _=>exact absurd rfl (nx _).1
 | fn _=>exact absurd rfl (nx _).2
noncomputable def Lj (K:PySem.W.Frag) (T:String):List V→Hp→VK→Prop:=fun xs H Q=>∃ x t b,xs=[x,.ty T]∧k9 K H x t∧PySem.W.kitOne K t (.type T)=some b∧Q (.bl b) H
section
variable {X:Cx} {e:Expr} {f:Dm.FE} {p p2 pos:Pos}
theorem Bo {T:String}:fW X (.builtin "isinstance") (Lj X.K T):=by
 intro pins s σ H xs us Q I r h
 obtain ⟨x,t,b,rfl,ty,e,q⟩:=h
 obtain ⟨u,u2,rfl,rx,ry⟩:=vals2 r
 cases ry
 exact zB I rx ty e fun tk=>⟨.bl b,H,I.tok tk,rfl,q⟩
theorem Lk {K:PySem.W.Frag} {T:String} {p:Dm.Dat→Bool} (kp:zS T p) {σ:L2.St} {H:Hp} {Q:VK} (h:tD (Dm.e1 (Dm.iO p) f) σ H Q):tCB (Lj K T) (qZ (tD f) (qZ (tC (.ty T)) zC)) σ H Q:=by
 obtain ⟨H0,ρ,x,ρ',st,e,k⟩:=h
 unfold Dm.e1 at e
 split at e
 ·cases e
 rename_i x1 ρ1 e1
 split at e
 ·cases e
 rename_i dx p1
 have nx:∀ C,dx≠.exc C∧dx≠.fn C:=fun C=>⟨fun z=>(by subst z;cases e),fun z=>(by subst z;cases e)⟩
 have ev:Dm.iO p dx=Dm.vB (p dx):=by cases dx<;>first | rfl | exact absurd rfl (nx _).1 | exact absurd rfl (nx _).2
 rw [ev] at e
 dsimp only at e
 cases e
 refine ⟨H0,ρ,x1,_,st,e1,fun v H1 Hb t1 r1=>?_⟩
 exact ⟨v,_,_,rfl,Bm ((r1.look t1.st p1).full t1.st.same) nx,kp K dx,k _ H1 Hb t1 (Rep.bl _)⟩
theorem rG {T:String} {tn:Str} {p':Dm.Dat→Bool} (kp:zS T p') (hvT:bootBuiltins tn=some (.type T)) (hgT:Gl X tn) (hmT:X.mg tn=none) (hg:Gl X "isinstance") (hm:X.mg "isinstance" = none) (h:DE X e f)
  (hn:tn ≠ "__name__" := by decide) (hdb:(tn == ("__debug__" : Str))=false:=by decide)
  (he:starEach [e,.Name tn p2] X.env=(false,eval e X.env)::starEach [.Name tn p2] X.env:=by rfl) (hpl:(backTo pos (starEach [.Name tn p2] X.env)).any (·.1)=false:=by rfl) (he2:starEach [.Name tn p2] X.env=(false,eval (.Name tn p2) X.env)::starEach [] X.env:=by rfl) :
  DE X (.Call (.Name "isinstance" p) [e,.Name tn p2] [] pos) (Dm.e1 (Dm.iO p') f):=
 PE.weak (k_ Bo hg hm PyProof.Rows.boot_isinstance (g4 h (g4 (x9 (v:=.ty T) hgT hmT hvT rfl hn hdb) oV he2) he) (he:=he) (hpl:=hpl)) fun _ _ _=>Lk kp
theorem all_range (bs:List Bool):(List.range bs.length).all (fun i=>bs.getD i true)=bs.all id:=by
 rw [Bool.eq_iff_iff,List.all_eq_true,List.all_eq_true]
 constructor
 ·intro h b hb
  obtain ⟨i,hi,rfl⟩:=List.mem_iff_getElem.mp hb
  have:=h i (List.mem_range.mpr hi)
  rw [List.getD_eq_getElem?_getD,List.getElem?_eq_getElem hi] at this
  exact this
 ·intro h i hi
  have hi:=List.mem_range.mp hi
  rw [List.getD_eq_getElem?_getD,List.getElem?_eq_getElem hi]
  exact h _ (List.getElem_mem hi)
theorem zT (hc:X.calm=true):fW X (.builtin "all") (fun xs H Q=>∃ (a:Addr) (bs:List Bool),xs=[.ref a]∧Rd H a (.lst (bs.map V.bl))∧Q (.bl (bs.all id)) H):=by
 intro pins s σ H xs us Q I r h
 obtain ⟨a,bs,rfl,hq,q⟩:=h
 obtain ⟨u,rfl,rx⟩:=vals1 r
 cases rx
 obtain ⟨z,its,n,rv,e⟩:=hq.ok I.hok
 have hl:s.heap.IsList a its.toArray:=⟨_,e,rfl,_,rfl⟩
 have hlen:=rv.length
 rw [List.length_map] at hlen
 have hax:a≠s.heap.objs.size:=Nat.ne_of_lt (Heap.lt_size e)
 refine PySem.call_all_walk (wpAny_pyIter_list hl ⟨s.heap.objs.size,_,_,_,_,_,fun i=>bs.getD i true,rfl,Walks.list (A:=X.A.in1) (I.ok.hd hc) s.heap.objs.size a hax its.toArray,⟨⟨_,Heap.get?_push_size _ rfl,rfl,rfl⟩,hl.push _⟩,?_,fun h' tk hk=>?_⟩)
 ·intro i v s' Q' E' hv hQ'
  have hv':its[i]?=some v:=by simpa using hv
  have hi:i<bs.length:=by rw [hlen];exact (List.getElem?_eq_some_iff.mp hv').1
  have hb:(bs.map V.bl)[i]?=some (V.bl bs[i]):=by rw [List.getElem?_map,List.getElem?_eq_getElem hi];rfl
  obtain ⟨u,hu,ru⟩:=rv.get hb
  rw [hv'] at hu
  cases hu
  cases ru
  refine wpAny_truthy_bool ?_
  have e2:bs.getD i true=bs[i]:=by rw [List.getD_eq_getElem?_getD,List.getElem?_eq_getElem hi];rfl
  rw [← e2]
  exact hQ'
 ·have e1:its.toArray.size=bs.length:=by rw [List.size_toArray,hlen]
  rw [e1,all_range]
  refine ⟨.bl _,H,I.kept (t':=tk) fun b o eb=>hk b o ?_ (Heap.get?_push_of_some _ eb),rfl,q⟩
  intro hm
  have:b=s.heap.objs.size:=by simpa using hm
  exact absurd (Heap.lt_size eb) (by rw [this];exact Nat.lt_irrefl _)
end
section
variable {X:Cx} {a b c e:Expr} {f fa fb fc:Dm.FE} {p p2 pos:Pos}
theorem Ew {r r':R2} {g h:Dm.Dat→Dm.Dat→Option Dm.RV} (o1:OpD r g) (o2:OpD r' h) {σ:L2.St} {H:Hp} {Q:VK} (hh:tD (Dm.fG g h fa fb fc) σ H Q):AK r r' (tD fa) (tD fb) (tD fc) σ H Q:=by
 obtain ⟨H0,ρ,x,ρ',st,e,k⟩:=hh
 unfold Dm.fG at e
 split at e
 ·cases e
 rename_i x1 ρ1 e1
 split at e
 ·cases e
 rename_i y1 ρ2 e2
 split at e
 ·cases e
 rename_i dx p1
 split at e
 ·cases e
 rename_i dy p2
 refine ⟨H0,ρ,x1,ρ1,st,e1,fun v H1 Hb t1 r1=>⟨H1,ρ1,y1,ρ2,t1.st,e2,fun u H2 Hc t2 r2=>?_⟩⟩
 split at e
 ·rename_i gz
  refine o1 H2 Hc v u dx dy _ _ t2.st.same ((r1.mono t2).look t2.st p1) (r2.look t2.st p2) gz fun w H3 Hd g3 r3=>?_
  refine ⟨true,Rep.sQ r3,?_⟩
  rw [if_pos rfl]
  have t3:=t2.trans (.grow t2.st g3)
  have r2':=r2.mono (.grow t2.st g3)
  split at e
  ·cases e
  rename_i z ρ3 e3
  split at e
  ·cases e
  rename_i dy' p3
  split at e
  ·cases e
  rename_i dz p4
  split at e
  ·cases e
  rename_i w2 hz
  cases e
  refine ⟨H3,ρ2,z,_,t3.st,e3,fun w' H4 He t4 r4=>?_⟩
  refine o2 H4 He u w' dy' dz w2 Q t4.st.same ((r2'.mono t4).look t4.st p3) (r4.look t4.st p4) hz fun w5 H5 Hf g5 r5=>?_
  exact k w5 H5 Hf (t1.trans (t3.trans (t4.trans (.grow t4.st g5)))) ((r5.toV t4.st).early fun a n=>(t1.trans (t3.trans t4)).stp.gone n)
 ·rename_i gz
  cases e
  refine o1 H2 Hc v u dx dy _ _ t2.st.same ((r1.mono t2).look t2.st p1) (r2.look t2.st p2) gz fun w H3 Hd g3 r3=>?_
  refine ⟨false,Rep.sQ r3,?_⟩
  rw [if_neg Bool.false_ne_true]
  exact k _ H3 Hd (t1.trans (t2.trans (.grow t2.st g3))) (Rep.bl false)
 ·cases e
theorem Ex {op op':CmpOp} {r r':R2} {g h:Dm.Dat→Dm.Dat→Option Dm.RV} (o1:OpR X (compareOp op) r) (q1:OpD r g) (o2:OpR X (compareOp op') r') (q2:OpD r' h) (ha:DE X a fa) (hb:DE X b fb) (hc:DE X c fc)
  (hm:lastMarks [op,op'] [b,c]=false:=by with_unfolding_all rfl):DE X (.Compare a [op,op'] [b,c] pos) (Dm.fG g h fa fb fc):=PE.weak (AL o1 o2 ha hb hc hm) fun _ _ _=>Ew q1 q2
theorem tw (n d:Nat) (o:Option Int) (hd:d≤n):HT.sIx n d o=Dm.sIx n d o:=by
 cases o with
 | none=>rfl
 | some v=>
  unfold HT.sIx Dm.sIx
  first
   | rfl
   | (dsimp only;split<;>omega)
theorem rH {H0:Hp} {xs:List V} {ds:List Dm.Dat} (rs:aJ H0 xs ds) (lo hi:Option Int):aJ H0 (qP xs lo hi) (Dm.cut ds lo hi):=by
 unfold qP Dm.cut
 rw [rs.length,tw _ _ _ (Nat.zero_le _),tw _ _ _ (Nat.le_refl _)]
 exact (rs.drop _).take _
theorem oG {fo:Option Dm.FE} {σ:L2.St} {H0 H:Hp} {ρ ρ':Dm.Env} {o:Option Int} {Q:Option Int→Hp→Prop} (st:aB H0 H σ ρ) (e:Dm.part fo ρ=some (o,ρ')) (k:∀ H0' H',ESt σ ρ H0 H ρ' H0' H'→Q o H') :
  (match fo with | none=>sH | some f=>AR (tD f)) σ H Q:=by
 cases fo with
 | none=>cases e;exact k H0 H (.refl st)
 | some f=>
  unfold Dm.part at e
  dsimp only at e
  split at e
  ·rename_i i ρ1 e1
   cases e
   exact ⟨H0,ρ,_,_,st,e1,fun v H1 Hb t1 r1=>⟨i,Rep.isInt r1,k H1 Hb t1⟩⟩
  ·cases e
noncomputable abbrev tOf (fo:Option Dm.FE):TO:=match fo with | none=>sH | some f=>AR (tD f)
theorem M4 {K:PySem.W.Frag} {lo hi:Option Dm.FE} {σ:L2.St} {H:Hp} {Q:VK} (h:tD (Dm.eSl f lo hi) σ H Q):tSl (KJ K) (tD f) (tOf lo) (tOf hi) σ H Q:=by
 obtain ⟨H0,ρ,x,ρ',st,e,k⟩:=h
 unfold Dm.eSl at e
 split at e
 ·cases e
 rename_i x1 ρ1 e1
 split at e
 ·cases e
 rename_i l ρ2 e2
 split at e
 ·cases e
 rename_i hh ρ3 e3
 split at e
 ·rename_i ds p1
  cases e
  refine ⟨H0,ρ,x1,ρ1,st,e1,fun v H1 Hb t1 r1=>?_⟩
  refine oG t1.st e2 fun H2 Hc t2=>?_
  refine oG t2.st e3 fun H3 Hd t3=>?_
  have tt:=t1.trans (t2.trans t3)
  obtain ⟨a,xs,rfl,qa,ra⟩:=bC t3.st.same ((r1.mono (t2.trans t3)).look t3.st p1)
  refine ⟨a,xs,rfl,.inl qa,fun q hq=>?_⟩
  have g:=aN.uO (o:=HO.lst (qP xs l hh)) t3.st.same hq
  refine k _ _ _ (tt.trans (.grow t3.st g)) ⟨q,rfl,tt.stp.gone hq,t3.st.dh hq,t3.st.same.free hq,_,aE,rH ra l hh⟩
 ·cases e
theorem IU {lo hi:Option Expr} {flo fhi:Option Dm.FE} (h:DE X e f) (hl:PO X lo (tOf flo)) (hh:PO X hi (tOf fhi)):DE X (.Subscript e (.Slice lo hi none p2) pos) (Dm.eSl f flo fhi):=PE.weak (uE D0 h hl hh) fun _ _ _=>M4
theorem o_n:PO X none (tOf none):=DY
theorem o_s (h:DE X e f):PO X (some e) (tOf (some f)):=DZ h
end
section
variable {X:Cx} {nm:List Str} {elt tg iter:Expr} {ifs:List Expr} {scope:Scope} {pos:Pos} {own:List Str} {fi:Dm.FI} {bd:Dm.FB} {is:List Nat} {t:Dm.FT} {f:Dm.FE}
noncomputable abbrev DTs (X:Cx) (ifs:List Expr) (t:Dm.FT):Prop:=PTs X ifs (tDT t)
theorem g9:DTs X [] Dm.cT:=fun pins s σ H Q I h=>by
 obtain ⟨H0,ρ,b,ρ',st,e,k⟩:=h
 cases e
 exact yo pins s σ H Q I (k H0 H (.refl st))
theorem pe {c:Expr} (h:DT X c t):DTs X [c] t:=Eg h
structure TGc (X:Cx) (nm:List Str) (scope:Scope) (own:List Str) (tg:Expr) (is:List Nat) (bd:Dm.FB):Prop where
 ex:∃ g,(∀ cl C s H fp,PG (bw X nm scope own cl C s H fp) tg g)∧BD is g bd
theorem c_n (i:Nat) {x:Str} {px:Pos} (hN:(nm++own).Nodup) (hi:(nm++own)[i]?=some x) (hx:(relabel scope X.env).names.lookup x=some .local):TGc X nm scope own (.Name x px) [i] (Dm.bN i):=
 ⟨⟨_,fun cl C s H fp=>sF (X:=bw X nm scope own cl C s H fp) hN hi (.inl hx) (.inr hx),ym i⟩⟩
theorem c_t {es:List Expr} {k:Nat} {tpos:Pos} (hc:X.calm=true) (hg:∀ cl C s H fp,PGs (bw X nm scope own cl C s H fp) es (gv is)) (hn:∀ cl C,(assignEach es (compEnvC scope cl C X.env)).length=is.length:=by intro _ _;rfl)
  (hst:∀ cl C,(assignEach es (compEnvC scope cl C X.env)).findIdx? (·.1)=none:=by intro _ _;rfl):TGc X nm scope own (.Tuple es k tpos) is (Dm.bT is):=
 ⟨⟨_,fun cl C s H fp=>wk (X:=bw X nm scope own cl C s H fp) hc (hg cl C s H fp) (hn cl C) (hst cl C),A7 is rfl⟩⟩
theorem IV (hc:X.calm=true) (S:fJ X nm scope) (hi:DI X tg iter fi) (hg:TGc X nm scope own tg is bd) (ht:∀ cl C s H fp,DTs (bw X nm scope own cl C s H fp) ifs t) (he:∀ cl C s H fp,DE (bw X nm scope own cl C s H fp) elt f)
  (hl:∀ i∈is,X.N.length≤i) (hs:∀ x,foldedSetIterable iter X.env x=pure x:=by intro _;rfl):DE X (.ListComp elt [⟨tg,iter,ifs,0⟩] scope pos) (Dm.cU fi own.length bd t f):=by
 obtain ⟨g,h1,h2⟩:=hg.ex
 intro pins s σ H Q I h
 exact yp hc S hi h1 ht he hs pins s σ H Q I (wJ h2 (fun i hi=>by rw [I.len];exact hl i hi) h)
theorem IW (j:Nat) {y:Str} {py spos:Pos} (hN:X.N.Nodup) (hc:X.calm=true) (S:fJ X nm scope) (hi:DI X tg iter fi) (hg:TGc X nm scope own tg is bd) (ht:∀ cl C s H fp,DTs (bw X nm scope own cl C s H fp) ifs t) (he:∀ cl C s H fp,DE (bw X nm scope own cl C s H fp) elt f)
  (hl:∀ i∈is,X.N.length≤i) (hj:X.N[j]?=some y:=by rfl) (hy:Loc X.env.scope y:=by first | exact Or.inl rfl | exact Or.inr rfl)
  (hsw:swapsWith (.ListComp elt [⟨tg,iter,ifs,0⟩] scope pos) (some (.Name y py)) spos.line X.env=pure true:=by rfl) (hs:∀ x,foldedSetIterable iter X.env x=pure x:=by intro _;rfl)
  (hf:X.fn y=true∨X.env.scope.names.lookup y=some .local:=by first | exact .inl rfl | exact .inr rfl | assumption):DS X (.Assign [.Name y py] (.ListComp elt [⟨tg,iter,ifs,0⟩] scope pos) spos) (Dm.sA j (Dm.cU fi own.length bd t f)):=by
 obtain ⟨g,h1,h2⟩:=hg.ex
 intro pins s σ H D I h
 exact iZ hN hj hy hc S hi h1 ht he hsw hs hf pins s σ H D I (wJ h2 (fun i hi=>by rw [I.len];exact hl i hi) (A5 h))
end
theorem pq {H0:Hp}:∀ {ds:List Dm.Dat} {bs:List Bool} {vs:List V},aJ H0 vs ds→Dm.bools ds=some bs→vs=bs.map V.bl
 | [],bs,vs,r,e=>by cases r;cases e;rfl
 | .bl b::ds,bs,vs,r,e=>by
  cases r with
  | cons r rs=>
   unfold Dm.bools at e
   cases q:Dm.bools ds with
   | none=>rw [q] at e;cases e
   | some cs=>
    rw [q] at e
    cases e
    cases Rep.sQ r
    rw [pq rs q]
    rfl
 | .non::ds,bs,vs,r,e=>by cases e
 | .int _::ds,bs,vs,r,e=>by cases e
 | .str _::ds,bs,vs,r,e=>by cases e
 | .tup _::ds,bs,vs,r,e=>by cases e
 | .lst _::ds,bs,vs,r,e=>by cases e
 | .dct _ _::ds,bs,vs,r,e=>by cases e
theorem IX:CallD (fun xs H Q=>∃ (a:Addr) (bs:List Bool),xs=[.ref a]∧Rd H a (.lst (bs.map V.bl))∧Q (.bl (bs.all id)) H) Dm.sP:=by
 intro H0 H vs ds z Q s rs e k
 unfold Dm.sP at e
 split at e
 ·split at e
  ·rename_i bs hb
   cases e
   cases rs with
   | cons r rr=>
    cases rr
    obtain ⟨a,us,rfl,qa,ra⟩:=bC s r
    have:=pq ra hb
    subst this
    exact ⟨a,bs,rfl,qa,k _ H0 H (aN.refl s) (.bl _)⟩
  ·cases e
 ·cases e
section
variable {X:Cx} {a b c e:Expr} {f:Dm.FE} {fs:List Dm.FE} {p p2 pos:Pos}
theorem GA (hc:X.calm=true) (hg:Gl X "all") (hm:X.mg "all" = none) (ha:DA X [e] fs) (he:starEach [e] X.env=[(false,eval e X.env)]:=by rfl) (hpl:(backTo pos (starEach [] X.env)).any (·.1)=false:=by rfl) :
  DE X (.Call (.Name "all" p) [e] [] pos) (Dm.eB Dm.sP fs):=wK (zT hc) IX (by rfl) hg hm ha (he:=he) (hpl:=hpl)
end
noncomputable def e_ (sc:Scope):List Str→List Str→Bool
 | [],[]=>true
 | x::N,y::nm=>(x == y||(sc.names.lookup y).isNone)&&e_ sc N nm
 | _,_=>false
theorem e_.len {sc:Scope}:∀ {N nm:List Str},e_ sc N nm=true→nm.length=N.length
 | [],[],_=>rfl
 | [],_::_,h=>by cases h
 | _::_,[],h=>by cases h
 | x::N,y::nm,h=>by
  rw [e_,Bool.and_eq_true] at h
  rw [List.length_cons,List.length_cons,e_.len h.2]
theorem e_.at {sc:Scope}:∀ {N nm:List Str},e_ sc N nm=true→∀ (i:Nat) (x:Str),nm[i]?=some x→N[i]?=some x∨sc.names.lookup x=none
 | [],[],_,i,x,e=>by simp at e
 | [],_::_,h,_,_,_=>by cases h
 | _::_,[],h,_,_,_=>by cases h
 | x::N,y::nm,h,0,z,e=>by
  rw [e_,Bool.and_eq_true,Bool.or_eq_true] at h
  simp at e
  subst e
  rcases h.1 with q | q
  ·have:x=y:=by simpa using q
   subst this
   exact .inl rfl
  ·exact .inr (by simpa using q)
 | x::N,y::nm,h,i+1,z,e=>by
  rw [e_,Bool.and_eq_true] at h
  rw [List.getElem?_cons_succ] at e ⊢
  exact e_.at h.2 i z e
noncomputable def pA (osc:Scope) (N nm:List Str) (sc:Scope):Bool:=
 sc.names.all (fun y=>y.2 != .cell)&&sc.names.all (fun y=>y.2 != .local||sc.names.lookup y.1 == some .local) &&
 sc.names.all (fun y=>y.2 != .free||(osc.names.lookup y.1 == some .cell||osc.names.lookup y.1 == some .free))&&nm.all (fun x=>sc.names.lookup x != some .local)&&e_ sc N nm
theorem fJ.of {X:Cx} {nm:List Str} {scope:Scope} (h:pA X.env.scope X.N nm scope=true) (hk:scope.kind=.function):fJ X nm scope:=by
 unfold pA at h
 simp only [Bool.and_eq_true,List.all_eq_true] at h
 obtain ⟨⟨⟨⟨h1,h2⟩,h3⟩,h4⟩,h5⟩:=h
 refine ⟨hk,fun y hy=>?_,fun y hy hl=>?_,fun y hy hf=>?_,fun x hx=>?_,e_.len h5,e_.at h5⟩
 ·have:=h1 y hy;simpa using this
 ·have:=h2 y hy
  rw [hl] at this
  simpa using this
 ·have:=h3 y hy
  rw [hf] at this
  have:(X.env.scope.names.lookup y.1 == some .cell||X.env.scope.names.lookup y.1 == some .free)=true:=by simpa using this
  rw [Bool.or_eq_true,beq_iff_eq,beq_iff_eq] at this
  exact this
 ·have:=h4 x hx;simpa using this
section
variable {X:Cx} {elt tg iter:Expr} {ifs:List Expr} {scope:Scope} {pos:Pos} {fi:Dm.FI} {bd:Dm.FB} {is:List Nat} {t:Dm.FT} {f:Dm.FE}
theorem uT {l:List Nat} {n:Nat} (h:(l.all fun i=>decide (n≤i))=true):∀ i∈l,n≤i:=fun i hi=>of_decide_eq_true (List.all_eq_true.mp h i hi)
theorem Bp (nm own:List Str) (hg:TGc X nm scope own tg is bd) (hi:DI X tg iter fi) (ht:∀ cl C s H fp,DTs (bw X nm scope own cl C s H fp) ifs t) (he:∀ cl C s H fp,DE (bw X nm scope own cl C s H fp) elt f)
  (hc:X.calm=true:=by rfl) (hk:scope.kind=.function:=by rfl) (hS:pA X.env.scope X.N nm scope=true:=by rfl) (hl:(is.all fun i=>decide (X.N.length≤i))=true:=by rfl) (hs:∀ x,foldedSetIterable iter X.env x=pure x:=by intro _;rfl) :
  DE X (.ListComp elt [⟨tg,iter,ifs,0⟩] scope pos) (Dm.cU fi own.length bd t f):=IV hc (fJ.of hS hk) hi hg ht he (uT hl) hs
theorem Ll (j:Nat) (nm own:List Str) {y:Str} {py spos:Pos} (hN:X.N.Nodup) (hg:TGc X nm scope own tg is bd) (hi:DI X tg iter fi) (ht:∀ cl C s H fp,DTs (bw X nm scope own cl C s H fp) ifs t) (he:∀ cl C s H fp,DE (bw X nm scope own cl C s H fp) elt f)
  (hc:X.calm=true:=by rfl) (hk:scope.kind=.function:=by rfl) (hS:pA X.env.scope X.N nm scope=true:=by rfl) (hl:(is.all fun i=>decide (X.N.length≤i))=true:=by rfl) (hj:X.N[j]?=some y:=by rfl) (hy:Loc X.env.scope y:=by first | exact Or.inl rfl | exact Or.inr rfl)
  (hsw:swapsWith (.ListComp elt [⟨tg,iter,ifs,0⟩] scope pos) (some (.Name y py)) spos.line X.env=pure true:=by rfl) (hs:∀ x,foldedSetIterable iter X.env x=pure x:=by intro _;rfl)
  (hf:X.fn y=true∨X.env.scope.names.lookup y=some .local:=by first | exact .inl rfl | exact .inr rfl | assumption):DS X (.Assign [.Name y py] (.ListComp elt [⟨tg,iter,ifs,0⟩] scope pos) spos) (Dm.sA j (Dm.cU fi own.length bd t f)):=
 IW j hN hc (fJ.of hS hk) hi hg ht he (uT hl) hj hy hsw hs hf
end
theorem PI.or {X:Cx} {tg it:Expr} {t t':TI} (h:PI X tg it t) (h':PI X tg it t'):PI X tg it (fun σ H R=>t σ H R∨t' σ H R):=fun pins s σ H R I q=>q.elim (h pins s σ H R I) (h' pins s σ H R I)
theorem Lm {K:PySem.W.Frag} {f:Dm.FE} {σ:L2.St} {H:Hp} {R:It→Hp→Prop} (h:tDI (Dm.iS f) σ H R):uA K (tD f) σ H R∨AG K (tD f) σ H R:=by
 obtain ⟨H0,ρ,ys,ρ',st,e,k⟩:=h
 unfold Dm.iS at e
 split at e
 ·cases e
 rename_i x ρ1 e1
 split at e
 ·rename_i ds ρ2 e2
  cases e
  exact .inl (MS ⟨H0,ρ,_,_,st,by unfold Dm.iL;rw [e1];dsimp only;rw [e2],k⟩)
 ·rename_i ds ρ2 e2
  cases e
  exact .inr (MT ⟨H0,ρ,_,_,st,by unfold Dm.iT;rw [e1];dsimp only;rw [e2],k⟩)
 ·cases e
theorem i_S {X:Cx} {tg e:Expr} {f:Dm.FE} (h:DE X e f):DI X tg e (Dm.iS f):=PI.weak (PI.or (yb h) (AH h)) fun _ _ _=>Lm
noncomputable def Bq (K:PySem.W.Frag):Bool:=K.all fun p=>match p.2.cls with | .type n=>n != "list" | _=>true
theorem lookup_mem {a:Addr} {o:Obj}:∀ {K:List (Addr×Obj)},K.lookup a=some o→(a,o)∈K
 | [],h=>by cases h
 | (b,x)::r,h=>by
  rw [List.lookup_cons] at h
  cases q:a == b with
  | true=>
   rw [q] at h
   cases h
   have:a=b:=by simpa using q
   rw [this]
   exact List.mem_cons_self
  | false=>
   rw [q] at h
   exact List.mem_cons_of_mem _ (lookup_mem h)
theorem IY {f:List Dm.Dat→Option Dm.RV} {K:PySem.W.Frag} {H:Hp} {a:Addr} {ns:List Int} {E:XK} (hf:f [.lst (ns.map Dm.Dat.int)]=some (.val (.bl true))) (hK:Bq K=true) (hS:SqL K H a (ns.map V.int)) :
  spD f [.ref a] H (fun v _=>v=.bl true) E:=by
 have hq:Rd H a (.lst (ns.map V.int)):=by
  rcases hS with h | ⟨o,its,n,hk,hc,_⟩
  ·exact h
  ·have:=List.all_eq_true.mp hK _ (lookup_mem hk)
   dsimp only at this
   rw [hc] at this
   exact absurd this (by decide)
 have hr:∀ ns:List Int,aJ H (ns.map V.int) (ns.map Dm.Dat.int):=fun ns=>by
  induction ns with
  | nil=>exact .nil
  | cons n ns ih=>exact .cons (.int n) ih
 exact ⟨H,_,_,az.refl _,.cons (.lst hq (hr ns)) .nil,hf,fun v H0' H' _ r=>Rep.sQ r⟩
end Br
namespace Dm
noncomputable def iRd (a b c:FE):FI:=fun ρ=>match a ρ with
 | some (.val (.int i),ρ1)=>(match b ρ1 with
  | some (.val (.int j),ρ2)=>(match c ρ2 with
   | some (.val (.int k),ρ3)=>if k=-1∧j≤BIG∧-BIG≤j∧i≤BIG∧-BIG≤i then some (downs i (i-j).toNat,ρ3) else none
   | _=>none)
  | _=>none)
 | _=>none
noncomputable def gO:Nat→List Dat→List Dat
 | _,[]=>[]
 | i,d::ds=>.tup [.int (i:Nat),d]::gO (i+1) ds
noncomputable def iEn (a:FE):FI:=fun ρ=>match a ρ with
 | none=>none
 | some (x,ρ1)=>match tk ρ1 x with
  | some (.lst ds,ρ2)=>some (gO 0 ds,ρ2)
  | _=>none
noncomputable def rJ:List Dat→Option RV
 | [.int j]=>if j≤1000000∧-1000000≤j then some (.new (.lst (ups 0 j.toNat))) else none
 | _=>none
end Dm
namespace Br
open PySem PySem.Spec PyProof.Rows L2
theorem zU {X:Cx} {pins:List (Addr×Obj)} {σ:L2.St} {H:Hp} {s:Shared} {h':Heap} {t':Nat} {fp:List Addr} {p:Addr} {o:HO} (I:Inv X pins σ H s) (hf:∀ b∈fp,sG X pins H b)
  (k:∀ b u,b∉fp→s.heap.get? b=some u→h'.get? b=some u) (hp:s.heap.objs.size≤p) (new:bu X.prog X.w (upd H p o) h' p o):Inv X pins σ (upd H p o) { s with heap:=h',toks:=t' }:=by
 have hn:H p=none:=I.hok.fresh hp
 have nf:∀ b u,H b=some u→b∉fp:=fun b u e z=>by rw [(hf b z).1] at e;cases e
 have nL:X.env.locals∉fp:=fun z=>(hf _ z).2.1 rfl
 refine I.step (g':=s.gens) (d':=s.drawn) (ch:=fp) (fun b hb=>?_) (fun b u _ _ hc e _=>k b u hc e) (fun b u _ _ hc e _=>⟨u.slots,k b u hc e⟩)
  (fun b u _ e n=>by rw [ay (Nat.ne_of_lt (Nat.lt_of_lt_of_le (Heap.lt_size e) hp))];exact n) (fun b u hc e=>⟨u,k b u hc e⟩)
  (fun b xs q=>by rw [ay (aM q hn)];exact q) (fun b u xs q=>by rw [ay (aM q hn)];exact q) (fun b ps q=>⟨#[],by rw [ay (aM q hn),q];simp⟩) (fun m hm=>?_) (fun b u e=>?_) I.bare
 ·obtain ⟨f0,f1,f2,f3,f4,f5⟩:=hf b hb
  exact ⟨f3,f1,f4,f5⟩
 ·obtain ⟨o,es,ep,ho,r⟩:=hm
  exact ⟨o,es,ep,k _ o nL ho,r⟩
 ·by_cases hb:b=p
  ·subst hb;rw [aE] at e;cases e;exact new
  ·rw [ay hb] at e
   refine (I.hok b u e).stay (fun c v hc q=>k c v ?_ q) (fun c q=>by rw [ay (aM q hn)];exact q) fun c xs q=>by rw [ay (aM q hn)];exact q
   rcases hc with z | z
   ·rw [z];exact nf b u e
   ·exact nf c _ z
section
variable {X:Cx} {tg l:Expr} {tl:TE} {p pos:Pos}
end
section
variable {X:Cx} {tg:Expr}
end
noncomputable def Ite (K:PySem.W.Frag) (a:Addr):It:=
 ⟨fun i H=>∃ xs x,SqL K H a xs∧xs[i]?=some x,fun i H x H'=>∃ p v,H p=none∧x=.ref p∧H'=upd H p (.tup [.int i,v])∧∀ xs,SqL K H a xs→xs[i]?=some v,fun i H=>∃ xs,SqL K H a xs∧xs.length≤i⟩
theorem zV {P:Program} {w:World} {K:PySem.W.Frag} {elts:List Expr} {x1} {tp:Pos} (a e it:Addr) (hne:e≠it):Turn P w K (.Tuple elts x1 tp) (Ite K a) [e,it] e (fun i h=>(∃ old,IsEnum h e it (i:Nat) old)∧h.IsListIter it a i) where
 mem:=by simp
 obj:=fun i h st b hb=>by
  obtain ⟨⟨old,he⟩,o,e1,c,d⟩:=st
  rcases List.mem_cons.mp hb with rfl | hb
  ·exact ⟨_,he,fun v z=>by
    have z':Data.fields _=Data.cell v:=z
    cases z'⟩
  ·have e2:b=it:=by simpa using hb
   subst e2
   exact ⟨o,e1,fun v z=>by rw [d] at z;cases z⟩
 keep:=fun i h h' st k=>⟨let ⟨old,he⟩:=st.1;⟨old,k e (by simp) _ he⟩,st.2.at fun o z=>k it (by simp) o z⟩
 item:=by
  intro X hP hw hK hc i pins s σ H E I hf st hg
  subst hP hw hK
  obtain ⟨xs,x,hq,hx⟩:=hg
  obtain ⟨its,rv,p,hz⟩:=I.list hq
  obtain ⟨u,hu,ru⟩:=rv.get hx
  obtain ⟨⟨old,he⟩,hit⟩:=st
  refine wpAny_pyNext_enum_item he hit p.isList (x:=u) (by simpa using hu) hne fun h1 heo M5 ht1 hz1 hk1=>?_
  refine ⟨_,rfl,wpAny_letOwnedTupleGo_enum heo fun h2 he2 hs2=>?_⟩
  have hlt:e<s.heap.objs.size:=Heap.lt_size he
  have ht2:h2.get? s.heap.objs.size=some { cls:=.type "tuple",data:=.seq #[.int i s.toks,u] }:=(hs2.2 _ (Nat.ne_of_gt hlt)).trans ht1
  have k2:∀ b o,b∉[e,it]→s.heap.get? b=some o→h2.get? b=some o:=fun b o hb z=>by
   have n1:b≠e:=fun y=>hb (by simp [y])
   have n2:b≠it:=fun y=>hb (by simp [y])
   exact (hs2.2 b n1).trans (hk1 b o n1 n2 z)
  have hn:H s.heap.objs.size=none:=I.hok.fresh (Nat.le_refl _)
  have I2:Inv X pins σ (upd H s.heap.objs.size (.tup [.int i,x])) { s with heap:=h2,toks:=s.toks+1 }:=
   zU I hf k2 (Nat.le_refl _) ⟨by simp [sizeLine],[.int i s.toks,u],.cons ⟨s.toks,rfl⟩ (.cons ru .nil),_,ht2,rfl,_,rfl⟩
  refine ⟨.ref s.heap.objs.size,_,I2,rfl,⟨_,x,hn,rfl,rfl,fun ys hy=>by rw [I.uy hy hq];exact hx⟩,⟨⟨u,?_⟩,?_⟩,fun b hb=>?_⟩
  ·have:(((i+1:Nat):Int))=(i:Int)+1:=by omega
   rw [this];exact he2
  ·exact M5.at fun o z=>(hs2.2 it (Ne.symm hne)).trans z
  ·have hb1:b≠s.heap.objs.size:=fun y=>by
    rcases List.mem_cons.mp hb with z | z
    ·rw [y] at z;exact absurd z (Nat.ne_of_gt hlt)
    ·have z':b=it:=by simpa using z
     obtain ⟨o,ho,_⟩:=hit
     have:=Heap.lt_size ho
     rw [← z',y] at this
     exact Nat.lt_irrefl _ this
   rw [ay hb1]
   exact (hf b hb).1
 done:=by
  intro X hP hw hK hc i pins s σ H E I hf st hg
  subst hP hw hK
  obtain ⟨xs,hq,hx⟩:=hg
  obtain ⟨its,rv,p,hz⟩:=I.list hq
  obtain ⟨f0,f1,f2,f3,f4,f5⟩:=hf it (by simp)
  obtain ⟨⟨old,he⟩,hit⟩:=st
  have hl:=rv.length
  exact wpAny_pyNext_enum_end (I.ok.hd hc) he hit p.isList (by simp;omega) fun h' eb=>⟨rfl,I.turned (t':=s.toks) (fun b o hb e=>eb b o hb e) f0 f1 f3 f4 f5⟩
 self:=fun A i s Q E st h=>by
  obtain ⟨⟨old,he⟩,hit⟩:=st
  have hT:s.TypeIs (.ref e) "enumerate" := ⟨_,he,rfl⟩
  refine wpAny_pyIter_slot hT F.slot_enumerate_iter (wpAny_call_entry F.slot_enumerate_iter hT F.entry_enumerate_iter ?_ (F.args_enumerate_iter_1 _))
  show wpAny _ _ (ret (.ref e)) _ _ s
  exact wpAny_pure ⟨_,rfl,"enumerate",_,hT,F.slot_enumerate_next.lookup,h⟩
noncomputable def Ln (K:PySem.W.Frag) (tl:TE):TI:=fun σ H R=>tl σ H fun x H1=>∃ a,x=.ref a∧(∃ xs,SqL K H1 a xs)∧R (Ite K a) H1
section
variable {X:Cx} {l:Expr} {tl:TE} {p pos:Pos} {elts:List Expr} {x1:Nat} {tp:Pos}
theorem Ey (hg:Gl X "enumerate") (hm:X.mg "enumerate" = none) (hl:PE X l tl) (hs:starEach [l] X.env=[(false,eval l X.env)]:=by rfl):PI X (.Tuple elts x1 tp) (.Call (.Name "enumerate" p) [l] [] pos) (Ln X.K tl):=by
 intro pins s σ H R I h
 refine Call_ (gp I hg hm boot_enumerate (PyProof.Rows.callWith_type1 (spliced_more ?_ (by rw [hs];rfl)) (by rw [hs];rfl) rfl))
 refine thn (hl pins s σ H _ I h) fun v s1 ⟨x,H1,I1,r1,q1⟩=>?_
 obtain ⟨a,e,⟨xs,hq⟩,q⟩:=q1
 subst e
 cases r1
 obtain ⟨its,rv,pl,hz⟩:=I1.list hq
 refine Calls.spliced_nil (call_enumerate_list pl.isList fun h' he hit hsz k=>?_)
 have I2:Inv X pins σ H1 { s1 with heap:=h' }:=I1.kept (t':=s1.toks) k
 have T:=zV (P:=X.prog) (w:=X.w) (K:=X.K) (elts:=elts) (x1:=x1) (tp:=tp) a (s1.heap.objs.size+1) s1.heap.objs.size (Nat.succ_ne_self _)
 refine T.self X.A 0 { s1 with heap:=h' } _ X.xe ⟨⟨_,he⟩,hit⟩ ?_
 refine ⟨s1.heap.objs.size+1,[s1.heap.objs.size+1,s1.heap.objs.size],_,_,H1,rfl,I2,T,⟨⟨_,he⟩,hit⟩,fun b hb=>?_,q⟩
 have:s1.heap.objs.size≤b:=by
  rcases List.mem_cons.mp hb with rfl | hb
  ·exact Nat.le_succ _
  ·have:b=s1.heap.objs.size:=by simpa using hb
   exact Nat.le_of_eq this.symm
 exact I1.DO this (I1.hok.fresh this)
end
section
variable {prog:Program} {w:World} {A:Around} {E:Value→Shared→Prop} {s:Shared}
end
theorem pB {P:Nat→Value→Prop} {acc:Array Value} {ys:List V} (h:ItemsOf P acc ys.length) (k:∀ i v,P i v→i<ys.length→∃ y,ys[i]?=some y∧RelV y v):Vals ys acc.toList:=by
 have:∀ (ys:List V) (us:List Value),ys.length=us.length→(∀ (i:Nat) (u:Value),us[i]?=some u→∃ y,ys[i]?=some y∧RelV y u)→Vals ys us:=by
  intro ys
  induction ys with
  | nil=>intro us e _;cases us with
   | nil=>exact .nil
   | cons _ _=>cases e
  | cons y ys ih=>intro us e f;cases us with
   | nil=>cases e
   | cons u us=>
    obtain ⟨y',h1,h2⟩:=f 0 u rfl
    cases h1
    exact .cons h2 (ih us (by simpa using e) fun i u' hu=>by simpa using f (i+1) u' (by simpa using hu))
 refine this ys acc.toList (by have:=h.1;simp only [Array.length_toList];exact this.symm) fun i u hu=>?_
 have hu':acc[i]?=some u:=by rw [← Array.getElem?_toList];exact hu
 have hi:i<ys.length:=by
  rw [← h.1]
  exact (Array.getElem?_eq_some_iff.mp hu').1
 exact k i u (h.2 i u hu') hi
noncomputable def Lo (ta:TA):TE:=fun σ H Q=>ta σ H fun vs H1=>∃ j:Int,vs=[.int j]∧-(2 ^ 62)≤j∧j≤1000000∧∀ q,H1 q=none→Q (.ref q) (upd H1 q (.lst ((List.range j.toNat).map fun i=>V.int (i:Nat))))
section
variable {X:Cx} {l a:Expr} {tl:TE} {ta:TA} {p pos p0 pC:Pos}
theorem Ez (hc:X.calm=true) (hgl:Gl X "list") (hml:X.mg "list" = none) (hg:Gl X "range") (hm:X.mg "range" = none) (ha:PA X [a] ta) (hs:starEach [a] X.env=[(false,eval a X.env)]:=by rfl)
  (hs0:starEach [.Call (.Name "range" p) [a] [] pos] X.env=[(false,eval (.Call (.Name "range" p) [a] [] pos) X.env)]:=by rfl) :
  PE X (.Call (.Name "list" p0) [.Call (.Name "range" p) [a] [] pos] [] pC) (Lo ta):=by
 intro pins s σ H Q I h
 refine wpAny_Call_Name_kw (gp I hgl hml boot_list (PyProof.Rows.callWith_type1 (spliced_more ?_ (by rw [hs0];rfl)) (by rw [hs0];rfl) rfl))
 refine Call_ (gp I hg hm boot_range (PyProof.Rows.callWith_type1 (thn (ha pos pins s σ H _ I h) fun us s1 ⟨vs,H1,I1,r1,q1⟩=>?_) hs rfl))
 obtain ⟨j,e,q1,q2,q⟩:=q1
 subst e
 cases r1 with
 | cons r rr=>
  cases rr
  obtain ⟨t,rfl⟩:=r
  refine call_range_1 (Calls.spliced_nil ?_)
  have hn:Builtin.Range.rangeSize 0 j 1=(j.toNat:Nat):=by rw [rangeSize_one];split<;>omega
  refine call_list_range (n:=j.toNat) (I.ok.hd hc) (IsRange.new ..) (small_one (by omega) (by omega) q1 (by omega)) hn (by omega) fun h' tk acc' c' hk hS' hacc=>?_
  have hsz:(s1.heap.push { cls:=.type "range",data:=.fields #[.int 0 s1.toks,.int j t,.int 1 (s1.toks+1)] }).objs.size=s1.heap.objs.size+1:=Heap.size_push ..
  have hp:s1.heap.objs.size≤(s1.heap.push { cls:=.type "range",data:=.fields #[.int 0 s1.toks,.int j t,.int 1 (s1.toks+1)] }).objs.size:=by rw [hsz];exact Nat.le_succ _
  have vl:Vals ((List.range j.toNat).map fun i=>V.int (i:Nat)) acc'.toList:=by
   refine pB (by rw [List.length_map,List.length_range];exact hacc) fun i v hv hi=>?_
   obtain ⟨t,rfl⟩:=hv
   rw [List.length_map,List.length_range] at hi
   refine ⟨.int (i:Nat),by rw [List.getElem?_map,List.getElem?_range hi];rfl,t,?_⟩
   have:(0:Int)+(i:Int)*1=i:=by omega
   rw [this]
  have ok:bu X.prog X.w (upd H1 (s1.heap.push { cls:=.type "range",data:=.fields #[.int 0 s1.toks,.int j t,.int 1 (s1.toks+1)] }).objs.size (.lst ((List.range j.toNat).map fun i=>V.int (i:Nat)))) h' (s1.heap.push { cls:=.type "range",data:=.fields #[.int 0 s1.toks,.int j t,.int 1 (s1.toks+1)] }).objs.size (.lst ((List.range j.toNat).map fun i=>V.int (i:Nat))):=
   ⟨by rw [List.length_map,List.length_range,sizeLine_eq];omega,acc'.toList,c',vl,by simpa using hS'⟩
  exact ⟨.ref _,_,I1.laid (t':=tk) (fun b u e=>hk b u (Heap.get?_push_of_some _ e)) hp ok,rfl,q _ (I1.hok.fresh hp)⟩
end
theorem uU:∀ (ds:List Dm.Dat) (i:Nat),(Dm.gO i ds).length=ds.length
 | [],_=>rfl
 | _::ds,i=>by simp [Dm.gO,uU ds]
theorem uV:∀ (ds:List Dm.Dat) (i j:Nat) (d:Dm.Dat),(Dm.gO i ds)[j]?=some d→∃ x,ds[j]?=some x∧d=.tup [.int ((i+j:Nat):Int),x]
 | [],_,_,_,h=>by cases h
 | x::ds,i,0,d,h=>by cases h;exact ⟨x,rfl,rfl⟩
 | x::ds,i,j+1,d,h=>by
  obtain ⟨y,h1,h2⟩:=uV ds (i+1) j d h
  refine ⟨y,h1,?_⟩
  rw [h2]
  have:i+1+j=i+(j+1):=by omega
  rw [this]
theorem EA {K:PySem.W.Frag} {H0:Hp} {a:Addr} {xs:List V} {ds:List Dm.Dat} (hq:Rd H0 a (.lst xs)) (rs:aJ H0 xs ds):JW (Ite K a) H0 (Dm.gO 0 ds):=by
 intro H0' H s0 s1
 have q:SqL K H a xs:=.inl (az.rd s1 (az.rd s0 hq))
 refine ⟨fun i hi=>⟨xs,q,by rw [rs.length,← uU ds 0];exact hi⟩,fun i d e=>?_⟩
 obtain ⟨d',hd,rfl⟩:=uV ds 0 i d e
 obtain ⟨v,hv,rv⟩:=rs.get hd
 refine ⟨⟨xs,v,q,hv⟩,fun x H' y=>?_⟩
 obtain ⟨p,v',hn,rfl,rfl,y⟩:=y
 have z:=y xs q
 rw [hv] at z
 cases z
 have g:=aN.zK (o:=HO.tup [.int i,v]) s1 hn
 refine ⟨_,g,.tup aE (.cons ?_ (.cons ((rv.mono s0).mono g.s0) .nil))⟩
 rw [Nat.zero_add]
 exact .int _
section
variable {σ:L2.St} {H:Hp} {R:It→Hp→Prop}
theorem Lp {K:PySem.W.Frag} {f:Dm.FE} (h:tDI (Dm.iEn f) σ H R):Ln K (tD f) σ H R:=by
 obtain ⟨H0,ρ,ys,ρ',st,e,k⟩:=h
 unfold Dm.iEn at e
 split at e
 ·cases e
 rename_i x ρ1 e1
 split at e
 ·rename_i ds ρ2 e2
  cases e
  refine ⟨H0,ρ,_,ρ1,st,e1,fun v H0' H' t r=>?_⟩
  obtain ⟨H1,t1,b1,r1,_,_⟩:=take1 t (az.refl _) r e2
  cases r1 with
  | lst q rs=>exact ⟨_,rfl,⟨_,.inl (az.rd t1.st.same q)⟩,k _ H1 H' t1 (EA q rs)⟩
 ·cases e
end
theorem Bs {H:Hp}:∀ (n:Nat) ,aJ H ((List.range n).map fun i=>V.int (i:Nat)) (Dm.ups 0 n):=by
 intro n
 unfold Dm.ups
 have:∀ l:List Nat,aJ H (l.map fun i=>V.int (i:Nat)) (l.map fun i=>Dm.Dat.int (0+(i:Nat))):=fun l=>by
  induction l with
  | nil=>exact .nil
  | cons x l ih=>rw [List.map_cons,List.map_cons,Int.zero_add];exact .cons (.int _) ih
 exact this _
theorem EB:CallD (fun xs H Q=>∃ j:Int,xs=[.int j]∧-(2 ^ 62)≤j∧j≤1000000∧∀ q,H q=none→Q (.ref q) (upd H q (.lst ((List.range j.toNat).map fun i=>V.int (i:Nat))))) Dm.rJ:=by
 intro H0 H xs ds z Q s rx e k
 unfold Dm.rJ at e
 split at e
 ·rename_i j
  split at e
  ·rename_i hb
   cases e
   cases rx with
   | cons r rr=>
    cases rr
    cases aH r
    exact ⟨j,rfl,by omega,hb.1,fun p hp=>k _ _ _ (aN.uO s hp) ⟨p,rfl,hp,s.free hp,_,aE,Bs _⟩⟩
  ·cases e
 ·cases e
section
variable {X:Cx} {tg e a b c:Expr} {f fa fb fc:Dm.FE} {p pos p0 pC:Pos} {elts:List Expr} {x1:Nat} {tp:Pos}
theorem IZ (hg:Gl X "enumerate") (hm:X.mg "enumerate" = none) (h:DE X e f) (hs:starEach [e] X.env=[(false,eval e X.env)]:=by rfl):DI X (.Tuple elts x1 tp) (.Call (.Name "enumerate" p) [e] [] pos) (Dm.iEn f):=PI.weak (Ey hg hm h hs) fun _ _ _=>Lp
theorem I0 (hc:X.calm=true) (hgl:Gl X "list") (hml:X.mg "list" = none) (hg:Gl X "range") (hm:X.mg "range" = none) (h:DA X [a] [fa]) (hs:starEach [a] X.env=[(false,eval a X.env)]:=by rfl)
  (hs0:starEach [.Call (.Name "range" p) [a] [] pos] X.env=[(false,eval (.Call (.Name "range" p) [a] [] pos) X.env)]:=by rfl) :
  DE X (.Call (.Name "list" p0) [.Call (.Name "range" p) [a] [] pos] [] pC) (Dm.eB Dm.rJ [fa]):=PE.weak (Ez hc hgl hml hg hm h hs hs0) fun _ _ _=>Eb EB
end
end Br
namespace Dm
noncomputable def bQ (i:Nat) (own:Nat) (bd:FB) (t:FT) (el:FE):FE:=fun ρ=>match ρ[i]? with
 | some (.ow (.lst ds))=>if ds.length≤SZ then (match fX bd t el ds (ρ.set i .un++List.replicate own .un) [] with
  | none=>none
  | some (ys,ρ2)=>some (.new (.lst ys),(ρ2.take ρ.length).set i (.ow (.lst ds)))) else none
 | _=>cU (iS (eV i)) own bd t el ρ
end Dm
namespace Br
open PySem PySem.Spec PyProof.Rows L2
theorem Bt {K:PySem.W.Frag} {H0:Hp} {a:Addr} {xs:List V} {ds:List Dm.Dat} (rs:aJ H0 xs ds):JWa (Itl K a) H0 (some (a,.lst xs)) ds:=by
 intro H0' H s0 s1 hq
 have hq:=hq _ rfl
 have q:SqL K H a xs:=.inl (.inl hq)
 refine ⟨fun i hi=>⟨xs,q,by rw [rs.length];exact hi⟩,fun i d e=>?_⟩
 obtain ⟨v,hv,rv⟩:=rs.get e
 refine ⟨⟨xs,v,q,hv⟩,fun x H' y=>?_⟩
 obtain ⟨e1,y⟩:=y
 subst e1
 have z:=y xs q
 rw [hv] at z
 cases z
 exact ⟨H0',aN.refl s1,rv.mono s0⟩
theorem yu {K:PySem.W.Frag} {σ:L2.St} {H:Hp} {i own:Nat} {bd:Dm.FB} {g:TG} {t:Dm.FT} {el:Dm.FE} {is:List Nat} {Q:VK} (hb:BD is g bd) (hl:∀ i∈is,σ.length≤i) (h:tD (Dm.bQ i own bd t el) σ H Q) :
  tLC (fun σ H R=>uA K (tD (Dm.eV i)) σ H R∨AG K (tD (Dm.eV i)) σ H R) own g (tDT t) (tD el) σ H Q:=by
 obtain ⟨H0,ρ,x,ρ',st,e,k⟩:=h
 unfold Dm.bQ at e
 split at e
 ·rename_i ds eo
  split at e
  case isFalse=>cases e
  rename_i hsz
  split at e
  ·cases e
  rename_i ys ρ2 e2
  cases e
  refine .inl ⟨H0,ρ,.slot i,ρ,st,by unfold Dm.eV;rw [eo],fun v H0' H' t1 r=>?_⟩
  obtain ⟨a,qa,na,xs,ha,rs⟩:=t1.st.ow i _ eo
  obtain ⟨r1,_⟩:=r
  rw [qa] at r1
  cases r1
  have nO:¬ au σ (ρ.set i .un) a:=fun z=>by
   obtain ⟨j,d,hj,h1,h2⟩:=e8 z
   exact hj (t1.st.dis j i d _ a h1 eo h2 qa)
  have hlt:i<ρ.length:=(List.getElem?_eq_some_iff.mp eo).1
  refine ⟨a,rfl,⟨xs,.inl (.inl ha)⟩,fun D hD=>uR hb hl (t1.st.mask i) (fun q e=>by cases e;exact ⟨ha,na,nO⟩) (Bt rs) hsz e2 (fun v H1 Hc t2 r2 hpa=>?_) D hD⟩
  obtain ⟨ha2,na2⟩:=hpa _ rfl
  rw [List.length_set] at t2 r2
  have oo:∀ b,au σ ((ρ2.take ρ.length).set i (.ow (.lst ds))) b→b=a∨au σ (ρ2.take ρ.length) b:=fun b ⟨j,d,h1,h2⟩=>by
   by_cases q:i=j
   ·subst q;rw [qa] at h2;cases h2;exact .inl rfl
   ·rw [List.getElem?_set_ne q] at h1;exact .inr ⟨j,d,h1,h2⟩
  have om:∀ b,au σ (ρ.set i .un) b→au σ ρ b:=fun b z=>by
   obtain ⟨j,d,hj,h1,h2⟩:=e8 z
   exact ⟨j,d,h1,h2⟩
  have oa:au σ ρ a:=⟨i,_,eo,qa⟩
  have nO2:¬ au σ (ρ2.take ρ.length) a:=fun z=>nO (t2.own a z)
  have zW:(ρ2.take ρ.length).length=ρ.length:=by rw [← t2.st.len,st.len]
  refine k v H1 Hc (t1.trans ⟨⟨t2.st.same,by rw [List.length_set];exact t2.st.len,fun j d h=>?_,fun j d h=>?_,fun j j' d d' b h1 h2 h3 h4=>?_⟩,t2.stp.wide om,fun b z=>?_,fun j z=>?_⟩) ?_
  ·by_cases q:i=j
   ·subst q;rw [List.getElem?_set_self (by rw [zW];exact hlt)] at h;cases h
   ·rw [List.getElem?_set_ne q] at h;exact t2.st.sh j d h
  ·by_cases q:i=j
   ·subst q
    rw [List.getElem?_set_self (by rw [zW];exact hlt)] at h
    cases h
    exact ⟨a,qa,na2,xs,ha2,rs.mono t2.stp.s0⟩
   ·rw [List.getElem?_set_ne q] at h;exact t2.st.ow j d h
  ·by_cases q:i=j
   ·subst q
    by_cases q':i=j'
    ·exact q'
    ·rw [List.getElem?_set_ne q'] at h2
     rw [qa] at h3;cases h3
     exact absurd ⟨j',d',h2,h4⟩ nO2
   ·rw [List.getElem?_set_ne q] at h1
    by_cases q':i=j'
    ·subst q'
     rw [qa] at h4;cases h4
     exact absurd ⟨j,d,h1,h3⟩ nO2
    ·rw [List.getElem?_set_ne q'] at h2
     exact t2.st.dis j j' d d' b h1 h2 h3 h4
  ·rcases oo b z with rfl | z
   ·exact oa
   ·exact om b (t2.own b z)
  ·trivial
  ·obtain ⟨D',e',n',no',n0',w'⟩:=r2
   refine ⟨D',e',t1.stp.gone n',fun z=>?_,n0',w'⟩
   rcases oo D' z with rfl | z
   ·rw [n'] at ha;cases ha
   ·exact no' z
 ·have h2:=wJ (fi:=Dm.iS (Dm.eV i)) hb hl ⟨H0,ρ,x,ρ',st,e,k⟩
  exact Lm h2
section
variable {X:Cx} {elt tg:Expr} {ifs:List Expr} {scope:Scope} {pos px:Pos} {bd:Dm.FB} {is:List Nat} {t:Dm.FT} {f:Dm.FE} {x:Str}
theorem i_M (i:Nat) (h:DE X (.Name x px) (Dm.eV i)):PI X tg (.Name x px) (fun σ H R=>uA X.K (tD (Dm.eV i)) σ H R∨AG X.K (tD (Dm.eV i)) σ H R):=PI.or (yb h) (AH h)
theorem rK (i:Nat) (nm own:List Str) (hg:TGc X nm scope own tg is bd) (hi:DE X (.Name x px) (Dm.eV i)) (ht:∀ cl C s H fp,DTs (bw X nm scope own cl C s H fp) ifs t) (he:∀ cl C s H fp,DE (bw X nm scope own cl C s H fp) elt f)
  (hc:X.calm=true:=by rfl) (hk:scope.kind=.function:=by rfl) (hS:pA X.env.scope X.N nm scope=true:=by rfl) (hl:(is.all fun i=>decide (X.N.length≤i))=true:=by rfl) (hs:∀ y,foldedSetIterable (.Name x px) X.env y=pure y:=by intro _;rfl) :
  DE X (.ListComp elt [⟨tg,.Name x px,ifs,0⟩] scope pos) (Dm.bQ i own.length bd t f):=by
 obtain ⟨g,h1,h2⟩:=hg.ex
 intro pins s σ H Q I h
 exact yp hc (fJ.of hS hk) (i_M i hi) h1 ht he hs pins s σ H Q I (yu h2 (fun i hi=>by rw [I.len];exact uT hl i hi) h)
theorem Lq (j i:Nat) (nm own:List Str) {y:Str} {py spos:Pos} (hN:X.N.Nodup) (hg:TGc X nm scope own tg is bd) (hi:DE X (.Name x px) (Dm.eV i)) (ht:∀ cl C s H fp,DTs (bw X nm scope own cl C s H fp) ifs t) (he:∀ cl C s H fp,DE (bw X nm scope own cl C s H fp) elt f)
  (hc:X.calm=true:=by rfl) (hk:scope.kind=.function:=by rfl) (hS:pA X.env.scope X.N nm scope=true:=by rfl) (hl:(is.all fun i=>decide (X.N.length≤i))=true:=by rfl) (hj:X.N[j]?=some y:=by rfl) (hy:Loc X.env.scope y:=by first | exact Or.inl rfl | exact Or.inr rfl)
  (hsw:swapsWith (.ListComp elt [⟨tg,.Name x px,ifs,0⟩] scope pos) (some (.Name y py)) spos.line X.env=pure true:=by rfl) (hs:∀ y,foldedSetIterable (.Name x px) X.env y=pure y:=by intro _;rfl)
  (hf:X.fn y=true∨X.env.scope.names.lookup y=some .local:=by first | exact .inl rfl | exact .inr rfl | assumption):DS X (.Assign [.Name y py] (.ListComp elt [⟨tg,.Name x px,ifs,0⟩] scope pos) spos) (Dm.sA j (Dm.bQ i own.length bd t f)):=by
 obtain ⟨g,h1,h2⟩:=hg.ex
 intro pins s σ H D I h
 exact iZ hN hj hy hc (fJ.of hS hk) (i_M i hi) h1 ht he hsw hs hf pins s σ H D I (yu h2 (fun i hi=>by rw [I.len];exact uT hl i hi) (A5 h))
end
end Br
namespace Dm
end Dm
namespace Br
open PySem PySem.Spec PyProof.Rows L2
section
variable {X:Cx} {l l':Expr} {ta:TA} {p pos:Pos} {elts:List Expr} {x1:Nat} {tp:Pos}
end
section
variable {σ:L2.St} {H:Hp} {R:It→Hp→Prop}
end
section
variable {X:Cx} {a b:Expr} {fa fb:Dm.FE} {p pos:Pos} {elts:List Expr} {x1:Nat} {tp:Pos}
end
end Br
namespace Dm
noncomputable def fnM (n m:Nat) (body:FS) (ds:List Dat):Option (RV×Dat):=if ds.length=n then (match ds with
 | d::r=>(match body (Cell.ow d::(r.map Cell.sh++List.replicate m .un)) with
  | some (.ret z ρ')=>(match ρ'[0]? with
   | some (Cell.ow d')=>some (z,d')
   | _=>none)
  | some (.nx ρ')=>(match ρ'[0]? with
   | some (Cell.ow d')=>some (.val .non,d')
   | _=>none)
  | _=>none)
 | []=>none) else none
noncomputable def flat:Dat→Bool
 | .tup xs=>xs.all fun x=>!fy x
 | d=>!fy d
noncomputable def wM:Dat→Bool
 | .lst xs=>xs.all fun x=>!fy x
 | _=>false
noncomputable def eFm (f:List Dat→Option (RV×Dat)) (j:Nat) (as:List FE):FE:=fun ρ=>match ρ[j]? with
 | some (.ow _)=>(match eAs as ρ with
  | none=>none
  | some (xs,ρ1)=>(match ρ1[j]? with
   | some (.ow d1)=>(match tks ρ1 xs with
    | none=>none
    | some (ds,ρ2)=>(match ρ2[j]? with
     | some (.ow d)=>(match f (d::ds) with
      | none=>none
      | some (v,d')=>if flat v.dat&&wM d' then some (v.bG,ρ1.set j (.ow d')) else some (v.bG,ρ2.set j (.ow d')))
     | _=>none))
   | _=>none))
 | _=>none
end Dm
namespace Br
open PySem PySem.Spec PyProof.Rows L2
noncomputable def spM (f:List Dm.Dat→Option (Dm.RV×Dm.Dat)):Sp:=fun vs H Q _=>∃ H0 a us d ds z d',vs=V.ref a::us∧az H0 H∧H0 a=none∧Own H0 H a d∧aJ H0 us ds∧f (d::ds)=some (z,d') ∧
 ∀ v H0' H',Stp (fun b=>b=a) H0 H H0' H'→az H0' H'→H0' a=none→Own H0' H' a d'→uP H H0' H' v z→Q v H'
theorem lJ {n m:Nat} {body:Dm.FS} {vs:List V} {H:Hp} {Q:VK} {E:XK} (h:spM (Dm.fnM n m body) vs H Q E):vs.length=n:=by
 obtain ⟨H0,a,us,d,ds,z,d',e,_,_,_,rs,ef,_⟩:=h
 unfold Dm.fnM at ef
 split at ef
 ·rename_i hl
  rw [e,List.length_cons,rs.length]
  simpa using hl
 ·cases ef
theorem aB.mX {H0 H:Hp} {σ:L2.St} {ρ:Dm.Env} {j:Nat} {a:Addr} {d:Dm.Dat} (st:aB H0 H σ ρ) (q:σ[j]?=some (some (V.ref a))) (no:¬ au σ ρ a) (n0:H0 a=none) (w:Own H0 H a d):aB H0 H σ (ρ.set j (.ow d)):=by
 have:=st.A4 (i:=j) no n0 w
 have e:σ.set j (some (V.ref a))=σ:=by
  apply List.ext_getElem?
  intro i
  by_cases h:j=i
  ·subst h
   have hl:j<σ.length:=(List.getElem?_eq_some_iff.mp q).1
   rw [List.getElem?_set_self hl,q]
  ·rw [List.getElem?_set_ne h]
 rw [e] at this
 exact this
theorem aB.off {H0 H H0' H':Hp} {σ:L2.St} {ρ:Dm.Env} {a:Addr} (st:aB H0 H σ ρ) (s0:az H0 H0') (ss:az H0' H') (no:¬ au σ ρ a) (s1:∀ b o,H b=some o→b≠a→H' b=some o) (s2:∀ (i:Nat) (d:Dm.Dat) (b:Addr),ρ[i]?=some (Dm.Cell.ow d)→σ[i]?=some (some (V.ref b))→H0' b=none):aB H0' H' σ ρ where
 same:=ss
 len:=st.len
 sh:=fun i d e=>by
  obtain ⟨v,q,r⟩:=st.sh i d e
  exact ⟨v,q,r.mono s0⟩
 ow:=fun i d e=>by
  obtain ⟨b,q,n,w⟩:=st.ow i d e
  obtain ⟨o,z⟩:=w.some
  have nb:b≠a:=fun y=>no ⟨i,d,e,y▸q⟩
  exact ⟨b,q,s2 i d b e q,w.mono s0 ((s1 b o z nb).trans z.symm)⟩
 dis:=st.dis
theorem g_ {H0 H1:Hp}:∀ {xs:List V} {ds:List Dm.Dat},aJ H0 xs ds→(ds.all fun x=>!Dm.fy x)=true→aJ H1 xs ds
 | _,_,.nil,_=>.nil
 | _,_,.cons r rs,h=>by
  rw [List.all_cons,Bool.and_eq_true] at h
  exact .cons (Rep.plain r (by simpa using h.1)) (g_ rs h.2)
section
variable {σ:L2.St} {H:Hp} {Q:VK}
theorem EC {f:List Dm.Dat→Option (Dm.RV×Dm.Dat)} {j:Nat} {fs:List Dm.FE} {E:XK} (h:tD (Dm.eFm f j fs) σ H Q):uC (spM f) [] E (tDA (Dm.eV j::fs)) σ H Q:=by
 obtain ⟨H0,ρ,x,ρ',st,e,k⟩:=h
 unfold Dm.eFm at e
 split at e
 case h_2=>cases e
 rename_i d0 h0
 split at e
 ·cases e
 rename_i xs ρ1 e1
 split at e
 case h_2=>cases e
 rename_i d1 h1
 split at e
 ·cases e
 rename_i ds ρ2 e2
 split at e
 case h_2=>cases e
 rename_i d h2
 split at e
 ·cases e
 rename_i z d' fz
 have ea:Dm.eAs (Dm.eV j::fs) ρ=some (.slot j::xs,ρ1):=by
  unfold Dm.eAs
  rw [show Dm.eV j ρ=some (.slot j,ρ) from by unfold Dm.eV;rw [h0]]
  dsimp only
  rw [e1]
 refine ⟨H0,ρ,.slot j::xs,ρ1,st,ea,fun vs H1 Hb t1 r1=>?_⟩
 dsimp only
 rw [List.append_nil]
 cases r1 with
 | cons r0 rr=>
  obtain ⟨H2,t2,b2,r2⟩:=takes t1 (az.refl _) rr e2
  obtain ⟨a,qa,na,wa⟩:=t2.st.ow j d h2
  obtain ⟨q0,_⟩:=r0
  rw [qa] at q0
  cases q0
  obtain ⟨a1,qa1,na1,wa1⟩:=t1.st.ow j d1 h1
  rw [qa] at qa1
  cases qa1
  obtain ⟨oa,ha⟩:=wa.some
  have hl2:j<ρ2.length:=(List.getElem?_eq_some_iff.mp h2).1
  have hl1:j<ρ1.length:=(List.getElem?_eq_some_iff.mp h1).1
  have oa0:au σ ρ a:=t1.own a ⟨j,d1,h1,qa⟩
  refine ⟨H2,a,_,d,ds,z,d',rfl,t2.st.same,na,wa,r2,fz,fun v H3 Hd s3 ss n3 w3 r3=>?_⟩
  have no2:¬ au σ (ρ2.set j .un) a:=fun y=>by
   obtain ⟨i,d4,hi,y1,y2⟩:=e8 y
   exact hi (t2.st.dis i j d4 d a y1 h2 y2 qa)
  have no1:¬ au σ (ρ1.set j .un) a:=fun y=>by
   obtain ⟨i,d4,hi,y1,y2⟩:=e8 y
   exact hi (t1.st.dis i j d4 d1 a y1 h1 y2 qa)
  split at e
  ·rename_i fl
   cases e
   rw [Bool.and_eq_true] at fl
   obtain ⟨f1,f2⟩:=fl
   have wp:∀ H',Own H' Hd a d':=fun H'=>by
    cases d' with
    | lst ys=>
     obtain ⟨us,y1,y2⟩:=w3
     exact ⟨us,y1,g_ y2 f2⟩
    | _=>cases f2
   have fin:∀ H1':Hp,az H1 H1'→az H1' Hd→(∀ b o,H1' b=some o→H1 b=some o∨((∃ us,o=.tup us)∧H3 b=some o))→iX H H1' Hd σ (ρ1.set j (.ow d')) v z.bG→Q v Hd:=fun H1' m1 m2 m3 rv=>by
    have hd3:∀ b,H1' b≠none→b≠a:=fun b hb y=>by
     subst y
     cases y2:H1' b with
     | none=>exact hb y2
     | some o=>
      rcases m3 b o y2 with y3 | ⟨_,y3⟩
      ·rw [na1] at y3;cases y3
      ·rw [n3] at y3;cases y3
    have n1':H1' a=none:=by
     cases y:H1' a with
     | none=>rfl
     | some o=>exact absurd rfl (hd3 a (by rw [y];exact fun q=>nomatch q))
    have sm:aB H1' Hd σ (ρ1.set j .un):=by
     refine (t1.st.mask j).off m1 m2 no1 (fun b o y nb=>s3.s1 b o y nb) fun i d4 b y1 y2=>?_
     obtain ⟨b',q',nb',w'⟩:=(t1.st.mask j).ow i d4 y1
     rw [y2] at q'
     cases q'
     cases y:H1' b with
     | none=>rfl
     | some o=>
      rcases m3 b o y with y3 | ⟨⟨us,y4⟩,y3⟩
      ·rw [nb'] at y3;cases y3
      ·subst y4
       have nb:b≠a:=hd3 b (by rw [y];exact fun q=>nomatch q)
       cases d4 with
       | lst _=>
        obtain ⟨ws,z1,_⟩:=w'
        have z2:=s3.s1 b _ z1 nb
        rw [ss _ _ y3] at z2
        cases z2
       | dct _ _=>
        obtain ⟨ws,z1,_⟩:=w'
        have z2:=s3.s1 b _ z1 nb
        rw [ss _ _ y3] at z2
        cases z2
       | _=>exact False.elim w'
    have sf:aB H1' Hd σ (ρ1.set j (.ow d')):=by
     have:=sm.mX qa no1 n1' (wp H1')
     rw [List.set_set] at this
     exact this
    refine k v H1' Hd ⟨sf,⟨t1.stp.s0.trans m1,fun b o y nb=>?_,fun b o y=>?_,fun b o y=>?_⟩,fun b y=>?_,fun i y=>?_⟩ rv
    ·have y1:=t1.stp.s1 b o y nb
     exact s3.s1 b o y1 fun q=>nb (by rw [q];exact oa0)
    ·rcases m3 b o y with y3 | ⟨_,y3⟩
     ·exact t1.stp.s2 b o y3
     ·rcases s3.s2 b o y3 with y4 | y4 | y4
      ·exact .inl (t1.stp.gone y4)
      ·exact t2.stp.s2 b o y4
      ·subst y4;rw [n3] at y3;cases y3
    ·obtain ⟨o',y1⟩:=t1.stp.s3 b o y
     exact s3.s3 b o' y1
    ·obtain ⟨i,d4,y1,y2⟩:=y
     by_cases hi:j=i
     ·subst hi
      rw [qa] at y2
      cases y2
      exact oa0
     ·rw [List.getElem?_set_ne hi] at y1
      exact t1.own b ⟨i,d4,y1,y2⟩
    ·trivial
   have m0:az H1 Hd:=fun b o y=>s3.s1 b o (t1.st.same _ _ y) fun q=>by rw [q,na1] at y;cases y
   cases z with
   | new d4=>
    obtain ⟨_,_,_,_,w⟩:=r3
    cases d4 with
    | lst _=>cases f1
    | dct _ _=>cases f1
    | _=>exact False.elim w
   | val d4=>
    have r3':Rep H3 v d4:=r3
    cases d4 with
    | tup es=>
     cases r3' with
     | tup q rs=>
      rename_i a2 us
      have rp:aJ H1 us es:=g_ rs f1
      refine fin (upd H1 a2 (.tup us)) (fun b o y=>?_) (fun b o y=>?_) (fun b o y=>?_) (.tup aE (g_ rs f1))
      ·by_cases hb:b=a2
       ·subst hb
        have:=s3.s0 _ _ (b2 _ _ y)
        rw [q] at this
        rw [aE,this]
       ·rw [ay hb];exact y
      ·by_cases hb:b=a2
       ·subst hb
        rw [aE] at y
        cases y
        exact ss _ _ q
       ·rw [ay hb] at y;exact m0 _ _ y
      ·by_cases hb:b=a2
       ·subst hb
        rw [aE] at y
        cases y
        exact .inr ⟨⟨us,rfl⟩,q⟩
       ·rw [ay hb] at y;exact .inl y
    | lst _=>cases f1
    | dct _ _=>cases f1
    | exc _=>cases f1
    | fn _=>exact fin H1 (az.refl _) m0 (fun b o y=>.inl y) (Rep.plain r3' rfl)
    | non=>exact fin H1 (az.refl _) m0 (fun b o y=>.inl y) (Rep.plain r3' rfl)
    | bl _=>exact fin H1 (az.refl _) m0 (fun b o y=>.inl y) (Rep.plain r3' rfl)
    | int _=>exact fin H1 (az.refl _) m0 (fun b o y=>.inl y) (Rep.plain r3' rfl)
    | str _=>exact fin H1 (az.refl _) m0 (fun b o y=>.inl y) (Rep.plain r3' rfl)
  ·cases e
   have sm:aB H3 Hd σ (ρ2.set j .un):=by
    refine (t2.st.mask j).off s3.s0 ss no2 (fun b o y nb=>s3.s1 b o y nb) fun i d4 b y1 y2=>?_
    obtain ⟨b',q',nb',w'⟩:=(t2.st.mask j).ow i d4 y1
    rw [y2] at q'
    cases q'
    obtain ⟨ob,hob⟩:=w'.some
    cases y:H3 b with
    | none=>rfl
    | some o=>
     rcases s3.s2 b o y with y3 | y3 | y3
     ·rw [hob] at y3;cases y3
     ·rw [nb'] at y3;cases y3
     ·exact absurd ⟨i,d4,y1,y3▸y2⟩ no2
   have sf:aB H3 Hd σ (ρ2.set j (.ow d')):=by
    have:=sm.mX qa no2 n3 w3
    rw [List.set_set] at this
    exact this
   have of:∀ b,au σ (ρ2.set j (.ow d')) b→b=a∨au σ ρ2 b:=fun b ⟨i,d4,y1,y2⟩=>by
    by_cases hi:j=i
    ·subst hi
     rw [qa] at y2
     cases y2
     exact .inl rfl
    ·rw [List.getElem?_set_ne hi] at y1
     exact .inr ⟨i,d4,y1,y2⟩
   refine k v H3 Hd ⟨sf,t2.stp.trans s3 (fun b y=>.inl (y▸oa0)),fun b y=>?_,fun i y=>?_⟩ ?_
   ·rcases of b y with y | y
    ·exact y▸oa0
    ·exact t2.own b y
   ·trivial
   ·cases z with
    | val d4=>exact r3
    | new d4=>
     obtain ⟨b,y0,y1,y2,y3⟩:=r3
     refine ⟨b,y0,t2.stp.gone y1,fun y=>?_,y2,y3⟩
     rcases of b y with y | y
     ·subst y;rw [ha] at y1;cases y1
     ·exact t2.st.dh y1 y
end
theorem aR {X:Cx} {es:List Expr} {p pos px:Pos} {k:Nat} {F:Addr} {fd:FuncData} {ps:List Str} {g:List Dm.Dat→Option (Dm.RV×Dm.Dat)} {x y:Str} {j:Nat} {fs:List Dm.FE} (G:aW X.prog X.w X.K X.mg X.base CX0 k F fd ps (spM g)) (hr:bL k X.A) (hg:Gl X x) (hm:X.mg x=some (.ref F)) (hk:PySem.W.keepIn X.K (.ref F)=true) (hb:Binds X.K fd ps [])
  (ha:DA X (.Name y px::es) (Dm.eV j::fs)) (hdb:(x == ("__debug__" : Str))=false:=by decide) (he:starEach (.Name y px::es) X.env=(false,eval (.Name y px) X.env)::starEach es X.env:=by rfl) (hpl:(backTo pos (starEach es X.env)).any (·.1)=false:=by rfl) :
  DE X (.Call (.Name x p) (.Name y px::es) [] pos) (Dm.eFm g j fs):=PE.weak (oE G hr hg hm hk hb .nil (yj (X:=X)) ha hdb he hpl) fun _ _ _=>EC
theorem yw {N:List Str} {n m:Nat} {body:Dm.FS} {vs:List V} {H:Hp} {Q:VK} {E:XK} (hm:N.length=n+m) (h:spM (Dm.fnM n m body) vs H Q E) :
  tDS body { nx:=fun _ H'=>Q .non H',rt:=Q } (start N vs) H:=by
 have hvn:=lJ h
 obtain ⟨H0,a,us,d,ds,z,d',e,s,na,wa,rs,ef,k⟩:=h
 subst e
 have hl:=rs.length
 rw [List.length_cons] at hvn
 have e0:(start N (V.ref a::us))[0]?=some (some (V.ref a)):=rfl
 have get:∀ {i:Nat} {c:Dm.Cell},(Dm.Cell.ow d::(ds.map Dm.Cell.sh++List.replicate m .un))[i]?=some c→(i=0∧c=.ow d)∨(∃ i' d4,i=i'+1∧ds[i']?=some d4∧c=.sh d4)∨c=.un:=fun {i c} y=>by
  cases i with
  | zero=>cases y;exact .inl ⟨rfl,rfl⟩
  | succ i=>
   rw [List.getElem?_cons_succ] at y
   by_cases hi:i<ds.length
   ·rw [List.getElem?_append_left (by simpa using hi),List.getElem?_map,List.getElem?_eq_getElem hi] at y
    cases y
    exact .inr (.inl ⟨i,ds[i],rfl,List.getElem?_eq_getElem hi,rfl⟩)
   ·rw [List.getElem?_append_right (by simpa using hi),List.getElem?_replicate] at y
    split at y
    ·cases y;exact .inr (.inr rfl)
    ·cases y
 have ow0:∀ {i:Nat} {d4:Dm.Dat},(Dm.Cell.ow d::(ds.map Dm.Cell.sh++List.replicate m .un))[i]?=some (.ow d4)→i=0∧d4=d:=fun {i d4} y=>by
  rcases get y with ⟨y1,y2⟩ | ⟨_,_,_,_,y2⟩ | y2
  ·cases y2;exact ⟨y1,rfl⟩
  ·cases y2
  ·cases y2
 have oa:∀ b,au (start N (V.ref a::us)) (Dm.Cell.ow d::(ds.map Dm.Cell.sh++List.replicate m .un)) b→b=a:=fun b ⟨i,d4,y1,y2⟩=>by
  obtain ⟨y3,_⟩:=ow0 y1
  subst y3
  rw [e0] at y2
  cases y2
  rfl
 have st:aB H0 H (start N (V.ref a::us)) (Dm.Cell.ow d::(ds.map Dm.Cell.sh++List.replicate m .un)):=by
  refine ⟨s,?_,fun i d4 y=>?_,fun i d4 y=>?_,fun i i' d4 d5 b y1 y2 _ _=>(ow0 y1).1.trans (ow0 y2).1.symm⟩
  ·unfold L2.start
   simp only [List.length_append,List.length_map,List.length_replicate,List.length_cons]
   omega
  ·rcases get y with ⟨_,y2⟩ | ⟨i',d5,y1,y2,y3⟩ | y2
   ·cases y2
   ·cases y3
    subst y1
    obtain ⟨v,hv,r⟩:=rs.get y2
    refine ⟨v,?_,r⟩
    have hi:i'<us.length:=(List.getElem?_eq_some_iff.mp hv).1
    unfold L2.start
    rw [List.getElem?_append_left (by simp;omega),List.getElem?_map,List.getElem?_cons_succ,hv]
    rfl
   ·cases y2
  ·obtain ⟨y1,y2⟩:=ow0 y
   subst y1 y2
   exact ⟨a,e0,na,wa⟩
 have fin:∀ {σ':L2.St} {ρ':Dm.Env} {H0' H':Hp},SSt (start N (V.ref a::us)) (Dm.Cell.ow d::(ds.map Dm.Cell.sh++List.replicate m .un)) H0 H σ' ρ' H0' H'→ρ'[0]?=some (.ow d')→Stp (fun b=>b=a) H0 H H0' H'∧H0' a=none∧Own H0' H' a d'∧au σ' ρ' a:=fun {σ' ρ' H0' H'} t y=>by
  obtain ⟨a',q',n',w'⟩:=t.st.ow 0 d' y
  have fx:=t.fx
  rw [e0,q'] at fx
  cases fx
  exact ⟨t.stp.wide fun b z=>oa b z,n',w',0,d',y,q'⟩
 unfold Dm.fnM at ef
 split at ef
 case isFalse=>cases ef
 dsimp only at ef
 split at ef
 ·rename_i z' ρ' e1
  split at ef
  case h_2=>cases ef
  rename_i d4 y
  cases ef
  refine ⟨H0,_,_,st,e1,fun σ' v H0' H' t r no=>?_⟩
  obtain ⟨f1,f2,f3,f4⟩:=fin t y
  refine k v H0' H' f1 t.st.same f2 f3 ?_
  cases z with
  | val d5=>exact r
  | new d5=>
   obtain ⟨b,y0,y1,y2,y3⟩:=r
   refine ⟨b,y0,?_,y2,y3⟩
   rcases y1 with y1 | y1
   ·exact y1
   ·exact absurd f4 (oa b y1▸no d5 b rfl y0)
 ·rename_i ρ' e1
  split at ef
  case h_2=>cases ef
  rename_i d4 y
  cases ef
  refine ⟨H0,_,_,st,e1,fun σ' H0' H' t=>?_⟩
  obtain ⟨f1,f2,f3,f4⟩:=fin t y
  exact k _ H0' H' f1 t.st.same f2 f3 .non
 ·cases ef
end Br
namespace Dm
noncomputable def dB:List Int→List Dat→Int→Option Dat
 | k::ks,v::vs,i=>if k=i then some v else dB ks vs i
 | _,_,_=>none
noncomputable def yx:List Int→List Dat→Int→Dat→List Dat
 | k::ks,v::vs,i,d=>(if k=i then d else v)::yx ks vs i d
 | _,_,_,_=>[]
noncomputable def lK (ks:List Int) (i:Int):List Int:=if (ks.any fun k=>decide (k=i))=true then ks else ks++[i]
noncomputable def lM (ks:List Int) (vs:List Dat) (i:Int) (d:Dat):List Dat:=if (ks.any fun k=>decide (k=i))=true then yx ks vs i d else vs++[d]
noncomputable def eDn:FE:=fun ρ=>some (.new (.dct [] []),ρ)
noncomputable def gDx:Dat→Dat→Option RV
 | .dct ks vs,.int i=>(dB ks vs i).map .val
 | _,_=>none
noncomputable def Bu:Dat→Dat→Option RV
 | .int i,.dct ks vs=>vB (dB ks vs i).isSome
 | _,_=>none
noncomputable def nQ:Dat→Dat→Option RV
 | .int i,.dct ks vs=>vB (!(dB ks vs i).isSome)
 | _,_=>none
noncomputable def eD1 (a b:FE):FE:=fun ρ=>match a ρ with
 | some (.val (.int i),ρ1)=>(match b ρ1 with
  | none=>none
  | some (x,ρ2)=>match tk ρ2 x with
   | none=>none
   | some (d,ρ3)=>some (.new (.dct [i] [d]),ρ3))
 | _=>none
noncomputable def pD (i:Nat) (j e:FE):FS:=fun ρ=>match e ρ with
 | none=>none
 | some (x,ρ1)=>match tk ρ1 x with
  | none=>none
  | some (d,ρ2)=>match ρ2[i]? with
   | some (.ow _)=>(match j ρ2 with
    | some (.val (.int k),ρ3)=>(match ρ3[i]? with
     | some (.ow (.dct ks vs))=>if ks.length<SZ then some (.nx (ρ3.set i (.ow (.dct (lK ks k) (lM ks vs k d))))) else none
     | _=>none)
    | _=>none)
   | _=>none
end Dm
namespace Br
open PySem PySem.Spec PyProof.Rows L2
theorem pF {H0 H:Hp} (s:az H0 H) {v:V} {ks:List Int} {ds:List Dm.Dat} (r:mU H0 H v (.dct ks ds)):∃ a kvs,v=.ref a∧H a=some (.dK kvs)∧kvs.map (·.1)=ks.map Sum.inl∧aJ H0 (kvs.map (·.2)) ds:=by
 rcases r with r | ⟨a,e,kvs,q,ek,rs⟩
 ·cases r with
  | dct q ek rs=>exact ⟨_,_,rfl,s _ _ q,ek,rs⟩
 ·exact ⟨a,kvs,e,q,ek,rs⟩
theorem wN {a b:Int} (h:¬ a=b):¬ (Sum.inl a:Key)=Sum.inl b:=fun q=>h (Sum.inl.inj q)
theorem d9 {H0:Hp} (i:Int):∀ {kvs:List (Key×V)} {ks:List Int} {ds:List Dm.Dat},kvs.map (·.1)=ks.map Sum.inl→aJ H0 (kvs.map (·.2)) ds →
  (∃ d v,Dm.dB ks ds i=some d∧mK kvs (Sum.inl i)=some v∧Rep H0 v d)∨(Dm.dB ks ds i=none∧mK kvs (Sum.inl i)=none)
 | [],[],_,_,r=>by cases r;exact .inr ⟨rfl,rfl⟩
 | [],_::_,_,e,_=>by cases e
 | _::_,[],_,e,_=>by cases e
 | (k0,v0)::kvs,k::ks,_,e,r=>by
  rw [List.map_cons] at r
  cases r with
  | cons r0 rr=>
   rw [List.map_cons,List.map_cons] at e
   injection e with e1 e2
   have e1:k0=Sum.inl k:=e1
   subst e1
   unfold Dm.dB
   by_cases h:k=i
   ·subst h
    rw [if_pos rfl]
    exact .inl ⟨_,v0,rfl,lu rfl,r0⟩
   ·rw [if_neg h,ly (wN h)]
    exact d9 i e2 rr
theorem Bv (i:Int):∀ {kvs:List (Key×V)} {ks:List Int},kvs.map (·.1)=ks.map Sum.inl→(kvs.any fun kv=>decide (kv.1=Sum.inl i))=(ks.any fun k=>decide (k=i))
 | [],[],_=>rfl
 | [],_::_,e=>by cases e
 | _::_,[],e=>by cases e
 | (k0,v0)::kvs,k::ks,e=>by
  rw [List.map_cons,List.map_cons] at e
  injection e with e1 e2
  have e1:k0=Sum.inl k:=e1
  subst e1
  rw [List.any_cons,List.any_cons,Bv i e2]
  congr 1
  by_cases h:k=i
  ·subst h;simp
  ·have:=wN h;simp [h,this]
theorem yz {H0:Hp} (i:Int) {v:V} {d:Dm.Dat} (rv:Rep H0 v d):∀ {kvs:List (Key×V)} {ks:List Int} {ds:List Dm.Dat},kvs.map (·.1)=ks.map Sum.inl→aJ H0 (kvs.map (·.2)) ds →
  ((kvs.map fun kv=>if kv.1=Sum.inl i then (kv.1,v) else kv).map (·.1)=ks.map Sum.inl)∧aJ H0 ((kvs.map fun kv=>if kv.1=Sum.inl i then (kv.1,v) else kv).map (·.2)) (Dm.yx ks ds i d)
 | [],[],_,_,r=>by cases r;exact ⟨rfl,.nil⟩
 | [],_::_,_,e,_=>by cases e
 | _::_,[],_,e,_=>by cases e
 | (k0,v0)::kvs,k::ks,_,e,r=>by
  rw [List.map_cons] at r
  cases r with
  | cons r0 rr=>
   rw [List.map_cons,List.map_cons] at e
   injection e with e1 e2
   have e1:k0=Sum.inl k:=e1
   subst e1
   obtain ⟨i1,i2⟩:=yz i rv e2 rr
   unfold Dm.yx
   by_cases h:k=i
   ·subst h
    rw [if_pos rfl,List.map_cons,List.map_cons,List.map_cons,i1]
    simp only [if_true]
    exact ⟨trivial,.cons rv i2⟩
   ·rw [if_neg h,List.map_cons,List.map_cons,List.map_cons,i1]
    have:=wN h
    simp only [this,if_false]
    exact ⟨trivial,.cons r0 i2⟩
theorem I_ {H0:Hp} (i:Int) {v:V} {d:Dm.Dat} (rv:Rep H0 v d) {kvs:List (Key×V)} {ks:List Int} {ds:List Dm.Dat} (e:kvs.map (·.1)=ks.map Sum.inl) (r:aJ H0 (kvs.map (·.2)) ds) :
  (putK kvs (Sum.inl i) v).map (·.1)=(Dm.lK ks i).map Sum.inl∧aJ H0 ((putK kvs (Sum.inl i) v).map (·.2)) (Dm.lM ks ds i d):=by
 have ha:=Bv i e
 unfold putK Dm.lK Dm.lM
 rw [ha]
 cases hb:(ks.any fun k=>decide (k=i)) with
 | true=>
  simp only [if_true]
  exact yz i rv e r
 | false=>
  simp only [Bool.false_eq_true,if_false]
  rw [List.map_append,List.map_append,List.map_append,e]
  exact ⟨rfl,r.append (.cons rv .nil)⟩
theorem Lr:OpD (fun x y H Q=>∃ a v,x=.ref a∧jZ H a y (some v)∧Q v H) Dm.gDx:=by
 intro H0 H x y dx dy z Q s rx ry e k
 unfold Dm.gDx at e
 split at e
 ·rename_i ks vs i
  cases aH ry
  obtain ⟨a,kvs,rfl,qa,ek,rs⟩:=pF s rx
  rcases d9 i ek rs with ⟨d,v,l1,l2,r⟩ | ⟨l1,_⟩
  ·rw [l1] at e
   cases e
   refine ⟨a,v,rfl,?_,k _ H0 H (aN.refl s) r⟩
   have:=jZ.k (k:=Sum.inl i) qa
   rw [l2] at this
   exact this
  ·rw [l1] at e;cases e
 ·cases e
theorem Ja:OpD (fun y x H Q=>∃ a o,x=.ref a∧jZ H a y o∧Q (.bl o.isSome) H) Dm.Bu:=by
 intro H0 H x y dx dy z Q s rx ry e k
 unfold Dm.Bu at e
 split at e
 ·rename_i i ks vs
  cases e
  cases aH rx
  obtain ⟨a,kvs,rfl,qa,ek,rs⟩:=pF s ry
  refine ⟨a,_,rfl,jZ.k (k:=Sum.inl i) qa,k _ H0 H (aN.refl s) ?_⟩
  rcases d9 i ek rs with ⟨d,v,l1,l2,r⟩ | ⟨l1,l2⟩
  ·rw [l1,l2];exact .bl _
  ·rw [l1,l2];exact .bl _
 ·cases e
theorem ED:OpD (fun y x H Q=>∃ a o,x=.ref a∧jZ H a y o∧Q (.bl (!o.isSome)) H) Dm.nQ:=by
 intro H0 H x y dx dy z Q s rx ry e k
 unfold Dm.nQ at e
 split at e
 ·rename_i i ks vs
  cases e
  cases aH rx
  obtain ⟨a,kvs,rfl,qa,ek,rs⟩:=pF s ry
  refine ⟨a,_,rfl,jZ.k (k:=Sum.inl i) qa,k _ H0 H (aN.refl s) ?_⟩
  rcases d9 i ek rs with ⟨d,v,l1,l2,r⟩ | ⟨l1,l2⟩
  ·rw [l1,l2];exact .bl _
  ·rw [l1,l2];exact .bl _
 ·cases e
section
variable {σ:L2.St} {H:Hp} {Q:VK} {D:Ends}
theorem M6 (h:tD Dm.eDn σ H Q):AY σ H Q:=by
 obtain ⟨H0,ρ,x,ρ',st,e,k⟩:=h
 cases e
 intro p hp
 have g:=aN.uO (o:=HO.dK []) st.same hp
 exact k _ _ _ (.grow st g) ⟨p,rfl,hp,st.dh hp,st.same.free hp,[],aE,rfl,.nil⟩
theorem Jb {i:Nat} {j f:Dm.FE} (h:tDS (Dm.pD i j f) D σ H):Gp (ux i) (tD j) (tD f) D σ H:=by
 obtain ⟨H0,ρ,o,st,e,k⟩:=h
 unfold Dm.pD at e
 split at e
 ·cases e
 rename_i x ρ1 e1
 split at e
 ·cases e
 rename_i d ρ2 e2
 split at e
 case h_2=>cases e
 rename_i d0 h2
 split at e
 ·rename_i m ρ3 e3
  split at e
  ·rename_i ks vs h3
   split at e
   case isFalse=>cases e
   rename_i hz
   cases e
   refine ⟨H0,ρ,_,ρ1,st,e1,fun v H0' H' t r=>?_⟩
   obtain ⟨H1,t1,b1,r1,_,_⟩:=take1 t (az.refl _) r e2
   obtain ⟨a0,q0,_,_⟩:=t1.st.ow i _ h2
   refine ⟨_,q0,H1,ρ2,_,ρ3,t1.st,e3,fun u H2 Hc t2 r2=>?_⟩
   obtain ⟨a,q,n,w⟩:=t2.st.ow i _ h3
   rw [q0] at q
   cases q
   obtain ⟨kvs,y,ek,rs⟩:=w
   have hu:=Rep.isInt r2
   subst hu
   obtain ⟨p1,p2⟩:=I_ m (r1.mono t2.stp.s0) ek rs
   have hlen:kvs.length=ks.length:=by
    have:=congrArg List.length ek
    simpa using this
   refine ⟨a0,_,rfl,AW.k (k:=Sum.inl m) y (by rw [hlen];exact Nat.lt_of_lt_of_le hz (by decide)),?_⟩
   have ow:au σ ρ3 a0:=⟨i,_,h3,q0⟩
   have tt:=t1.trans t2
   exact k σ H2 _ ⟨t2.st.write h3 q0 ⟨_,aE,p1,p2⟩,tt.stp.trans (Stp.write ow) fun b z=>.inl (tt.own b z),fun b z=>.inl (tt.own b (fB h3 z)),rfl⟩
  ·cases e
 ·cases e
theorem M7 {fa fb:Dm.FE} (h:tD (Dm.eD1 fa fb) σ H Q):Gq [(tD fa,tD fb)] σ H Q:=by
 obtain ⟨H0,ρ,x,ρ',st,e,k⟩:=h
 unfold Dm.eD1 at e
 split at e
 ·rename_i i ρ1 e1
  split at e
  ·cases e
  rename_i y ρ2 e2
  split at e
  ·cases e
  rename_i d ρ3 e3
  cases e
  intro p hp
  have n0:H0 p=none:=st.same.free hp
  have no:¬ au σ ρ p:=st.dh hp
  refine ⟨H0,ρ,_,ρ1,st.aside n0 no,e1,fun u H1 Hb t1 r1=>⟨H1,ρ1,y,ρ2,t1.st,e2,fun v H2 Hc t2 r2=>?_⟩⟩
  have tt:=t1.trans t2
  obtain ⟨H3,t3,b3,r3,_,_⟩:=take1 tt (az.refl _) (r2.early fun a n=>t1.stp.gone n) e3
  obtain ⟨hp3,n3,no3⟩:=t3.fZ (o:=HO.dK []) aE n0 no
  have hu:=Rep.isInt r1
  subst hu
  refine ⟨hp3,[(Sum.inl i,v)],rfl,(by simp),?_⟩
  have em:mL [] [((Sum.inl i:Key),v)]=[(Sum.inl i,v)]:=rfl
  rw [em]
  refine k _ H3 _ ⟨t3.st.aside n3 no3,⟨t3.stp.s0,fun a o y nb=>?_,fun a o y=>?_,fun a o y=>?_⟩,t3.own,t3.dfn⟩ ⟨p,rfl,hp,no3,n3,_,aE,rfl,.cons r3 .nil⟩
  ·have ne:a≠p:=fun q=>by rw [q,hp] at y;cases y
   rw [ay ne]
   exact t3.stp.s1 a o (by rw [ay ne];exact y) nb
  ·rcases t3.stp.s2 a o y with y1 | y1 | y1
   ·by_cases ne:a=p
    ·subst ne;rw [n3] at y;cases y
    ·rw [ay ne] at y1;exact .inl y1
   ·exact .inr (.inl y1)
   ·exact .inr (.inr y1)
  ·have ne:a≠p:=fun q=>by rw [q,hp] at y;cases y
   rw [ay ne]
   exact t3.stp.s3 a o (by rw [ay ne];exact y)
 ·cases e
end
theorem u1 {k:Nat} {A:Around} (hr:bL k A):A.units+1<cLine:=Nat.lt_of_le_of_lt (Nat.add_le_add_left (by decide) _) hr.units
section
variable {X:Cx} {a b e:Expr} {fa fb f:Dm.FE} {pos:Pos} {k:Nat}
theorem Ls:DE X (.Dict [] [] pos) Dm.eDn:=PE.weak AZ fun _ _ _=>M6
theorem M8 (ha:DE X a fa) (hb:DE X b fb):DE X (.Dict [some a] [b] pos) (Dm.eD1 fa fb):=PE.weak (Ea (A0 ha hb D_) rfl rfl (by simp) (by simp)) fun _ _ _=>M7
theorem Jc (hr:bL k X.A) (ha:DE X a fa) (hb:DE X b fb) (hs:Iv b:=by intro _ _;rfl):DE X (.Subscript a b pos) (Dm.e2 Dm.gDx fa fb):=PE.weak (D8 (u1 hr) ha hb hs) fun _ _ _=>wG Lr
theorem Lu (hr:bL k X.A) (ha:DE X a fa) (hb:DE X b fb) (hm:behindInMarks .In b=false:=by rfl):DT X (.Compare a [.In] [b] pos) (Dm.tV (Dm.e2 Dm.Bu fa fb)):=PT.weak (Av (Iw (u1 hr) ha hb) hm) fun σ H Q h=>wG Ja (sS h)
theorem Bw (hr:bL k X.A) (ha:DE X a fa) (hb:DE X b fb) (hm:behindInMarks .NotIn b=false:=by rfl):DT X (.Compare a [.NotIn] [b] pos) (Dm.tV (Dm.e2 Dm.nQ fa fb)):=PT.weak (Av (zJ (u1 hr) ha hb) hm) fun σ H Q h=>wG ED (sS h)
theorem Bx (i:Nat) {x:Str} {px sp:Pos} (hr:bL k X.A) (hb:DE X b fb) (he:DE X e f) (hi:X.N[i]?=some x:=by rfl) (hv:Vis X.env.scope x:=by first | exact Or.inl rfl | exact Or.inr (Or.inl rfl) | exact Or.inr (Or.inr rfl)) (hd:(x == ("__debug__" : Str))=false:=by decide)
  (hcd:(x == ("__classdict__" : Str))=false:=by decide) (hs:swapsWith e (some (.Subscript (.Name x px) b sp)) pos.line X.env=pure false:=by rfl):DS X (.Assign [.Subscript (.Name x px) b sp] e pos) (Dm.pD i fb f):=
 PS.weak (D9 (u1 hr) (jY hi hv hd hcd) hb he hs) fun _ _ _=>Jb
end
end Br
namespace Dm
noncomputable def wO (a:FE) (lo hi:Option FE):FE:=fun ρ=>match a ρ with
 | none=>none
 | some (x,ρ1)=>match part lo ρ1 with
  | none=>none
  | some (l,ρ2)=>match part hi ρ2 with
   | none=>none
   | some (h,ρ3)=>match pk ρ3 x with
    | some (.tup xs)=>if sIx xs.length 0 l=0∧sIx xs.length xs.length h=xs.length then none else some (.val (.tup (cut xs l h)),ρ3)
    | _=>none
end Dm
namespace Br
open PySem PySem.Spec PyProof.Rows L2
section
variable {σ:L2.St} {H:Hp} {Q:VK}
theorem M9 {K:PySem.W.Frag} {f:Dm.FE} {Q:Bool→Hp→Prop} (h:tDT (Dm.tTr f) σ H Q):tD f σ H fun x H'=>∃ k,HZ K x H' k∧Q k H':=by
 obtain ⟨H0,ρ,b,ρ',st,e,k⟩:=h
 unfold Dm.tTr at e
 split at e
 ·cases e
 rename_i x ρ1 e1
 split at e
 ·cases e
 rename_i d p1
 split at e
 ·cases e
 rename_i c tc
 cases e
 refine ⟨H0,ρ,x,_,st,e1,fun v H1 Hb t1 r1=>⟨b,?_,k H1 Hb t1⟩⟩
 have rl:=r1.look t1.st p1
 cases d with
 | non=>
  cases tc
  rcases rl with r | ⟨a,_,w⟩
  ·cases r;rfl
  ·exact False.elim w
 | bl c=>
  cases tc
  cases Ej rl
  rfl
 | int i=>
  cases tc
  cases aH rl
  rfl
 | tup es=>
  cases tc
  obtain ⟨a,xs,rfl,qa,rs⟩:=i6 t1.st.same rl
  refine .inr (.inl ⟨xs,SqT.of qa,?_⟩)
  cases rs<;>rfl
 | lst es=>
  cases tc
  obtain ⟨a,xs,rfl,qa,rs⟩:=bC t1.st.same rl
  refine .inl ⟨xs,.inl qa,?_⟩
  cases rs<;>rfl
 | str _=>cases tc
 | dct _ _=>cases tc
 | exc _=>cases tc
 | fn _=>cases tc
end
section
variable {X:Cx} {a:Expr} {fa:Dm.FE} {p pos:Pos}
theorem M_ (ha:DE X a fa) (he:∀ whole,isTrue a X.env whole=(do let v ← whole;standAt a.pos;holding [v] (truthy v)):=by intro _;rfl):DT X a (Dm.tTr fa):=PT.weak (AM ha he) fun _ _ _=>M9
end
section
variable {X:Cx} {a b e:Expr} {fa fb f:Dm.FE} {fs:List Dm.FE} {p p2 pos:Pos}
theorem Lv {K:PySem.W.Frag} {lo hi:Option Dm.FE} {σ:L2.St} {H:Hp} {Q:VK} (h:tD (Dm.wO f lo hi) σ H Q):tSl (KH K) (tD f) (tOf lo) (tOf hi) σ H Q:=by
 obtain ⟨H0,ρ,x,ρ',st,e,k⟩:=h
 unfold Dm.wO at e
 split at e
 ·cases e
 rename_i x1 ρ1 e1
 split at e
 ·cases e
 rename_i l ρ2 e2
 split at e
 ·cases e
 rename_i hh ρ3 e3
 split at e
 ·rename_i ds p1
  split at e
  ·cases e
  rename_i hne
  cases e
  refine ⟨H0,ρ,x1,ρ1,st,e1,fun v H1 Hb t1 r1=>?_⟩
  refine oG t1.st e2 fun H2 Hc t2=>?_
  refine oG t2.st e3 fun H3 Hd t3=>?_
  have tt:=t1.trans (t2.trans t3)
  obtain ⟨a,xs,rfl,qa,ra⟩:=i6 t3.st.same ((r1.mono (t2.trans t3)).look t3.st p1)
  refine ⟨a,xs,rfl,SqT.of qa,?_,fun q hq=>?_⟩
  ·rw [ra.length,tw _ _ _ (Nat.zero_le _),tw _ _ _ (Nat.le_refl _)]
   exact hne
  ·have g:=aN.zK (o:=HO.tup (qP xs l hh)) t3.st.same hq
   exact k _ _ _ (tt.trans (.grow t3.st g)) (.tup aE ((rH ra l hh).mono g.s0))
 ·cases e
theorem GB {lo hi:Option Expr} {flo fhi:Option Dm.FE} (h:DE X e f) (hl:PO X lo (tOf flo)) (hh:PO X hi (tOf fhi)):DE X (.Subscript e (.Slice lo hi none p2) pos) (Dm.wO f flo fhi):=PE.weak (uE Ii h hl hh) fun _ _ _=>Lv
end
end Br
namespace Dm
noncomputable def jV:List Dat→Option (List Int)
 | []=>some []
 | .int i::r=>(jV r).map fun ns=>i::ns
 | _=>none
end Dm
namespace Br
open PySem PySem.Spec PyProof.Rows L2
section
variable {X:Cx}
end
section
variable {X:Cx} {e:Expr} {f:Dm.FE} {p p0 pos pC:Pos}
end
end Br
namespace Ts
open PySem PyProof.Rows
variable {M:Model} {A:Around} {E:Value→Shared→Prop} {s:Shared} {κ:KeyKind} {kd:SortKind} {a₀:Array Keyed}
end Ts
namespace Ts
open PySem PyProof.Rows
variable {M:Model} {A:Around} {E:Value→Shared→Prop} {s:Shared} {κ:KeyKind} {kd:SortKind} {a₀:Array Keyed}
section
variable {prog:Program} {w:World}
end
end Ts
namespace Ts
open PySem PyProof.Rows
variable {M:Model} {A:Around} {E:Value→Shared→Prop} {s:Shared} {κ:KeyKind} {kd:SortKind} {a₀:Array Keyed}
end Ts
namespace Ts
open PySem PyProof.Rows
variable {M:Model} {A:Around} {E:Value→Shared→Prop} {s:Shared} {κ:KeyKind} {kd:SortKind} {a₀:Array Keyed}
end Ts
namespace Ts
open PySem PyProof.Rows
variable {A:Around} {E:Value→Shared→Prop} {s:Shared} {κ:KeyKind} {kd:SortKind} {a₀:Array Keyed} {prog:Program} {w:World}
section
variable {a b:Array Keyed}
end
end Ts
namespace Ts
open PySem PyProof.Rows
variable {A:Around} {E:Value→Shared→Prop} {s:Shared} {κ:KeyKind} {kd:SortKind} {a₀:Array Keyed} {prog:Program} {w:World}
section
variable {a b:Array Keyed}
end
end Ts
namespace Ts
open PySem PyProof.Rows
variable {A:Around} {E:Value→Shared→Prop} {s:Shared} {κ:KeyKind} {kd:SortKind} {a₀:Array Keyed} {prog:Program} {w:World}
end Ts
namespace Ts
open PySem PyProof.Rows
variable {A:Around} {E:Value→Shared→Prop} {s:Shared} {κ:KeyKind} {kd:SortKind} {a₀:Array Keyed} {prog:Program} {w:World}
end Ts
namespace Ts
open PySem PyProof.Rows
variable {A:Around} {E:Value→Shared→Prop} {s:Shared} {κ:KeyKind} {kd:SortKind} {prog:Program} {w:World}
end Ts
namespace Ts
open PySem PyProof.Rows
variable {A:Around} {E:Value→Shared→Prop} {s:Shared} {κ:KeyKind} {kd:SortKind} {a₀:Array Keyed} {prog:Program} {w:World}
end Ts
namespace Ts
open PySem PyProof.Rows
variable {A:Around} {E:Value→Shared→Prop} {s:Shared} {κ:KeyKind} {kd:SortKind} {prog:Program} {w:World}
end Ts
namespace Tk
open PySem PySem.W PyProof.Rows
section
variable {cmp:Nat→Nat→(Bool→Shared→Prop)→Shared→Prop} {s:Shared} {lt:Nat→Nat→Bool} {n pos:Nat}
end
section
variable {A:Around} {E:Value→Shared→Prop} {s:Shared} {kd:SortKind} {prog:Program} {w:World} {lt:Nat→Nat→Bool} {pos:Nat} {vs:List Value} {v:Value}
end
end Tk
namespace Dm
end Dm
namespace Br
open PySem PySem.Spec PyProof.Rows L2
section
variable {prog:Program} {w:World} {A:Around} {E:Value→Shared→Prop} {s:Shared}
end
section
variable {X:Cx}
end
end Br
namespace Dm
noncomputable def zX (i:Nat) (e:FE):FS:=fun ρ=>match ρ[i]? with
 | some (.ow (.lst _))=>(match e ρ with
  | none=>none
  | some (x,ρ1)=>match pk ρ1 x with
   | some (.lst es)=>(match ρ1[i]? with
    | some (.ow (.lst ds))=>if ds.length+es.length≤SZ then some (.nx (ρ1.set i (.ow (.lst (ds++es))))) else none
    | _=>none)
   | _=>none)
 | _=>none
noncomputable def mY (i:Nat) (e:FE):FE:=fun ρ=>match ρ[i]? with
 | some (.ow (.lst _))=>(match e ρ with
  | some (.val (.int j),ρ1)=>(match ρ1[i]? with
   | some (.ow (.lst ds))=>if 0≤j∧j≤BIG then (match ds[j.toNat]? with
     | some d=>some (.val d,ρ1.set i (.ow (.lst (ds.eraseIdx j.toNat))))
     | none=>none) else none
   | _=>none)
  | _=>none)
 | _=>none
noncomputable def isN:Dat→Bool
 | .non=>true
 | _=>false
noncomputable def NH:Dat→Dat→Option RV
 | d,.non=>vB (isN d)
 | _,_=>none
noncomputable def pG:Dat→Dat→Option RV
 | d,.non=>vB (!isN d)
 | _,_=>none
noncomputable def a_ (bad:List Dat→Bool) (fs:List FE) (ρ:Env):Option Env:=match eAs fs ρ with
 | none=>none
 | some (xs,ρ1)=>match pks ρ1 xs with
  | none=>none
  | some ds=>if bad ds then some ρ1 else none
noncomputable def rIf (t:FT) (R S:Env→Option Env) (ρ:Env):Option Env:=match t ρ with
 | none=>none
 | some (true,ρ1)=>R ρ1
 | some (false,ρ1)=>S ρ1
noncomputable def zY (ρ:Env):Option Env:=some ρ
noncomputable def rNo (_:Env):Option Env:=none
noncomputable def fnX (n m:Nat) (R:Env→Option Env) (ds:List Dat):Bool:=decide (ds.length=n)&&(R (ds.map .sh++List.replicate m .un)).isSome
noncomputable def zZ (C:Nat) (b:Bool):Dat→Option RV
 | .exc C'=>if C'=C then vB b else none
 | _=>none
end Dm
namespace Br
open PySem PySem.Spec PyProof.Rows L2
section
variable {X:Cx}
end
section
variable {X:Cx} {a b c e:Expr} {f fa fb:Dm.FE} {fs:List Dm.FE} {p pos:Pos}
noncomputable def Lw (neg:Bool):R2:=fun x y H Q=>y=.non∧Q (.bl (if neg then !decide (x=V.non) else decide (x=V.non))) H
theorem EE {x:V} {v:Value} (r:RelV x v):(v == Value.none)=decide (x=V.non):=by
 cases x with
 | non=>cases r;rfl
 | bl b=>cases r;rfl
 | int i=>obtain ⟨t,rfl⟩:=r;rfl
 | str z=>obtain ⟨t,rfl⟩:=r;rfl
 | byt z=>obtain ⟨t,rfl⟩:=r;rfl
 | flt z=>obtain ⟨t,rfl⟩:=r;rfl
 | ref z=>cases r;rfl
 | ty z=>cases r;rfl
theorem yC {H0 H:Hp} {x:V} {d:Dm.Dat} (r:mU H0 H x d):decide (x=V.non)=Dm.isN d:=by
 rcases r with r | ⟨a,rfl,w⟩
 ·cases r<;>rfl
 ·cases d with
  | non=>exact False.elim w
  | _=>rfl
end
section
variable {X:Cx}
noncomputable def GC:V→List V→Hp→VK→Prop:=fun x vs H Q=>∃ l b xs zs,x=.ref l∧vs=[.ref b]∧H l=some (.lst xs)∧Rd H b (.lst zs)∧xs.length+zs.length≤sizeLine∧Q .non (upd H l (.lst (xs++zs)))
theorem EF:MtM X "list.extend" GC:=by
 intro pins s σ H x vs v us Q I rx rv h
 obtain ⟨l,b,xs,zs,rfl,rfl,hH,hB,hz,q⟩:=h
 cases rx
 obtain ⟨u,rfl,ru⟩:=rv.one
 cases ru
 obtain ⟨z,its,n,r,hl,e⟩:=I.Iq hH
 obtain ⟨z2,its2,n2,r2,e2⟩:=hB.ok I.hok
 have hl2:=r2.length
 have tot:its.toArray.size+its2.toArray.size≤sizeLine:=by simp only [List.size_toArray];omega
 have short:¬ (!its.toArray.isEmpty&&Builtin.List.listTooLong (its.toArray.size+its2.toArray.size))=true:=by rw [uG tot,Bool.and_false];decide
 refine call_meets F.slot_list_extend ⟨_,e,rfl⟩ F.entry_list_extend (F.args_list_extend_2 _ _) (AutoSeq1.list_extend_list_list_0 l its.toArray n b its2.toArray n2 short (by rw [List.size_toArray];omega) (by omega)) ⟨e,e2,?_⟩
 exact ⟨.non,_,I.Io (its':=its++its2) hH e (by simp) (r.append r2) (by rw [List.length_append];omega),rfl,q⟩
end
section
variable {σ:L2.St} {H:Hp} {Q:VK} {D:Ends}
theorem Lx {K:PySem.W.Frag} {i:Nat} {f:Dm.FE} (h:tDS (Dm.zX i f) D σ H):uz (tBM K "list" GC (ux i) (tDA [f])) D σ H:=by
 obtain ⟨H0,ρ,o,st,e,k⟩:=h
 unfold Dm.zX at e
 split at e
 case h_2=>cases e
 rename_i ds0 h0
 obtain ⟨a0,q0,n0,w0⟩:=st.ow i _ h0
 refine ⟨_,q0,?_⟩
 split at e
 ·cases e
 rename_i x ρ1 e1
 split at e
 case h_2=>cases e
 rename_i es p1
 split at e
 case h_2=>cases e
 rename_i ds h2
 split at e
 case isFalse=>cases e
 rename_i hz
 cases e
 obtain ⟨xs0,y0,_⟩:=w0
 refine ⟨.inl ⟨rfl,xs0,.inl (.inl y0)⟩,?_⟩
 refine ⟨H0,ρ,[x],ρ1,st,by unfold Dm.eAs;rw [e1];rfl,fun vs H0' H' t r=>?_⟩
 cases r with
 | cons r rr=>
  cases rr
  obtain ⟨b,zs,rfl,qb,rb⟩:=bC t.st.same (r.look t.st p1)
  obtain ⟨a,q,n,w⟩:=t.st.ow i _ h2
  rw [q0] at q
  cases q
  obtain ⟨xs,y,rs⟩:=w
  refine ⟨a0,b,xs,zs,rfl,rfl,y,qb,by rw [rs.length,rb.length];exact Nat.le_trans hz (by decide),?_⟩
  have ow:au σ ρ1 a0:=⟨i,_,h2,q0⟩
  exact k σ H0' _ ⟨t.st.write h2 q0 ⟨_,aE,rs.append rb⟩,t.stp.trans (Stp.write ow) fun b z=>.inl (t.own b z),fun b z=>.inl (t.own b (fB h2 z)),rfl⟩
theorem pH {α:Type} (l:List α) (i:Nat):l.eraseIdx i=l.take i++l.drop (i+1):=List.eraseIdx_eq_take_drop_succ l i
theorem wQ {H0:Hp} {vs:List V} {ds:List Dm.Dat} (i:Nat) (r:aJ H0 vs ds):aJ H0 (vs.eraseIdx i) (ds.eraseIdx i):=by
 rw [pH,pH]
 exact (r.take i).append (r.drop (i+1))
theorem EG {K:PySem.W.Frag} {i:Nat} {f:Dm.FE} (h:tD (Dm.mY i f) σ H Q):tBM K "list" AS (ux i) (tDA [f]) σ H Q:=by
 obtain ⟨H0,ρ,x,ρ',st,e,k⟩:=h
 unfold Dm.mY at e
 split at e
 case h_2=>cases e
 rename_i ds0 h0
 obtain ⟨a0,q0,n0,w0⟩:=st.ow i _ h0
 refine ⟨_,q0,?_⟩
 obtain ⟨xs0,y0,_⟩:=w0
 refine ⟨.inl ⟨rfl,xs0,.inl (.inl y0)⟩,?_⟩
 split at e
 case h_2=>cases e
 rename_i j ρ1 e1
 split at e
 case h_2=>cases e
 rename_i ds h2
 split at e
 case isFalse=>cases e
 rename_i hb
 split at e
 case h_2=>cases e
 rename_i d hd
 cases e
 refine ⟨H0,ρ,[.val (.int j)],ρ1,st,by unfold Dm.eAs;rw [e1];rfl,fun vs H0' H' t r=>?_⟩
 cases r with
 | cons r rr=>
  cases rr
  cases Rep.isInt r
  obtain ⟨a,q,n,w⟩:=t.st.ow i _ h2
  rw [q0] at q
  cases q
  obtain ⟨xs,y,rs⟩:=w
  obtain ⟨v,hv,rv⟩:=rs.get hd
  have hlt:j.toNat<xs.length:=(List.getElem?_eq_some_iff.mp hv).1
  have hB:Dm.BIG=1000000000:=rfl
  refine ⟨a0,xs,j,j.toNat,v,rfl,rfl,y,by omega,by omega,?_,hv,?_⟩
  ·unfold seqIndex?
   simp only [show ¬ j<0 by omega,if_false]
   rw [if_pos (by rw [decide_eq_true (show 0≤j by omega),decide_eq_true (show j<(xs.length:Int) by omega)];rfl)]
  have ow:au σ ρ1 a0:=⟨i,_,h2,q0⟩
  have hi:i<ρ1.length:=(List.getElem?_eq_some_iff.mp h2).1
  refine k v H0' _ (t.trans ⟨t.st.write h2 q0 ⟨_,aE,wQ _ rs⟩,Stp.write ow,fun b z=>fB h2 z,fun j' z=>trivial⟩) rv
end
section
variable {X:Cx} {e:Expr} {f:Dm.FE} {pos:Pos}
theorem Ly (i:Nat) {x:Str} {px ap cp:Pos} (he:DE X e f) (hi:X.N[i]?=some x:=by rfl) (hv:Vis X.env.scope x:=by first | exact Or.inl rfl | exact Or.inr (Or.inl rfl) | exact Or.inr (Or.inr rfl)) (hd:(x == ("__debug__" : Str))=false:=by decide)
  (hcd:(x == ("__classdict__" : Str))=false:=by decide) (hbase:attributeBase (.Name x px) "extend" X.env (eval (.Name x px) X.env)=eval (.Name x px) X.env:=by rfl)
  (hfew:((backTo cp (starEach [e] X.env)).all (fun x=>!x.1)&&(backToKw cp (keywordEach [] X.env)).all (fun x=>x.1.isSome)
   && decide ([e].length+([]:List Keyword).length+(if ([]:List Keyword).isEmpty then 0 else 1)<30))=true:=by rfl)
  (hline:(ap.endLine == cp.line)=true:=by rfl) (hs:starEach [e] X.env=(false,eval e X.env)::starEach [] X.env:=by rfl) (hplain:(backTo cp (starEach [] X.env)).any (·.1)=false:=by rfl)
  (hsw:swapsWith (.Call (.Attribute (.Name x px) "extend" ap) [e] [] cp) none pos.line X.env=pure false:=by rfl) :
  DS X (.Expr (.Call (.Attribute (.Name x px) "extend" ap) [e] [] cp) pos) (Dm.zX i f):=
 PS.weak (k6 (uF PySem.F.plainAttrs_list PySem.F.slot_list_extend PySem.F.type_list_extend EF (jY hi hv hd hcd) (aa he af hs) hbase hfew hline hs hplain) hsw) fun _ _ _=>Lx
theorem EH (i:Nat) {x:Str} {px ap cp:Pos} (he:DE X e f) (hi:X.N[i]?=some x:=by rfl) (hv:Vis X.env.scope x:=by first | exact Or.inl rfl | exact Or.inr (Or.inl rfl) | exact Or.inr (Or.inr rfl)) (hd:(x == ("__debug__" : Str))=false:=by decide)
  (hcd:(x == ("__classdict__" : Str))=false:=by decide) (hbase:attributeBase (.Name x px) "pop" X.env (eval (.Name x px) X.env)=eval (.Name x px) X.env:=by rfl)
  (hfew:((backTo cp (starEach [e] X.env)).all (fun x=>!x.1)&&(backToKw cp (keywordEach [] X.env)).all (fun x=>x.1.isSome)
   && decide ([e].length+([]:List Keyword).length+(if ([]:List Keyword).isEmpty then 0 else 1)<30))=true:=by rfl)
  (hline:(ap.endLine == cp.line)=true:=by rfl) (hs:starEach [e] X.env=(false,eval e X.env)::starEach [] X.env:=by rfl) (hplain:(backTo cp (starEach [] X.env)).any (·.1)=false:=by rfl) :
  DE X (.Call (.Attribute (.Name x px) "pop" ap) [e] [] cp) (Dm.mY i f):=
 PE.weak (uF PySem.F.plainAttrs_list PySem.F.slot_list_pop PySem.F.type_list_pop AU (jY hi hv hd hcd) (aa he af hs) hbase hfew hline hs hplain) fun _ _ _=>EG
end
end Br
namespace L2
open PySem PySem.Spec PyProof.Rows
noncomputable def CXE (P:Program) (w:World) (C:Addr):CXT:=fun outer H s E e s'=>
 ∃ ea a0 B H',e=.ref ea∧s'.os=s.os∧AllBare s'.gens∧Un (frs outer) [] H H' s.heap s'.heap∧HOk P w H' s'.heap∧Heap.FlyingW B outer ea (.ref C) a0 s'.heap ∧
  (∀ b o,s'.heap.get? b=some o→(s.heap.get? b).isSome=true∨(H' b).isSome=true→b∉frs outer→B.get? b=some o)∧E (.ref C) (some ea) H'
theorem bu.there {P:Program} {w:World} {H:Hp} {h:Heap} {a:Addr} {o:HO} (x:bu P w H h a o):∃ u,h.get? a=some u:=by
 cases o with
 | lst xs=>obtain ⟨_,_,_,_,e⟩:=x;exact ⟨_,e⟩
 | tup xs=>obtain ⟨_,_,_,ob,e,_⟩:=x;exact ⟨_,e⟩
 | dK kvs=>obtain ⟨_,_,_,_,o,_,_,e,_⟩:=x;exact ⟨_,e⟩
 | dT kvs=>obtain ⟨_,_,_,_,o,_,_,e,_⟩:=x;exact ⟨_,e⟩
 | set S n=>obtain ⟨o,_,_,_,e,_⟩:=x;exact ⟨_,e⟩
 | ins C dx fs=>obtain ⟨_,_,_,e,_⟩:=x;exact ⟨_,e⟩
 | own y=>obtain ⟨_,e⟩:=x;exact ⟨_,e⟩
 | xd fs=>obtain ⟨_,⟨_,_,_,e,_⟩,_⟩:=x;exact ⟨_,e⟩
 | rng lo hi=>obtain ⟨_,_,_,e⟩:=x;exact ⟨_,e⟩
 | frz ob u=>obtain ⟨e,_⟩:=x;exact ⟨_,e⟩
 | tbl ps=>exact ⟨_,x⟩
 | met f y=>exact ⟨_,x⟩
 | ext φ=>obtain ⟨_,⟨_,e⟩,_⟩:=x;exact ⟨_,e⟩
section
variable {X:Cx} {pins:List (Addr×Obj)} {σ:St} {H:Hp} {s:Shared} {x:Str} {C:Addr} {bmB:List Value} {B newId initId:String} {np cpos pos:Pos}
theorem z5 {t:St→Hp→Prop} (hc:X.calm=true) (hg:Gl X x) (O:OwnCls x C bmB newId X.mg X.base) (FB:ExcBaseFacts B newId initId bmB)
  (hE:∀ pins σ H s h' e,Inv X pins σ H s→t σ H→Heap.MadeExcOf s.heap h' e (.ref C) []→X.xe (.ref e) { s with heap:=h' }) (hdb:(x == ("__debug__" : Str))=false:=by decide) :
  PS X (.Raise (some (.Call (.Name x np) [] [] cpos)) none pos) (fun _ σ H=>t σ H):=by
 intro pins s σ H D I h
 obtain ⟨tl,N,nm,q,bs,hdct,sn,sub,ab,col,dd,k0,k1,k2,k3,k5,mN,hC,hN,hni,T⟩:=O.obj
 refine wpAny_Raise_call_subT (C:=C) (nm:=nm) (q:=q) (N:=N) (bs:=bs) (bm:=tl) (hdct:=hdct) (sn:=sn) (sub:=sub) (ab:=ab) (col:=col) (dd:=dd) (k0:=k0) (k1:=k1) (k2:=k2) (k3:=k3) (k5:=k5)
  FB (mN:=mN) (T.hasType FB.hasBase) (I.ok.hd hc) rfl hni (jG I hg O.bound ⟨rfl,?_⟩ hdb)
 exact evalArgs_empty ⟨rfl,Nat.zero_le _,I.bk _ _ hC,hN.keeps I.bk,T.keeps I.bk,fun h' e hm=>hE pins σ H s h' e I h hm⟩
theorem Inv.out (I:Inv X pins σ H s) {h'' Bh:Heap} (hx:X.ex=[]) (hB:∀ b o,s.heap.get? b=some o→b∉frs X.stack→(X.s₀.heap.get? b).isSome=true∨(H b).isSome=true→Bh.get? b=some o) (k1:Bh.StaysIn h'')
  (sl:s.heap.UpToSlots h''):Un X.fs [] X.H₀ H X.s₀.heap h''∧HOk X.prog X.w H h'' ∧
   (∀ b o,h''.get? b=some o→(X.s₀.heap.get? b).isSome=true∨(H b).isSome=true→b∉X.fs→Bh.get? b=some o):=by
 have nx:∀ b:Addr,b∉X.ex:=fun b z=>by rw [hx] at z;cases z
 have neL:∀ b o,X.s₀.heap.get? b=some o→b≠X.env.locals:=fun b o e=>Nat.ne_of_lt (Nat.lt_of_lt_of_le (Heap.lt_size e) I.ok.above)
 have nst:∀ b o,X.s₀.heap.get? b=some o→b∉X.fs→b∉frs X.stack:=fun b o e hb z=>(List.mem_cons.mp (I.oO b z)).elim (neL b o e) hb
 have frame:∀ b,b∈X.fs→∀ o,s.heap.get? b=some o→∃ sl,h''.get? b=some { o with slots:=sl }:=fun b hb o e=>by
  obtain ⟨_,o',ho',hd⟩:=I.nY.mem hb
  rw [e] at ho';cases ho'
  exact sl b o e hd
 have stay:∀ b o,b∉frs X.stack→(X.s₀.heap.get? b).isSome=true∨(H b).isSome=true→s.heap.get? b=some o→h''.get? b=some o:=fun b o hb hh e=>k1 b o (hB b o e hb hh)
 have tr:∀ b u,H b=some u→b∉frs X.stack:=fun b u e z=>by rw [I.sD b z] at e;cases e
 refine ⟨⟨fun b o e n hb _=>?_,fun b o e n hb _=>?_,fun b o e n _=>I.base.free b o e n (nx b),fun b o e _=>?_,I.base.tups,I.base.nX,I.base.oN⟩,fun b u e=>?_,fun b o e hh hb=>?_⟩
 ·exact stay b o (nst b o e hb) (.inl (by rw [e];rfl)) (I.base.keep b o e n hb (nx b))
 ·obtain ⟨s1,e1⟩:=I.base.slot b o e n hb (nx b)
  obtain ⟨s2,e2⟩:=frame b hb _ e1
  exact ⟨s2,e2⟩
 ·obtain ⟨o1,e1⟩:=I.base.there b o e (nx b)
  by_cases hb:b∈X.fs
  ·obtain ⟨s2,e2⟩:=frame b hb _ e1
   exact ⟨_,e2⟩
  ·exact ⟨o1,stay b o1 (nst b o e hb) (.inl (by rw [e];rfl)) e1⟩
 ·refine (I.hok b u e).stay (fun c v hc q=>?_) (fun _ q=>q) fun _ _ q=>q
  rcases hc with rfl | hc
  ·exact stay c v (tr c u e) (.inr (by rw [e];rfl)) q
  ·exact stay c v (tr c _ hc) (.inr (by rw [hc];rfl)) q
 ·have:∃ o1,s.heap.get? b=some o1:=by
   rcases hh with hh | hh
   ·obtain ⟨o0,e0⟩:=Option.isSome_iff_exists.mp hh
    exact I.base.there b o0 e0 (nx b)
   ·obtain ⟨u,e0⟩:=Option.isSome_iff_exists.mp hh
    exact (I.hok b u e0).there
  obtain ⟨o1,e1⟩:=this
  have hs:b∉frs X.stack:=by
   rcases hh with hh | hh
   ·obtain ⟨o0,e0⟩:=Option.isSome_iff_exists.mp hh
    exact nst b o0 e0 hb
   ·obtain ⟨u,e0⟩:=Option.isSome_iff_exists.mp hh
    exact tr b u e0
  have e2:=stay b o1 hs hh e1
  rw [e] at e2;cases e2
  exact hB b o e1 hs hh
end
section
variable {P:Program} {w:World} {K:PySem.W.Frag} {mg:Str→Option Value} {base:Heap} {N:List Str} {qual:Str} {scope:Scope} {f:Addr} {cd:Value} {A:Around} {outer:List Env} {s₀:Shared} {H₀:Hp} {E:XK} {C:Addr}
 {pins:List (Addr×Obj)} {σ:St} {H:Hp} {s:Shared}
theorem EI {h h' h'':Heap} (k:∀ b o,h.get? b=some o→h'.get? b=some o) (x:h'.UpToSlots h''):h.UpToSlots h'':=(Heap.UpToSlots.of_keeps k).trans x
theorem EJ (I:Inv (g6 (CXE P w C) P w K mg base N qual scope f cd A outer s₀ H₀ E) pins σ H s) {h':Heap} {e:Addr} (hx:Heap.MadeExcOf s.heap h' e (.ref C) []) (hE:E (.ref C) (some e) H) :
  (g6 (CXE P w C) P w K mg base N qual scope f cd A outer s₀ H₀ E).xe (.ref e) { s with heap:=h' }:=by
 have hin:∀ env∈(g6 (CXE P w C) P w K mg base N qual scope f cd A outer s₀ H₀ E).stack,∀ b,env.frame=some b→b∈frs (g6 (CXE P w C) P w K mg base N qual scope f cd A outer s₀ H₀ E).stack:=fun env he b hb=>List.mem_filterMap.mpr ⟨env,he,hb⟩
 show wpAny (model P w) _ (leaving _ (.ref e)) _ _ _
 refine wpAny_leaves_madeW (base:=PySem.W.hideAll s.heap (frs (g6 (CXE P w C) P w K mg base N qual scope f cd A outer s₀ H₀ E).stack)) (h:=s.heap) (L:=s₀.heap.objs.size) I.ok.frames rfl (fun b o q=>PySem.W.of_hideAll _ q) (PySem.W.funFrames_hide I.stack hin) hx fun h'' t fl tup bt sl=>?_
 obtain ⟨u1,u2,u3⟩:=I.out (h'':=h'') (Bh:=PySem.W.hideAll s.heap (frs (g6 (CXE P w C) P w K mg base N qual scope f cd A outer s₀ H₀ E).stack)) rfl (fun b o q hb _=>PySem.W.hideAll_get _ q hb) fl.1 (EI hx.keeps sl)
 exact ⟨e,.ref t,_,H,rfl,I.os,I.bare,u1,u2,fl,u3,hE⟩
theorem Lz:Passes (CXE P w C) (g6 (CXE P w C) P w K mg base N qual scope f cd A outer s₀ H₀ E) E:=by
 intro pins σ H s e s' I hq
 obtain ⟨ea,a0,Bh,H',rfl,os,bare,un,hok,fl,hB,hE⟩:=hq
 obtain ⟨hh,g,d,t,os'⟩:=s'
 obtain rfl:os'=s.os:=os
 have J:=I.call (h':=hh) (g':=g) (d':=d) (t':=t) (ch:=[]) un hok bare (fun b z=>absurd z (by simp))
 show wpAny (model P w) _ (leaving _ (.ref ea)) _ _ _
 refine wpAny_leaves_onW (base:=Bh) (L:=s₀.heap.objs.size) I.ok.frames rfl fl fun h'' LA sl=>?_
 have neL:∀ b o,s₀.heap.get? b=some o→∃ o1,s.heap.get? b=some o1:=fun b o e=>I.base.there b o e (fun z=>nomatch z)
 obtain ⟨u1,u2,u3⟩:=J.out (h'':=h'') (Bh:=Bh) rfl (fun b o q hb hh=>hB b o q (hh.imp (fun z=>by
  obtain ⟨o0,e0⟩:=Option.isSome_iff_exists.mp z
  obtain ⟨o1,e1⟩:=neL b o0 e0
  rw [e1];rfl) id) hb) LA.1 sl
 exact ⟨ea,a0,Bh,H',rfl,J.os,bare,u1,u2,LA,u3,hE⟩
end
section
variable {X:Cx} {st:Stmt} {rest:List Stmt} {t:TS}
noncomputable def DF:Ends:={ nx:=fun _ _=>False,rt:=fun _ _=>False,bk:=fun _ _=>False,ct:=fun _ _=>False }
theorem By (h1:PS X st t):PSs X (st::rest) (fun _ σ H=>t DF σ H):=by
 intro pins s σ H D I h
 refine wpAny_execs_cons (thn (h1 pins s σ H DF I h) fun f s1 q=>?_)
 cases f with
 | next=>obtain ⟨_,_,_,q⟩:=q;exact False.elim q
 | ret v=>obtain ⟨_,_,_,_,_,q⟩:=q;exact False.elim q
 | brk=>obtain ⟨_,_,_,q⟩:=q;exact False.elim q
 | cont=>obtain ⟨_,_,_,q⟩:=q;exact False.elim q
end
end L2
namespace Br
open PySem PySem.Spec PyProof.Rows L2
noncomputable def uW (C:Addr) (X:Cx) (E:L2.St→XK):Prop:=∀ (pins:List (Addr×Obj)) (σ:L2.St) (H:Hp) (s:Shared) (e:Value) (s':Shared),Inv X pins σ H s→CXE X.prog X.w C X.stack H s (E σ) e s'→X.xe e s'
noncomputable def tX (C:Addr) (E:L2.St→XK) (R:Dm.Env→Option Dm.Env) (σ:L2.St) (H:Hp):Prop:=∃ H0 ρ ρ',aB H0 H σ ρ∧R ρ=some ρ'∧∀ a H0' H',ESt σ ρ H0 H ρ' H0' H'→E σ (.ref C) (some a) H'
noncomputable def spX (C:Addr) (bad:List Dm.Dat→Bool):Sp:=fun vs H _ E=>∃ H0 ds,az H0 H∧aJ H0 vs ds∧bad ds=true∧∀ a H0' H',aN H0 H H0' H'→E (.ref C) (some a) H'
noncomputable abbrev XE (X:Cx) (C:Addr) (E:L2.St→XK) (e:Expr) (R:Dm.Env→Option Dm.Env):Prop:=PE X e (fun σ H _=>tX C E R σ H)
noncomputable abbrev XS (X:Cx) (C:Addr) (E:L2.St→XK) (st:Stmt) (R:Dm.Env→Option Dm.Env):Prop:=PS X st (fun _ σ H=>tX C E R σ H)
section
variable {X:Cx} {C:Addr} {E:L2.St→XK} {k:Nat} {F:Addr} {fd:FuncData} {ps:List Str} {x:Str} {p pos:Pos} {e:Expr} {es:List Expr} {fs:List Dm.FE} {bad:List Dm.Dat→Bool} {R S:Dm.Env→Option Dm.Env}
theorem EK {pins:List (Addr×Obj)} {σ:L2.St} {H:Hp} {s:Shared} {Q:VK} {us:List Value} {vs:List V} (G:aW X.prog X.w X.K X.mg X.base (CXE X.prog X.w C) k F fd ps (spX C bad)) (hr:bL k X.A) (hb:Binds X.K fd ps []) (hx:uW C X E)
  (I:Inv X pins σ H s) (r:Vals vs us) (h:spX C bad vs H Q (E σ)):wpAny (model X.prog X.w) X.A (call (.ref F) us) (EP X pins σ Q) X.xe s:=by
 have hl:(us++[]).length=ps.length:=by rw [List.append_nil,← r.length];exact G.len _ _ _ _ h
 have hb':=hb s us I.kIn hl
 rw [List.append_nil] at hb'
 refine wpAny_call (codeAny_mono (G.run X.A X.stack s H ⟨us,[]⟩ us vs Q (E σ) hr I.Ic hb' r h) fun r s' hq=>?_)
 cases r with
 | error e=>exact hx pins σ H s e s' I hq
 | ok fl=>
  cases fl with
  | ret u=>exact I.after hq
  | next=>exact False.elim hq
  | brk=>exact False.elim hq
  | cont=>exact False.elim hq
theorem yD {σ:L2.St} {H:Hp} (h:tX C E (Dm.a_ bad fs) σ H) (Q:VK):tDA fs σ H fun vs H1=>spX C bad vs H1 Q (E σ):=by
 obtain ⟨H0,ρ,ρ',st,hR,k⟩:=h
 unfold Dm.a_ at hR
 split at hR
 ·cases hR
 rename_i xs ρ1 e1
 split at hR
 ·cases hR
 rename_i ds p1
 split at hR
 case isFalse=>cases hR
 rename_i hbad
 cases hR
 refine ⟨H0,ρ,xs,ρ',st,e1,fun vs H1 Hb t1 r1=>?_⟩
 obtain ⟨ρ2,e2⟩:=j3 p1
 obtain ⟨H2,t2,b2,r2⟩:=takes t1 (az.refl _) r1 e2
 exact ⟨H2,ds,t2.st.same,r2,hbad,fun a H0' H' g=>k a H1 H' (t1.trans (.grow t1.st ⟨az.refl _,g.s1,fun a o q=>.inr q,t1.st.same.trans g.s1⟩))⟩
theorem x_call (G:aW X.prog X.w X.K X.mg X.base (CXE X.prog X.w C) k F fd ps (spX C bad)) (hr:bL k X.A) (hg:Gl X x) (hm:X.mg x=some (.ref F)) (hk:PySem.W.keepIn X.K (.ref F)=true) (hb:Binds X.K fd ps []) (hx:uW C X E)
  (ha:DA X (e::es) fs) (hdb:(x == ("__debug__" : Str))=false:=by decide) (he:starEach (e::es) X.env=(false,eval e X.env)::starEach es X.env:=by rfl) (hpl:(backTo pos (starEach es X.env)).any (·.1)=false:=by rfl) :
  XE X C E (.Call (.Name x p) (e::es) [] pos) (Dm.a_ bad fs):=by
 intro pins s σ H Q I h
 refine wpAny_Call_Name_kw (jG I hg hm ?_ hdb)
 refine PySem.W.callWith_K (h₀:=X.base) I.ok.mod.kin hk (thn (ha pos pins s σ H _ I (yD h Q)) fun us s1 ⟨vs,H1,I1,r,q⟩=>⟨I1.kIn,?_⟩) he hpl
 exact EK G hr hb hx I1 r q
theorem cA (h:XE X C E e R) (hs:swapsWith e none pos.line X.env=pure false:=by rfl):XS X C E (.Expr e pos) R:=PS.weak (k6 h hs) fun _ _ _ q=>q
theorem x_a (i:Nat) {x:Str} {pos':Pos} (hN:X.N.Nodup) (he:XE X C E e R) (hi:X.N[i]?=some x:=by rfl) (hx:Loc X.env.scope x:=by first | exact Or.inl rfl | exact Or.inr rfl) (hs:swapsWith e (some (.Name x pos')) pos.line X.env=pure false:=by rfl)
  (hf:X.fn x=true∨X.env.scope.names.lookup x=some .local:=by first | exact .inl rfl | exact .inr rfl | assumption):XS X C E (.Assign [.Name x pos'] e pos) R:=PS.weak (AB hN hi hx he hs hf) fun _ _ _ q=>q
end
section
variable {P:Program} {w:World} {K:PySem.W.Frag} {mg:Str→Option Value} {base:Heap} {N:List Str} {qual:Str} {scope:Scope} {f:Addr} {cd:Value} {A:Around} {outer:List Env} {s₀:Shared} {H₀:Hp} {E:XK} {C:Addr}
theorem pI:uW C (g6 (CXE P w C) P w K mg base N qual scope f cd A outer s₀ H₀ E) (fun _=>E):=fun pins σ H s e s' I q=>Lz pins σ H s e s' I q
theorem x_raise {x:Str} {bmB:List Value} {B newId initId:String} {np cpos pos:Pos} (O:OwnCls x C bmB newId mg base) (FB:ExcBaseFacts B newId initId bmB) (hg:Gl (g6 (CXE P w C) P w K mg base N qual scope f cd A outer s₀ H₀ E) x) (hdb:(x == ("__debug__" : Str))=false:=by decide) :
  XS (g6 (CXE P w C) P w K mg base N qual scope f cd A outer s₀ H₀ E) C (fun _=>E) (.Raise (some (.Call (.Name x np) [] [] cpos)) none pos) Dm.zY:=
 z5 rfl hg O FB (fun pins σ H s h' e I ⟨H0,ρ,ρ',st,hR,k⟩ hm=>EJ I hm (k e _ _ (by cases hR;exact ESt.refl st))) hdb
end
theorem tE {C:Addr} {n m:Nat} {R:Dm.Env→Option Dm.Env} {vs:List V} {H:Hp} {Q:VK} {E:XK} (h:spX C (Dm.fnX n m R) vs H Q E):vs.length=n:=by
 obtain ⟨H0,ds,s,rs,e,k⟩:=h
 unfold Dm.fnX at e
 rw [Bool.and_eq_true,decide_eq_true_eq] at e
 rw [rs.length];exact e.1
theorem BA {N:List Str} {n m:Nat} {vs:List V} {H0 H:Hp} {ds:List Dm.Dat} (hm:N.length=n+m) (hvn:vs.length=n) (s:az H0 H) (rs:aJ H0 vs ds) :
  aB H0 H (start N vs) (ds.map Dm.Cell.sh++List.replicate m .un)∧∀ a,¬ au (start N vs) (ds.map Dm.Cell.sh++List.replicate m .un) a:=by
 have hl:=rs.length
 refine ⟨?_,fun a ⟨i,d,h1,_⟩=>by
  by_cases hi:i<ds.length
  ·rw [List.getElem?_append_left (by simpa using hi),List.getElem?_map] at h1
   cases q:ds[i]? with
   | none=>rw [q] at h1;cases h1
   | some y=>rw [q] at h1;cases h1
  ·rw [List.getElem?_append_right (by simpa using hi),List.getElem?_replicate] at h1
   split at h1<;>cases h1⟩
 refine ⟨s,?_,fun i d h=>?_,fun i d h=>?_,fun i j d e a h1 h2 _ _=>?_⟩
 ·unfold L2.start
  simp only [List.length_append,List.length_map,List.length_replicate]
  omega
 ·have hi:i<ds.length:=by
   by_cases hi:i<ds.length
   ·exact hi
   ·rw [List.getElem?_append_right (by simpa using hi),List.getElem?_replicate] at h
    split at h<;>cases h
  rw [List.getElem?_append_left (by simpa using hi),List.getElem?_map] at h
  cases q:ds[i]? with
  | none=>rw [q] at h;cases h
  | some y=>
   rw [q] at h
   cases h
   obtain ⟨v,hv,r⟩:=rs.get q
   refine ⟨v,?_,r⟩
   unfold L2.start
   rw [List.getElem?_append_left (by simpa [hl] using hi),List.getElem?_map,hv]
   rfl
 ·by_cases hi:i<ds.length
  ·rw [List.getElem?_append_left (by simpa using hi),List.getElem?_map] at h
   cases q:ds[i]? with
   | none=>rw [q] at h;cases h
   | some y=>rw [q] at h;cases h
  ·rw [List.getElem?_append_right (by simpa using hi),List.getElem?_replicate] at h
   split at h<;>cases h
 ·by_cases hi:i<ds.length
  ·rw [List.getElem?_append_left (by simpa using hi),List.getElem?_map] at h1
   cases q:ds[i]? with
   | none=>rw [q] at h1;cases h1
   | some y=>rw [q] at h1;cases h1
  ·rw [List.getElem?_append_right (by simpa using hi),List.getElem?_replicate] at h1
   split at h1<;>cases h1
end Br
namespace PySem.W
open PySem PySem.Spec PySem.Calls PyProof.Rows
structure j5 (K:Frag) (C:Addr):Prop where
 ga:findIn K (.ref C) "__getattribute__" = some (some (.builtin "BaseException.__getattribute__"))
 gn:findIn K (.ref C) "__getattr__" = some none
 cl:findIn K (.ref C) "__class__" = some (some (.builtin "object.__class__"))
 mB:mroIn K C (.type "BaseException")=some true
 mO:mroIn K C (.type "object")=some true
noncomputable def qT (x C:Addr) (h:Heap):Prop:=∃ ox,h.get? x=some ox∧ox.cls=.ref C
theorem jH {x C:Addr} {M:Model} {h:Heap} (p:qT x C h):Looks M h (typeOf (.ref x)) (.ref C):=by
 obtain ⟨o,h1,h2⟩:=p
 exact h2▸(Looks.ld h1).andThen .now
section
variable {prog:Program} {w:World} {A:Around} {K:Frag} {x C:Addr} {s:Shared} {R:Result→Shared→Prop}
theorem wR {tp:Value} (X:K.In s.heap) (I:qT x C s.heap) (hm:mroIn K C (.type "object")=some true)
  (h:R (.ok (.ret (.ref C))) s):codeAny (model prog w) A (.call (.builtin "getset_descriptor.__get__") ⟨[.builtin "object.__class__",.ref x,tp],[]⟩) R s:=by
 obtain ⟨hh,g,dr,t,os⟩:=s
 have L0:=jH (M:=model prog w) I
 have L1:=looks_mroIn (M:=model prog w) X hm
 refine codeAny_call_builtin KF.slot_gs.plain KF.entry_gs (KF.slot_gs.check _ _ _ _ _ _ _ _ KF.type_class (KF.args_gs _ _ _) ?_)
 unfold Builtin.«getset_descriptor.__get__» Builtin.Getset_descriptor.descrGet
 rw [dga_obj]
 refine wpAny_bind (wpAny_pure ?_)
 unfold Builtin.Getset_descriptor.descrGetter Builtin.Getset_descriptor.descrCheckInstance Builtin.Getset_descriptor.descrNameAndClass isInstance
 simp only [KF.owner_class]
 repeat lk
 refine ⟨Code.quiet_builtin _ (by decide +kernel),codeAny_builtin KF.entry_class ?_⟩
 unfold Builtin.«object.__class__» shownTypeOf
 repeat lk
 exact h
end
section
variable {prog:Program} {w:World} {A:Around} {E:Value→Shared→Prop} {K:Frag} {x C:Addr} {ox:Obj} {h:Heap} {g:Array GenState} {d:Drawn} {t:Nat} {os:OsState}
theorem BB {M:Model} {nameV:Value} {Q:Unit→Shared→Prop} (Z:j5 K C) (X:K.In h) (I:qT x C h) (hq:Q () ⟨h,g,d,t,os⟩):wpAny M A (checkBuiltinCall "BaseException.__getattribute__" ⟨[.ref x,nameV],[]⟩) Q E ⟨h,g,d,t,os⟩:=by
 have hk:builtinKind "BaseException.__getattribute__" = some .slot:=by decide +kernel
 have hsplit:splitId "BaseException.__getattribute__" = some ("BaseException","__getattribute__"):=by decide +kernel
 have L0:=jH (M:=M) I
 have L1:=looks_mroIn (M:=M) X Z.mB
 have LI:Looks M h (isInstance (.ref x) (.type "BaseException")) true:=L0.andThen L1
 have ha:=PySem.F.args_bexc_ga (.ref x) nameV
 simp only [checkBuiltinCall,hk,hsplit]
 refine wpAny_bind (LI.at ?_)
 repeat (first | assumption | wp_step)
theorem BC {tk:Tok} {Q:Fin→Shared→Prop} (Z:j5 K C) (X:K.In h) (I:qT x C h) (hq:Q (.done (.ret (.ref C))) ⟨h,g,d,t,os⟩) :
  wpAny (model prog w) A (Builtin.«object.__getattribute__» ⟨[.ref x,.str "__class__" tk],[]⟩) Q E ⟨h,g,d,t,os⟩:=by
 have hT5:(⟨h,g,d,t,os⟩:Shared).TypeIs (.builtin "object.__class__") "getset_descriptor" := F.typeOf_object_class
 have f5:=F.typeOf_object_class
 have f6:=F.slot_gs_get.lookup
 have f7:=F.slot_gs_set.lookup
 have L0:=jH (M:=model prog w) I
 have L1:=looks_findIn (M:=model prog w) X Z.cl
 repeat (any_goals (first | assumption | with_reducible refine L0.at ?_ | with_reducible refine L1.at ?_ | wp_step))
 refine wR X I Z.mO ?_
 repeat (any_goals (first | assumption | wp_step))
theorem EL {tk:Tok} {R:Result→Shared→Prop} (Z:j5 K C) (X:K.In h) (I:qT x C h) (hq:R (.ok (.ret (.ref C))) ⟨h,g,d,t,os⟩) :
  codeAny (model prog w) A (.call (.builtin "BaseException.__getattribute__") ⟨[.ref x,.str "__class__" tk],[]⟩) R ⟨h,g,d,t,os⟩:=
 codeAny_call_builtin PySem.F.excAttr_ValueError.ga.plain PySem.F.entry_bexc_ga (BB Z X I (BC Z X I hq))
theorem LB {tk:Tok} {Q:Value→Shared→Prop} (Z:j5 K C) (X:K.In h) (I:qT x C h) (hq:Q (.ref C) ⟨h,g,d,t,os⟩) :
  wpAny (model prog w) A (getAttrBy (.ref x) (.str "__class__" tk) false) Q E ⟨h,g,d,t,os⟩:=by
 have f3:=PySem.F.excAttr_ValueError.ga.bind (.ref x)
 have hx2:(Value.builtin "BaseException.__getattribute__" == Value.builtin "object.__getattribute__")=false:=by decide +kernel
 have hx1:(onTheHeap (Value.ref C)&&Value.builtin "BaseException.__getattribute__" == Value.builtin "object.__getattribute__")=false:=by rw [hx2];rfl
 have L0:=jH (M:=model prog w) I
 have L1:=looks_findIn (M:=model prog w) X Z.ga
 have L2:=looks_findIn (M:=model prog w) X Z.gn
 repeat (any_goals (first | assumption | with_reducible refine L0.at ?_ | with_reducible refine L1.at ?_ | with_reducible refine L2.at ?_ | wp_step))
 refine EL Z X I ?_
 repeat (any_goals (first | assumption | wp_step))
theorem EM {s:Shared} {Q:Option Value→Shared→Prop} (Z:j5 K C) (X:K.In s.heap) (I:qT x C s.heap) (hq:Q (some (.ref C)) { s with toks:=s.toks+1 }):wpAny (model prog w) A (getAttr? (.ref x) "__class__") Q E s:=by
 obtain ⟨h,g,d,t,os⟩:=s
 unfold getAttr? getAttrBy?
 repeat (any_goals (first | assumption | with_reducible apply LB Z X I | wp_step))
theorem BE (Z:j5 K C) (hc:(clsIn K C).isSome=true):KitX K (.ref x) (.ref C) (qT x C) where
 ty:=fun _ _ _ I=>jH I
 it:=fun _ _ X _=>by
  unfold clsIn at hc
  split at hc
  ·rename_i c' d' cd' sl' ho
   intro A' Q' E' s' k q
   unfold isType loadHead
   exact wpAny_bind (wpAny_loadPart (k _ _ (X _ _ ho)) (wpAny_pure q))
  ·cases hc
 ne:=fun h tp dd its n sl X htp=>by
  refine Bool.eq_false_iff.mpr fun q=>?_
  have e:C=tp:=Value.ref.inj (beq_iff_eq.mp q)
  subst e
  unfold clsIn at hc
  split at hc
  ·rename_i c' d' cd' sl' ho
   have z:=(X _ _ ho).symm.trans htp
   cases z
  ·cases hc
 ca:=fun X I k=>EM Z X I k
end
end PySem.W
namespace PySem
theorem nR {α:Type} (p:α→Bool):∀ (l:List α) (i:Nat) (x:α),l[i]?=some x→p x=false→(l.eraseIdx i).find? p=l.find? p
 | [],i,x,h,_=>by simp at h
 | y::l,0,x,h,hp=>by
  simp only [List.getElem?_cons_zero,Option.some.injEq] at h
  subst h
  rw [List.eraseIdx_cons_zero,List.find?_cons,hp]
 | y::l,i+1,x,h,hp=>by
  rw [List.eraseIdx_cons_succ,List.find?_cons,List.find?_cons,nR p l i x (by simpa using h) hp]
theorem qU {es:Array DictEntry} {i:Nat} {name y:Str} (hi:es.findIdx? (·.key.isStr name)=some i) (hy:y≠name):nsFind (es.eraseIdxIfInBounds i) y=nsFind es y:=by
 obtain ⟨hlt,hp,_⟩:=Array.findIdx?_eq_some_iff_getElem.mp hi
 have hq:(es[i]).key.isStr y=false:=by
  cases hk:(es[i]).key with
  | str z t=>
   rw [hk] at hp
   simp only [Value.isStr,beq_iff_eq] at hp
   simp only [Value.isStr,beq_eq_false_iff_ne]
   intro e;exact hy (e.symm.trans hp)
  | _=>rw [hk] at hp;simp [Value.isStr] at hp
 have h2:(es.eraseIdxIfInBounds i).toList=es.toList.eraseIdx i:=by
  unfold Array.eraseIdxIfInBounds
  rw [dif_pos hlt,Array.toList_eraseIdx]
 unfold nsFind findBy
 rw [← Array.find?_toList,← Array.find?_toList,h2,nR _ _ i es[i] (by rw [Array.getElem?_toList,Array.getElem?_eq_getElem hlt]) hq]
section
variable {M:Model} {A:Around} {E:Value→Shared→Prop} {s:Shared} {env:Env}
theorem tF {a:Addr} {m} {name:Str} {Q:Bool→Shared→Prop} (hn:s.heap.Ns a m)
  (hQ:∀ h' m',h'.Ns a m'→(∀ y,y≠name→m' y=m y)→Heap.SameBut a s.heap h'→Q (m name).isSome { s with heap:=h' }):wpAny M A (nsDel a name) Q E s:=by
 obtain ⟨o,es,ep,ho,hd,hk,hm⟩:=id hn
 have hany:es.any (·.refKey)=false:=by
  rw [Array.any_eq_false'];intro e he;obtain ⟨n,t,h⟩:=hk e he;simp [DictEntry.refKey,h]
 have hsome:(m name).isSome=es.any (·.key.isStr name):=by
  rw [← hm name];simp only [nsFind,findBy,Option.isSome_map]
  rw [Bool.eq_iff_iff];simp only [Array.find?_isSome,Array.any_eq_true]
  constructor
  ·rintro ⟨x,hx,hp⟩;obtain ⟨i,hi,rfl⟩:=Array.mem_iff_getElem.mp hx;exact ⟨i,hi,hp⟩
  ·rintro ⟨i,hi,hp⟩;exact ⟨_,Array.getElem_mem hi,hp⟩
 have hhas:nsHas name o=pure (es.any (·.key.isStr name)):=by
  rw [nsHas_eq];unfold nsHasByArray;rw [hd]
  show (if (es.any fun x=>x.key.isStr name)=true then _ else _)=_
  generalize (es.any fun x=>x.key.isStr name)=b
  cases b<;>simp [hany]
 unfold nsDel
 refine wpAny_bind (wpAny_loadPart ho ?_)
 rw [hhas]
 refine wpAny_bind (wpAny_pure ?_)
 rw [← hsome]
 cases hmn:(m name).isSome
 ·have:=hQ s.heap m hn (fun _ _=>rfl) (.refl ..)
  rw [hmn] at this
  exact wpAny_pure this
 ·refine wpAny_bind (wpAny_updatePart ho (wpAny_pure ?_))
  have key:∃ m',(s.heap.update a (Obj.dropName name)).Ns a m'∧∀ y,y≠name→m' y=m y:=by
   obtain ⟨cl,d,dt,sl⟩:=o
   subst hd
   cases hi:es.findIdx? (·.key.isStr name) with
   | some i=>exact ⟨nsFind (es.eraseIdxIfInBounds i),⟨_,_,ep+1,Heap.get?_update_self _ ho (by simp only [Obj.dropName_eq,Obj.dropNameByArray,hi]<;>rfl),(by simp only [Obj.dropName_eq,Obj.dropNameByArray,hi]<;>rfl),hk.erase i,fun _=>rfl⟩,fun y hy=>by rw [qU hi hy,hm]⟩
   | none=>exact ⟨nsFind es,⟨_,_,ep,Heap.get?_update_self _ ho (by simp only [Obj.dropName_eq,Obj.dropNameByArray,hi]<;>rfl),(by simp only [Obj.dropName_eq,Obj.dropNameByArray,hi]<;>rfl),hk,fun _=>rfl⟩,fun y _=>hm y⟩
  obtain ⟨m',hm',hy⟩:=key
  have:=hQ _ m' hm' hy (Heap.SameBut.update ..)
  rw [hmn] at this
  exact this
theorem n5 {n:Str} {pos:Pos} {m:Str→Option Value} {Q:Unit→Shared→Prop} (hl:env.kindOf n=some .local) (hn:s.heap.Ns env.locals m)
  (hp:(env.scope.kind == .class||(env.scope.kind == .module&&env.locals != env.globals))=false)
  (h:∀ h' m',h'.Ns env.locals m'→(∀ y,y≠n→m' y=m y)→Heap.SameBut env.locals s.heap h'→Q () { s with heap:=h',toks:=s.toks+1 }) :
  wpAny M A (do bindName env n .none;unbindBehindTheSuite env n pos) Q E s:=by
 refine wpAny_bind (wpAny_bindName (wpAny_storeName_local hl hn (fun h₁ hn₁ hs₁=>?_) hp))
 unfold unbindBehindTheSuite
 refine wpAny_onRaise ?_
 unfold unbindName
 refine wpAny_bind (wpAny_point (wpAny_bind ?_))
 unfold deleteName
 simp only [hl,hp]
 rw [if_neg (by decide)]
 refine wpAny_bind (tF hn₁ fun h₂ m₂ hn₂ hy hs₂=>?_)
 simp only [if_true,Option.isSome_some,Bool.not_true,Bool.false_eq_true,if_false]
 exact wpAny_pure (wpAny_point (h h₂ m₂ hn₂ (fun y hny=>(hy y hny).trans (if_neg hny)) (hs₁.trans hs₂)))
end
end PySem
namespace PySem.W
open PySem PySem.Spec PySem.Calls PyProof.Rows
structure lN (K:Frag) (C CP:Addr):Prop where
 ty:typeIn K (.ref CP)=some (.type "type")
 cl:(clsIn K CP).isSome=true
 mB:mroIn K CP (.type "BaseException")=some true
 mP:mroIn K C (.ref CP)=some true
theorem uX {M:Model} {A:Around} {E:Value→Shared→Prop} {K:Frag} {x C CP:Addr} {h:Heap} {g:Array GenState} {d:Drawn} {t:Nat} {os:OsState} {Q:Bool→Shared→Prop}
  (Z:lN K C CP) (X:K.In h) (I:qT x C h) (hq:Q true ⟨h,g,d,t,os⟩):wpAny M A (excMatches (.ref x) (.ref CP)) Q E ⟨h,g,d,t,os⟩:=by
 have L0:=jH (M:=M) I
 have L1:=looks_typeIn (M:=M) X Z.ty
 have L2:=looks_mroIn (M:=M) X Z.mB
 have L3:=looks_mroIn (M:=M) X Z.mP
 have L4:Looks M h (isType (.ref CP)) true:=by
  have hc:=Z.cl
  unfold clsIn at hc
  split at hc
  ·rename_i c' d' cd' sl' ho
   intro A' Q' E' s' k q
   unfold isType loadHead
   exact wpAny_bind (wpAny_loadPart (k _ _ (X _ _ ho)) (wpAny_pure q))
  ·cases hc
 have LT:Looks M h (isSubtype (.type "type") (.type "tuple")) false:=Looks.of_pure tc_notTuple
 unfold excMatches isInstance
 repeat lk
 exact hq
end PySem.W
namespace L2
open PySem PySem.Spec PyProof.Rows
section
variable {X:Cx} {pins:List (Addr×Obj)} {σ:L2.St} {H:Hp} {s:Shared}
theorem Inv.fly (I:Inv X pins σ H s) {h'' B:Heap} {t':Nat} (hx:X.ex=[]) (hB:∀ b o,s.heap.get? b=some o→b∉frs X.stack→((X.s₀.heap.get? b).isSome=true∨(H b).isSome=true∨∃ p∈X.pn++pins,p.1=b)→B.get? b=some o)
  (k1:B.StaysIn h'') (sl:s.heap.UpToSlots h''):Inv X pins σ H { s with heap:=h'',toks:=t' }:=by
 obtain ⟨u1,u2,_⟩:=I.out (h'':=h'') (Bh:=B) hx (fun b o e hb hh=>hB b o e hb (hh.imp id .inl)) k1 sl
 have cellK:∀ c v,s.heap.IsCell c v→h''.IsCell c v:=fun c v ⟨o,ho,hd⟩=>by
  obtain ⟨sl',e⟩:=sl c o ho fun vs q=>by rw [hd] at q;cases q
  exact ⟨_,e,hd⟩
 refine ⟨I.ok,I.os,I.bare,by rw [hx];exact u1,?_,fun x c e=>?_,I.free,I.fu,fun p hp=>?_,u2,I.len⟩
 ·obtain ⟨m,hn,hl⟩:=I.loc
  refine ⟨m,sl.ns hn,fun i x v e1 e2 e3=>?_⟩
  obtain ⟨u,r,l⟩:=hl i x v e1 e2 e3
  refine ⟨u,r,?_⟩
  rcases l with l | ⟨k,c,e,z⟩
  ·exact .inl l
  ·exact .inr ⟨k,c,e,cellK c _ z⟩
 ·obtain ⟨v,z⟩:=I.cell x c e
  exact ⟨v,cellK c v z⟩
 ·obtain ⟨e,n,ne,nf,d⟩:=I.pin p hp
  exact ⟨k1 _ _ (hB p.1 p.2 e (fun z=>(List.mem_cons.mp (I.oO _ z)).elim ne nf) (.inr (.inr ⟨p,hp,rfl⟩))),n,ne,nf,d⟩
theorem Inv.LC (I:Inv X pins σ H s) {ea:Addr} {o:HO} (n:H ea=none) (hok:bu X.prog X.w (upd H ea o) s.heap ea o) (n0:X.s₀.heap.get? ea=none) (nl:ea≠X.env.locals) (nc:∀ x c,X.env.cells.lookup x=some c→c≠ea)
  (np:∀ p∈X.pn++pins,p.1≠ea):Inv X pins σ (upd H ea o) s:=by
 have ne:∀ b u,H b=some u→b≠ea:=fun b u e z=>by rw [z,n] at e;cases e
 have n1:∀ b u,X.s₀.heap.get? b=some u→b≠ea:=fun b u e z=>by rw [z,n0] at e;cases e
 refine ⟨I.ok,I.os,I.bare,⟨I.base.keep,I.base.slot,fun b u e q hx=>?_,I.base.there,fun b xs e=>?_,fun b u v e=>?_,fun b ps e=>?_⟩,I.loc,I.cell,?_,fun x c e=>?_,fun p hp=>?_,fun b u e=>?_,I.len⟩
 ·rw [ay (n1 b u e)];exact I.base.free b u e q hx
 ·have:=I.base.tups b xs e;rw [ay (ne b _ this)];exact this
 ·have:=I.base.nX b u v e;rw [ay (ne b _ this)];exact this
 ·obtain ⟨more,h⟩:=I.base.oN b ps e;exact ⟨more,by rw [ay (ne b _ h)];exact h⟩
 ·rw [ay (Ne.symm nl)];exact I.free
 ·rw [ay (nc x c e)];exact I.fu x c e
 ·obtain ⟨e,q,a,b,d⟩:=I.pin p hp
  exact ⟨e,by rw [ay (np p hp)];exact q,a,b,d⟩
 ·by_cases hb:b=ea
  ·subst hb;rw [aE] at e;cases e;exact hok
  ·rw [ay hb] at e
   exact (I.hok b u e).stay (fun c v _ q=>q) (fun c q=>by rw [ay (ne c _ q)];exact q) fun c xs q=>by rw [ay (ne c _ q)];exact q
theorem name_goes {M:Model} {A:Around} {E:Value→Shared→Prop} {i:Nat} {n:Str} {pos:Pos} {Q:Unit→Shared→Prop} (I:Inv X pins σ H s) (hN:X.N.Nodup) (hi:X.N[i]?=some n) (hk:X.env.kindOf n=some .local)
  (h:∀ s',Inv X pins (σ.set i none) H s'→Q () s'):wpAny M A (do bindName X.env n .none;unbindBehindTheSuite X.env n pos) Q E s:=by
 obtain ⟨m,hn,hl⟩:=id I.loc
 have hcls:(X.env.scope.kind == .class||(X.env.scope.kind == .module&&X.env.locals != X.env.globals))=false:=by rw [I.ok.kind];rfl
 have cne:=I.cne
 refine n5 hk hn hcls fun h' m' hn' hy hs=>?_
 have low:∀ b o,X.s₀.heap.get? b=some o→b≠X.env.locals:=fun b o e=>Nat.ne_of_lt (Nat.lt_of_lt_of_le (Heap.lt_size e) I.ok.above)
 refine h _ ⟨I.ok,I.os,I.bare,⟨fun b o e n hb hx=>?_,fun b o e n hb hx=>?_,I.base.free,fun b o e hx=>?_,I.base.tups,I.base.nX,I.base.oN⟩,⟨m',hn',fun j y v' e1 e2 e3=>?_⟩,fun y c e=>?_,I.free,I.fu,fun p hp=>?_,fun b u e=>?_,by simpa using I.len⟩
 ·exact (hs.2 b (low b o e)).trans (I.base.keep b o e n hb hx)
 ·obtain ⟨sl,e1⟩:=I.base.slot b o e n hb hx
  exact ⟨sl,(hs.2 b (low b o e)).trans e1⟩
 ·obtain ⟨o',e1⟩:=I.base.there b o e hx
  exact ⟨o',(hs.2 b (low b o e)).trans e1⟩
 ·have hj:j≠i:=fun z=>by
   subst z
   by_cases hlt:j<σ.length
   ·rw [List.getElem?_set_self hlt] at e2;cases e2
   ·rw [List.getElem?_eq_none (by simpa using hlt)] at e2;cases e2
  rw [List.getElem?_set_ne (Ne.symm hj)] at e2
  obtain ⟨u',r',q⟩:=hl j y v' e1 e2 e3
  refine ⟨u',r',?_⟩
  rcases q with ⟨k,e⟩ | ⟨k,c,e,z⟩
  ·exact .inl ⟨k,by rw [hy y fun e=>hj (oQ hN e1 (e▸hi))];exact e⟩
  ·obtain ⟨o,ho,hd⟩:=z
   exact .inr ⟨k,c,e,o,(hs.2 c (cne y c e)).trans ho,hd⟩
 ·obtain ⟨v,o,ho,hd⟩:=I.cell y c e
  exact ⟨v,o,(hs.2 c (cne y c e)).trans ho,hd⟩
 ·obtain ⟨e,q,a,b,d⟩:=I.pin p hp
  exact ⟨(hs.2 _ a).trans e,q,a,b,d⟩
 ·refine (I.hok b u e).stay (fun c v hc q=>(hs.2 c ?_).trans q) (fun _ q=>q) fun _ _ q=>q
  rintro rfl
  rcases hc with rfl | hc
  ·rw [I.free] at e;cases e
  ·rw [I.free] at hc;cases hc
end
end L2
namespace Br
open PySem PySem.Spec PyProof.Rows L2
theorem aB.drop {H0 H:Hp} {σ:L2.St} {ρ:Dm.Env} (st:aB H0 H σ ρ) (i:Nat):aB H0 H (σ.set i none) (ρ.set i .un):=by
 have m:=st.mask i
 have ne:∀ {j:Nat} {c:Dm.Cell},(ρ.set i .un)[j]?=some c→c≠.un→j≠i:=fun {j c} e hc z=>by
  subst z
  by_cases hlt:j<ρ.length
  ·rw [List.getElem?_set_self hlt] at e;cases e;exact hc rfl
  ·rw [List.getElem?_eq_none (by simpa using hlt)] at e;cases e
 have gs:∀ {j:Nat},j≠i→(σ.set i none)[j]?=σ[j]?:=fun {j} h=>List.getElem?_set_ne (Ne.symm h)
 refine ⟨m.same,by rw [List.length_set];exact m.len,fun j d e=>?_,fun j d e=>?_,fun j k d e a h1 h2 h3 h4=>?_⟩
 ·rw [gs (ne e (by simp))];exact m.sh j d e
 ·rw [gs (ne e (by simp))];exact m.ow j d e
 ·rw [gs (ne h1 (by simp))] at h3
  rw [gs (ne h2 (by simp))] at h4
  exact m.dis j k d e a h1 h2 h3 h4
theorem SSt.drop {H0 H:Hp} {σ:L2.St} {ρ:Dm.Env} (st:aB H0 H σ ρ) {i:Nat} (h0:i≠0):SSt σ ρ H0 H (σ.set i none) (ρ.set i .un) H0 H:=by
 refine ⟨aB.drop st i,Stp.refl _ _ _,fun a ⟨j,d,h1,h2⟩=>.inl ?_,List.getElem?_set_ne h0⟩
 by_cases hj:i=j
 ·subst hj
  by_cases hlt:i<ρ.length
  ·rw [List.getElem?_set_self hlt] at h1;cases h1
  ·rw [List.getElem?_eq_none (by simpa using hlt)] at h1;cases h1
 ·rw [List.getElem?_set_ne hj] at h1 h2
  exact ⟨j,d,h1,h2⟩
noncomputable def φX (ea C:Addr):HO:=.ext fun h=>∃ o,h.get? ea=some o∧o.cls=.ref C
theorem φX_ok {P:Program} {w:World} {H:Hp} {h:Heap} {ea C:Addr} {o:Obj} (e:h.get? ea=some o) (c:o.cls=.ref C):bu P w H h ea (φX ea C):=
 ⟨⟨o,e,c⟩,⟨o,e⟩,fun _ _ ⟨o,e,c⟩ k=>⟨o,k o e,c⟩⟩
noncomputable def Cx.in' (X:Cx) (pn:List (Addr×Obj)) (xe:Value→Shared→Prop):Cx:={ X with pn:=X.pn++pn,xe:=xe }
noncomputable def Cx.sub' (X:Cx) (A:Around) (xe:Value→Shared→Prop):Cx:={ X with A:=A,calm:=false,xe:=xe }
section
variable {X:Cx} {pins pn:List (Addr×Obj)} {σ:L2.St} {H:Hp} {s:Shared} {xe:Value→Shared→Prop}
theorem BF (I:Inv X pn σ H s):Inv (Cx.in' X pn xe) [] σ H s:=
 ⟨⟨I.ok.1,I.ok.2,I.ok.3,I.ok.4,I.ok.5,I.ok.6,I.ok.7,I.ok.8,I.ok.9,I.ok.10,I.ok.11,I.ok.12,I.ok.13,I.ok.14,I.ok.15,I.ok.16,I.ok.17,I.ok.18⟩,I.os,I.bare,I.base,I.loc,I.cell,I.free,I.fu,fun p hp=>I.pin p (by rw [List.append_nil] at hp;exact hp),I.hok,I.len⟩
theorem jI (I:Inv (Cx.in' X pn xe) pins σ H s):Inv X pn σ H s:=
 ⟨⟨I.ok.1,I.ok.2,I.ok.3,I.ok.4,I.ok.5,I.ok.6,I.ok.7,I.ok.8,I.ok.9,I.ok.10,I.ok.11,I.ok.12,I.ok.13,I.ok.14,I.ok.15,I.ok.16,I.ok.17,I.ok.18⟩,I.os,I.bare,I.base,I.loc,I.cell,I.free,I.fu,fun p hp=>I.pin p (List.mem_append_left _ hp),I.hok,I.len⟩
theorem yE {A:Around} (hA:A.frames=X.A.frames) (I:Inv X pins σ H s):Inv (Cx.sub' X A xe) pins σ H s:=
 ⟨⟨I.ok.1,I.ok.2,I.ok.3,I.ok.4,I.ok.5,I.ok.6,I.ok.7,I.ok.8,(fun h=>nomatch h),hA.trans I.ok.10,I.ok.11,I.ok.12,I.ok.13,I.ok.14,I.ok.15,I.ok.16,I.ok.17,I.ok.18⟩,I.os,I.bare,I.base,I.loc,I.cell,I.free,I.fu,I.pin,I.hok,I.len⟩
theorem rL {A:Around} (ok:X.Ok) (I:Inv (Cx.sub' X A xe) pins σ H s):Inv X pins σ H s:=
 ⟨ok,I.os,I.bare,I.base,I.loc,I.cell,I.free,I.fu,I.pin,I.hok,I.len⟩
end
structure rM (K:PySem.W.Frag) (C:Addr):Prop where
 get:PySem.W.j5 K C
 cls:(PySem.W.clsIn K C).isSome=true
noncomputable def LD (K:PySem.W.Frag) (C:Addr) (c:V) (b:Bool):List V→Hp→VK→Prop:=fun xs H Q=>∃ a,xs=[.ref a,c]∧H a=some (φX a C)∧Q (.bl b) H
section
variable {X:Cx} {C:Addr} {e:Expr} {f:Dm.FE} {p p2 pos:Pos} {b:Bool}
theorem LF {pins:List (Addr×Obj)} {σ:L2.St} {H:Hp} {s:Shared} {a:Addr} (I:Inv X pins σ H s) (h:H a=some (φX a C)):PySem.W.qT a C s.heap:=(I.hok a _ h).1
theorem uY {c:V} {u2:Value} (hc:RelV c u2) (hu:∀ u,RelV c u→u=u2) (Z:rM X.K C) (k:PySem.W.kitOne X.K (.ref C) u2=some b):fW X (.builtin "isinstance") (LD X.K C c b):=by
 intro pins s σ H xs us Q I r h
 obtain ⟨a,rfl,ha,q⟩:=h
 obtain ⟨u,u3,rfl,rx,ry⟩:=vals2 r
 cases rx
 obtain rfl:=hu u3 ry
 exact PySem.W.kia_one (PySem.W.BE Z.get Z.cls) I.kIn (LF I ha) k (by intro q;cases q) fun tk=>⟨.bl b,H,I.tok tk,rfl,q⟩
theorem GD {c:V} {σ:L2.St} {H:Hp} {Q:VK} (h:tD (Dm.e1 (Dm.zZ C b) f) σ H Q):tCB (LD X.K C c b) (qZ (tD f) (qZ (tC c) zC)) σ H Q:=by
 obtain ⟨H0,ρ,x,ρ',st,e,k⟩:=h
 unfold Dm.e1 at e
 split at e
 ·cases e
 rename_i x1 ρ1 e1
 split at e
 ·cases e
 rename_i dx p1
 cases dx with
 | exc C'=>
  unfold Dm.zZ at e
  dsimp only at e
  by_cases hC:C'=C
  ·subst hC
   rw [if_pos rfl] at e
   cases e
   refine ⟨H0,ρ,x1,_,st,e1,fun v H1 Hb t1 r1=>?_⟩
   have rv:Rep Hb v (.exc C'):=(r1.look t1.st p1).full t1.st.same
   cases rv with
   | exc q=>exact ⟨_,rfl,q,k _ H1 Hb t1 (Rep.bl _)⟩
  ·rw [if_neg hC] at e;cases e
 | _=>cases e
theorem bE {D:Addr} {tn:Str} (Z:rM X.K C) (k:PySem.W.kitOne X.K (.ref C) (.ref D)=some b) (hgT:Gl X tn) (hmT:X.mg tn=some (.ref D)) (hg:Gl X "isinstance") (hm:X.mg "isinstance" = none) (h:DE X e f) (hdb:(tn == ("__debug__" : Str))=false:=by decide)
  (he:starEach [e,.Name tn p2] X.env=(false,eval e X.env)::starEach [.Name tn p2] X.env:=by rfl) (hpl:(backTo pos (starEach [.Name tn p2] X.env)).any (·.1)=false:=by rfl) (he2:starEach [.Name tn p2] X.env=(false,eval (.Name tn p2) X.env)::starEach [] X.env:=by rfl) :
  DE X (.Call (.Name "isinstance" p) [e,.Name tn p2] [] pos) (Dm.e1 (Dm.zZ C b) f):=
 PE.weak (k_ (uY (c:=.ref D) rfl (fun u q=>q) Z k) hg hm PyProof.Rows.boot_isinstance (g4 h (g4 (x8 (v:=.ref D) hgT hmT rfl hdb) oV he2) he) (he:=he) (hpl:=hpl)) fun _ _ _=>GD
theorem wU {T:String} {tn:Str} (Z:rM X.K C) (k:PySem.W.kitOne X.K (.ref C) (.type T)=some b) (hvT:bootBuiltins tn=some (.type T)) (hgT:Gl X tn) (hmT:X.mg tn=none) (hg:Gl X "isinstance") (hm:X.mg "isinstance" = none) (h:DE X e f) (hn:tn ≠ "__name__" := by decide) (hdb:(tn == ("__debug__" : Str))=false:=by decide)
  (he:starEach [e,.Name tn p2] X.env=(false,eval e X.env)::starEach [.Name tn p2] X.env:=by rfl) (hpl:(backTo pos (starEach [.Name tn p2] X.env)).any (·.1)=false:=by rfl) (he2:starEach [.Name tn p2] X.env=(false,eval (.Name tn p2) X.env)::starEach [] X.env:=by rfl) :
  DE X (.Call (.Name "isinstance" p) [e,.Name tn p2] [] pos) (Dm.e1 (Dm.zZ C b) f):=
 PE.weak (k_ (uY (c:=.ty T) rfl (fun u q=>by cases q;rfl) Z k) hg hm PyProof.Rows.boot_isinstance (g4 h (g4 (x9 (v:=.ty T) hgT hmT hvT rfl hn hdb) oV he2) he) (he:=he) (hpl:=hpl)) fun _ _ _=>GD
end
section
variable {X:Cx} {C:Addr} {e:Expr} {es:List Expr} {f:Dm.FE} {p p2 pos:Pos} {b:Bool} {Ds:List Addr}
end
theorem pJ {K:PySem.W.Frag} {h₀:Heap} {mg:Str→Option Value} {x:Str} {C:Addr} {bmB:List Value} {newId:String} (X:K.In h₀) (G:mg x=some (.ref C)) (q:PySem.W.excIn K C bmB newId=true):OwnCls x C bmB newId mg h₀:=by
 refine ⟨G,?_⟩
 unfold PySem.W.excIn at q
 split at q
 ·rename_i dd cd sl ho
  split at q
  ·rename_i C' bm k0 k1 k2 k3 n k5 hm hs
   simp only [Bool.and_eq_true,beq_iff_eq,Bool.not_eq_true'] at q
   obtain ⟨⟨⟨⟨⟨rfl,rfl⟩,LG⟩,ht⟩,hok⟩,hni⟩:=q
   obtain ⟨nm,bs,mro,ns,qn,hd,sn,sub,ab,col,del⟩:=cd
   dsimp only at hm LG hok hni
   subst hm LG
   have hsl:sl=#[k0,k1,k2,k3,some (.builtin n),k5]:=by
    obtain ⟨l⟩:=sl
    simp only at hs
    rw [hs]
   subst hsl
   exact ⟨bm,ns,nm,qn,bs,hd,sn,sub,ab,col,dd,k0,k1,k2,k3,k5,_,X _ _ ho,.of_isNs (PySem.W.isNs_of_in X hok),PySem.W.nsMap_none_of_in X hok hni,PySem.W.tail_of_in X ht⟩
  ·cases q
 ·cases q
noncomputable abbrev bmV:List Value:=[.type "ValueError",.type "Exception",.type "BaseException",.type "object"]
section
variable {X:Cx} {a b c e:Expr} {f fa fb fc:Dm.FE} {p p2 pos:Pos} {es:List Expr} {fs:List Dm.FE}
theorem EN:OpR X (compareOp .IsNot) (Lw true):=by
 intro pins s σ H x y v u Q I rx ry h
 obtain ⟨rfl,q⟩:=h
 cases ry
 refine isnot_none_gen ?_
 rw [EE rx]
 exact ⟨.bl _,H,I,rfl,q⟩
theorem EO:OpD (Lw true) Dm.pG:=by
 intro H0 H x y dx dy z Q s rx ry e k
 unfold Dm.pG at e
 split at e
 ·cases e
  have hy:=yC ry
  have:y=V.non:=of_decide_eq_true (hy.trans rfl)
  refine ⟨this,?_⟩
  rw [if_pos rfl,yC rx]
  exact k _ H0 H (aN.refl s) (.bl _)
 ·cases e
theorem wV (ha:DE X a fa) (hb:DE X b fb):DT X (.Compare a [.IsNot] [b] pos) (Dm.tV (Dm.e2 Dm.pG fa fb)):=nP EN EO ha hb (gZ _)
end
end Br
namespace Dm
noncomputable def j6:List Int→Int
 | []=>0
 | x::r=>x+j6 r
noncomputable def h_ (a:Int):List Int→Int
 | []=>a
 | x::r=>h_ (if x>a then x else a) r
noncomputable def n8 (v:Int):List Int→Option Nat
 | []=>none
 | x::r=>if x=v then some 0 else (n8 v r).map (·+1)
noncomputable def pK:List Dat→Option RV
 | [.lst xs]=>(match jV xs with
  | some ns=>vI (j6 ns)
  | none=>none)
 | _=>none
noncomputable def rN:List Dat→Option RV
 | [.lst xs]=>(match jV xs with
  | some (n::ns)=>vI (h_ n ns)
  | _=>none)
 | _=>none
noncomputable def pL:Dat→Dat→Option RV
 | .lst xs,.int v=>(match jV xs with
  | some ns=>(match n8 v ns with
   | some i=>vI (i:Nat)
   | none=>none)
  | none=>none)
 | _,_=>none
noncomputable def mZ (a b:FE):FE:=fun ρ=>match a ρ with
 | none=>none
 | some (x,ρ1)=>match pk ρ1 x with
  | some (.lst _)=>(match b ρ1 with
   | none=>none
   | some (y,ρ2)=>match pk ρ2 x with
    | none=>none
    | some d=>match pk ρ2 y with
     | none=>none
     | some e=>match pL d e with
      | none=>none
      | some v=>some (v.bG,ρ2))
  | _=>none
end Dm
namespace Br
open PySem PySem.Spec PyProof.Rows L2
theorem BG (a b:List Int):Dm.j6 (a++b)=Dm.j6 a+Dm.j6 b:=by
 induction a with
 | nil=>rw [Dm.j6,List.nil_append,Int.zero_add]
 | cons x a ih=>rw [List.cons_append,Dm.j6,Dm.j6,ih,Int.add_assoc]
theorem nS (ns:List Int):∀ k,k≤ns.length→preSum (fun i=>ns.getD i 0) k=Dm.j6 (ns.take k)
 | 0,_=>rfl
 | k+1,h=>by
  have e:preSum (fun i=>ns.getD i 0) (k+1)=preSum (fun i=>ns.getD i 0) k+ns.getD k 0:=rfl
  rw [e,nS ns k (by omega),List.take_succ_eq_append_getElem (by omega),BG]
  rw [List.getD_eq_getElem?_getD,List.getElem?_eq_getElem (by omega)]
  simp [Dm.j6]
theorem BH (a x:Int) (l:List Int):Dm.h_ a (l++[x])=if x>Dm.h_ a l then x else Dm.h_ a l:=by
 induction l generalizing a with
 | nil=>rfl
 | cons y l ih=>rw [List.cons_append,Dm.h_,ih,Dm.h_]
theorem uZ (n0:Int) (ns:List Int):∀ k,k≤ns.length→(n0::ns).getD (argBest (fun i j=>decide ((n0::ns).getD i 0>(n0::ns).getD j 0)) k) 0=Dm.h_ n0 (ns.take k)
 | 0,_=>rfl
 | k+1,h=>by
  have ih:=uZ n0 ns k (by omega)
  have e:argBest (fun i j=>decide ((n0::ns).getD i 0>(n0::ns).getD j 0)) (k+1)=if decide ((n0::ns).getD (k+1) 0>(n0::ns).getD (argBest (fun i j=>decide ((n0::ns).getD i 0>(n0::ns).getD j 0)) k) 0) then k+1 else argBest (fun i j=>decide ((n0::ns).getD i 0>(n0::ns).getD j 0)) k:=rfl
  have ek:(n0::ns).getD (k+1) 0=ns[k]'(by omega):=by
   rw [List.getD_eq_getElem?_getD,List.getElem?_cons_succ,List.getElem?_eq_getElem (by omega)];rfl
  rw [e,ih,ek,List.take_succ_eq_append_getElem (by omega),BH]
  by_cases c:ns[k]'(by omega)>Dm.h_ n0 (ns.take k)
  ·rw [decide_eq_true c,if_pos rfl,if_pos c,ek]
  ·rw [decide_eq_false c,if_neg (by decide),if_neg c,ih]
section
variable {X:Cx}
theorem jJ {ns:List Int} {its:List Value} (rv:Vals (ns.map V.int) its):∀ (i:Nat) (v:Value),its.toArray[i]?=some v→∃ t,v=.int (ns.getD i 0) t:=by
 intro i v hv
 have hv':its[i]?=some v:=by simpa using hv
 have hlen:=rv.length
 rw [List.length_map] at hlen
 have hi:i<ns.length:=by rw [hlen];exact (List.getElem?_eq_some_iff.mp hv').1
 have hb:(ns.map V.int)[i]?=some (V.int ns[i]):=by rw [List.getElem?_map,List.getElem?_eq_getElem hi];rfl
 obtain ⟨u,hu,ru⟩:=rv.get hb
 rw [hv'] at hu
 cases hu
 obtain ⟨t,rfl⟩:=ru
 exact ⟨t,by rw [List.getD_eq_getElem?_getD,List.getElem?_eq_getElem hi];rfl⟩
theorem z6 (hc:X.calm=true):fW X (.builtin "sum") (fun xs H Q=>∃ (a:Addr) (ns:List Int),xs=[.ref a]∧Rd H a (.lst (ns.map V.int))∧Q (.int (Dm.j6 ns)) H):=by
 intro pins s σ H xs us Q I r h
 obtain ⟨a,ns,rfl,hq,q⟩:=h
 obtain ⟨u,rfl,rx⟩:=vals1 r
 cases rx
 obtain ⟨z,its,n,rv,e⟩:=hq.ok I.hok
 have hl:s.heap.IsList a its.toArray:=⟨_,e,rfl,_,rfl⟩
 have hlen:=rv.length
 rw [List.length_map] at hlen
 have hax:a≠s.heap.objs.size:=Nat.ne_of_lt (Heap.lt_size e)
 refine PySem.call_sum_walkG (wpAny_pyIter_list hl ⟨s.heap.objs.size,_,_,_,_,_,fun i=>ns.getD i 0,rfl,Walks.list (A:=X.A.in1) (I.ok.hd hc) s.heap.objs.size a hax its.toArray,⟨⟨_,Heap.get?_push_size _ rfl,rfl,rfl⟩,hl.push _⟩,?_,jJ rv,fun h' tk t' hk=>?_⟩)
 ·intro b hb
  simp only [List.mem_cons,List.not_mem_nil,or_false] at hb
  rcases hb with rfl | rfl
  ·show s.heap.objs.size<_;exact Heap.size_push ..▸Nat.lt_succ_self _
  ·show b<_;exact Heap.size_push ..▸Nat.lt_succ_of_lt (Heap.lt_size e)
 ·have e1:its.toArray.size=ns.length:=by rw [List.size_toArray,hlen]
  refine ⟨.int (Dm.j6 ns),H,I.kept (t':=tk) fun b o eb=>hk b o ?_ (Heap.get?_push_of_some _ eb),⟨t',?_⟩,q⟩
  ·intro hm
   have:b=s.heap.objs.size:=by simpa using hm
   exact absurd (Heap.lt_size eb) (by rw [this];exact Nat.lt_irrefl _)
  ·rw [e1,nS ns _ (Nat.le_refl _),List.take_length]
theorem z7 (hc:X.calm=true):fW X (.builtin "max") (fun xs H Q=>∃ (a:Addr) (n:Int) (ns:List Int),xs=[.ref a]∧Rd H a (.lst ((n::ns).map V.int))∧Q (.int (Dm.h_ n ns)) H):=by
 intro pins s σ H xs us Q I r h
 obtain ⟨a,n0,ns,rfl,hq,q⟩:=h
 obtain ⟨u,rfl,rx⟩:=vals1 r
 cases rx
 obtain ⟨z,its,n,rv,e⟩:=hq.ok I.hok
 have hl:s.heap.IsList a its.toArray:=⟨_,e,rfl,_,rfl⟩
 have hlen:=rv.length
 rw [List.length_map] at hlen
 have hax:a≠s.heap.objs.size:=Nat.ne_of_lt (Heap.lt_size e)
 have e1:its.toArray.size=ns.length+1:=by rw [List.size_toArray,← hlen];rfl
 refine PySem.call_max_walk (wpAny_pyIter_list hl ⟨s.heap.objs.size,_,_,_,_,_,_,rfl,Walks.list (A:=X.A.in1) (I.ok.hd hc) s.heap.objs.size a hax its.toArray,⟨⟨_,Heap.get?_push_size _ rfl,rfl,rfl⟩,hl.push _⟩,?_,by rw [e1];exact Nat.succ_pos _,CmpOf.ints_gt (fun i=>(n0::ns).getD i 0) (jJ rv),fun v h' tk hp hk=>?_⟩)
 ·intro b hb
  simp only [List.mem_cons,List.not_mem_nil,or_false] at hb
  rcases hb with rfl | rfl
  ·show s.heap.objs.size<_;exact Heap.size_push ..▸Nat.lt_succ_self _
  ·show b<_;exact Heap.size_push ..▸Nat.lt_succ_of_lt (Heap.lt_size e)
 ·obtain ⟨t',rfl⟩:=jJ rv _ _ hp
  refine ⟨.int (Dm.h_ n0 ns),H,I.kept (t':=tk) fun b o eb=>hk b o ?_ (Heap.get?_push_of_some _ eb),⟨t',?_⟩,q⟩
  ·intro hm
   have:b=s.heap.objs.size:=by simpa using hm
   exact absurd (Heap.lt_size eb) (by rw [this];exact Nat.lt_irrefl _)
  ·rw [e1,Nat.add_sub_cancel,uZ n0 ns _ (Nat.le_refl _),List.take_length]
theorem f9:∀ {H0:Hp} {us:List V} {ds:List Dm.Dat} {ns:List Int},aJ H0 us ds→Dm.jV ds=some ns→us=ns.map V.int
 | _,_,_,_,.nil,h=>by cases h;rfl
 | _,_,_,_,.cons (ds:=ds) (d:=d) r rr,h=>by
  cases d with
  | int i=>
   rw [Dm.jV] at h
   cases hn:Dm.jV ds with
   | none=>rw [hn] at h;cases h
   | some ms=>
    rw [hn] at h
    cases h
    have:=Rep.isInt r
    subst this
    rw [f9 rr hn]
    rfl
  | _=>cases h
theorem ER:CallD (fun xs H Q=>∃ (a:Addr) (ns:List Int),xs=[.ref a]∧Rd H a (.lst (ns.map V.int))∧Q (.int (Dm.j6 ns)) H) Dm.pK:=by
 intro H0 H vs ds z Q s rs e k
 unfold Dm.pK at e
 split at e
 ·split at e
  ·rename_i ns hb
   cases e
   cases rs with
   | cons r rr=>
    cases rr
    obtain ⟨a,us,rfl,qa,ra⟩:=bC s r
    have:=f9 ra hb
    subst this
    exact ⟨a,ns,rfl,qa,k _ H0 H (aN.refl s) (.int _)⟩
  ·cases e
 ·cases e
theorem ES:CallD (fun xs H Q=>∃ (a:Addr) (n:Int) (ns:List Int),xs=[.ref a]∧Rd H a (.lst ((n::ns).map V.int))∧Q (.int (Dm.h_ n ns)) H) Dm.rN:=by
 intro H0 H vs ds z Q s rs e k
 unfold Dm.rN at e
 split at e
 ·split at e
  ·rename_i n ns hb
   cases e
   cases rs with
   | cons r rr=>
    cases rr
    obtain ⟨a,us,rfl,qa,ra⟩:=bC s r
    have:=f9 ra hb
    subst this
    exact ⟨a,n,ns,rfl,qa,k _ H0 H (aN.refl s) (.int _)⟩
  ·cases e
 ·cases e
end
section
variable {X:Cx} {e:Expr} {fs:List Dm.FE} {p pos:Pos}
theorem BI (hc:X.calm=true) (hg:Gl X "sum") (hm:X.mg "sum" = none) (ha:DA X [e] fs) (he:starEach [e] X.env=[(false,eval e X.env)]:=by rfl) (hpl:(backTo pos (starEach [] X.env)).any (·.1)=false:=by rfl):DE X (.Call (.Name "sum" p) [e] [] pos) (Dm.eB Dm.pK fs):=wK (z6 hc) ER PyProof.Rows.boot_sum hg hm ha (he:=he) (hpl:=hpl)
theorem Jd (hc:X.calm=true) (hg:Gl X "max") (hm:X.mg "max" = none) (ha:DA X [e] fs) (he:starEach [e] X.env=[(false,eval e X.env)]:=by rfl) (hpl:(backTo pos (starEach [] X.env)).any (·.1)=false:=by rfl):DE X (.Call (.Name "max" p) [e] [] pos) (Dm.eB Dm.rN fs):=wK (z7 hc) ES (by rfl) hg hm ha (he:=he) (hpl:=hpl)
end
noncomputable def Je (k:Int):Value→Bool
 | .int a _=>a == k
 | _=>false
theorem u5 (v:Int):∀ (ns:List Int) (i:Nat),Dm.n8 v ns=some i→∃ h:i<ns.length,ns[i]=v∧∀ m (hm:m<ns.length),m<i→ns[m]≠v
 | [],i,h=>by cases h
 | x::ns,i,h=>by
  rw [Dm.n8] at h
  by_cases e:x=v
  ·rw [if_pos e] at h
   cases h
   exact ⟨by simp,e,fun m hm hlt=>absurd hlt (Nat.not_lt_zero m)⟩
  ·rw [if_neg e] at h
   cases hq:Dm.n8 v ns with
   | none=>rw [hq] at h;cases h
   | some j=>
    rw [hq] at h
    cases h
    obtain ⟨h1,h2,h3⟩:=u5 v ns j hq
    refine ⟨by simpa using h1,by simpa using h2,fun m hm hlt=>?_⟩
    cases m with
    | zero=>exact e
    | succ m=>simpa using h3 m (by simpa using hm) (by have h4:m+1<j+1:=hlt;omega)
noncomputable def BJ:V→List V→Hp→VK→Prop:=fun x vs H Q=>∃ (l:Addr) (ns:List Int) (k:Int) (i:Nat),x=.ref l∧vs=[.int k]∧Rd H l (.lst (ns.map V.int))∧Dm.n8 k ns=some i∧Q (.int (i:Nat)) H
section
variable {X:Cx}
theorem BK:MtR X "list.index" BJ:=by
 intro pins s σ H x vs v us Q I rx rv h
 obtain ⟨l,ns,k,i,rfl,rfl,hB,hi,q⟩:=h
 cases rx
 obtain ⟨u,rfl,ru⟩:=rv.one
 obtain ⟨t,rfl⟩:=ru
 obtain ⟨z,its,n,r,e⟩:=hB.ok I.hok
 have hlen:=r.length
 rw [List.length_map] at hlen
 obtain ⟨h1,h2,h3⟩:=u5 k ns i hi
 have z':ns.length≤sizeLine:=by rw [List.length_map] at z;exact z
 have itm:∀ m (hm:m<its.toArray.size),∃ t,its.toArray[m]=.int (ns[m]'(by rw [hlen];simpa using hm)) t:=fun m hm=>by
  have hm':m<ns.length:=by rw [hlen];simpa using hm
  obtain ⟨t,ht⟩:=jJ r m its.toArray[m] (by simp)
  refine ⟨t,ht.trans ?_⟩
  rw [List.getD_eq_getElem?_getD,List.getElem?_eq_getElem hm'];rfl
 refine call_meets F.slot_list_index ⟨_,e,rfl⟩ F.entry_list_index (F.args_list_index_2 _ _) (MeetsSeq.list_index l its.toArray n (.int k t) (Je k) ?_ i (by rw [List.size_toArray,← hlen];exact h1) ?_ ?_ ?_) ⟨e,?_⟩
 ·intro y hy
  obtain ⟨m,hm,rfl⟩:=Array.mem_iff_getElem.mp hy
  obtain ⟨t',ht⟩:=itm m hm
  rw [ht]
  exact MeetsSeq.EqGives.int _ _ _ _
 ·have:(2:Int) ^ 63-1=9223372036854775807:=by decide
  rw [this]
  have:sizeLine≤1000000000000000000:=by decide
  omega
 ·obtain ⟨t',ht⟩:=itm i (by rw [List.size_toArray,← hlen];exact h1)
  rw [ht]
  show (ns[i] == k)=true
  rw [h2];simp
 ·intro m hm hlt
  obtain ⟨t',ht⟩:=itm m hm
  rw [ht]
  show (ns[m]'_ == k)=false
  have:=h3 m (by rw [hlen];simpa using hm) hlt
  simpa using this
 ·exact ⟨.int (i:Nat),H,I.tok _,⟨_,rfl⟩,q⟩
end
section
variable {σ:L2.St} {H:Hp} {Q:VK}
theorem ET {K:PySem.W.Frag} {fo fi:Dm.FE} (h:tD (Dm.mZ fo fi) σ H Q):tBM K "list" BJ (tD fo) (tDA [fi]) σ H Q:=by
 obtain ⟨H0,ρ,x,ρ',st,e,k⟩:=h
 unfold Dm.mZ at e
 split at e
 ·cases e
 rename_i x1 ρ1 e1
 split at e
 case h_2=>cases e
 rename_i ds0 p0
 split at e
 ·cases e
 rename_i y1 ρ2 e2
 split at e
 ·cases e
 rename_i d p1
 split at e
 ·cases e
 rename_i d2 p2
 split at e
 ·cases e
 rename_i v hv
 cases e
 refine ⟨H0,ρ,x1,ρ1,st,e1,fun v1 H1 Hb t1 r1=>?_⟩
 obtain ⟨a,us0,rfl,qa0,_⟩:=bC t1.st.same (r1.look t1.st p0)
 refine ⟨.inl ⟨rfl,us0,.inl qa0⟩,H1,ρ1,[y1],_,t1.st,by unfold Dm.eAs;rw [e2];rfl,fun vs H2 Hc t2 r2=>?_⟩
 cases r2 with
 | cons r2 rr=>
  cases rr
  unfold Dm.pL at hv
  split at hv
  ·rename_i xs k'
   split at hv
   ·rename_i ns hn
    split at hv
    ·rename_i i hi
     cases hv
     have hu:=aH (r2.look t2.st p2)
     subst hu
     obtain ⟨a',us,ea,qa,ra⟩:=bC t2.st.same ((r1.mono t2).look t2.st p1)
     cases ea
     have:=f9 ra hn
     subst this
     exact ⟨a,ns,k',i,rfl,rfl,qa,hi,k _ H2 Hc (t1.trans t2) (.int _)⟩
    ·cases hv
   ·cases hv
  ·cases hv
end
section
variable {X:Cx} {a e:Expr} {fa f:Dm.FE}
theorem EU {ap cp:Pos} (ha:DE X a fa) (he:DE X e f) (hbase:attributeBase a "index" X.env (eval a X.env)=eval a X.env:=by rfl)
  (hfew:((backTo cp (starEach [e] X.env)).all (fun x=>!x.1)&&(backToKw cp (keywordEach [] X.env)).all (fun x=>x.1.isSome)
   && decide ([e].length+([]:List Keyword).length+(if ([]:List Keyword).isEmpty then 0 else 1)<30))=true:=by rfl)
  (hline:(ap.endLine == cp.line)=true:=by rfl) (hs:starEach [e] X.env=(false,eval e X.env)::starEach [] X.env:=by rfl) (hplain:(backTo cp (starEach [] X.env)).any (·.1)=false:=by rfl) :
  DE X (.Call (.Attribute a "index" ap) [e] [] cp) (Dm.mZ fa f):=
 PE.weak (uF PySem.F.plainAttrs_list PySem.F.slot_list_index PySem.F.type_list_index BK ha (aa he af hs) hbase hfew hline hs hplain) fun _ _ _=>ET
end
structure BL (K:PySem.W.Frag) (x qual:Str) (st:Stmt) (f:Addr) (fd:FuncData):Prop where
 ex:∃ (oc:Value) (od:Option Addr) (dV kV doc pm:Value) (an:Option Addr) (cdv ct:Value) (osl:Array (Option Value)),
  fd=PySem.W.fnOf x qual (aZ st) (aO st) (aj st) dV kV doc pm an cdv ct∧K.lookup f=some ⟨oc,od,.func fd,osl⟩∧PySem.W.codeIn K cdv qual=true
 kp:PySem.W.keepIn K (.ref f)=true
section
variable {P:Program} {w:World} {K:PySem.W.Frag} {mg:Str→Option Value} {base:Heap}
theorem BL.ok {x qual:Str} {st:Stmt} {f:Addr} {fd:FuncData} {N ps:List Str} {k:Nat} {sp:Sp} (F:BL K x qual st f fd) (S:aK N ps (aj st)) (len:∀ vs H Q E,sp vs H Q E→vs.length=ps.length)
  (hbody:∀ (cdv:Value) (A:Around) (outer:List Env) (s:Shared) (H:Hp) (vs:List V) (Q:VK) (E:XK),bL k (A.deeper (envOfC qual (aj st) s.heap.objs.size f cdv))→sp vs H Q E →
   ∃ t,PSs (g6 CX0 P w K mg base N qual (aj st) f cdv A outer s H E).nox (aO st) t∧t { nx:=fun _ H'=>Q .non H',rt:=Q } (start N vs) H):aW P w K mg base CX0 (k+1) f fd ps sp:=by
 obtain ⟨oc,od,dV,kV,doc,pm,an,cdv,ct,osl,rfl,lk,hcd⟩:=F.ex
 refine yc lk hcd S len fun A outer s H vs Q E hr hsp=>?_
 obtain ⟨t,h,q⟩:=hbody cdv A outer s H vs Q E hr hsp
 exact ⟨t,h.nox,q⟩
theorem EV {x qual:Str} {st:Stmt} {f:Addr} {oc:Value} {od an:Option Addr} {osl:Array (Option Value)} {dV kV doc pm cdv ct:Value} (l:K.lookup f=some ⟨oc,od,.func (PySem.W.fnOf x qual (aZ st) (aO st) (aj st) dV kV doc pm an cdv ct),osl⟩)
  (c:PySem.W.codeIn K cdv qual=true) (k:PySem.W.keepIn K (.ref f)=true):BL K x qual st f (PySem.W.fnOf x qual (aZ st) (aO st) (aj st) dV kV doc pm an cdv ct):=⟨⟨oc,od,dV,kV,doc,pm,an,cdv,ct,osl,rfl,l,c⟩,k⟩
end
theorem tnr {prog:Program} {w:World} {A:Around} {s:Shared} {r:Addr} {a b c:Int} {t u v:Tok} {Q:PySem.Fin→Shared→Prop} {E:Value→Shared→Prop} (hr:IsRange s.heap r a b c t u v) (k:wpAny (model prog w) A (do
       let l ← collect (Value.ref r)
       let xs ← pure l.toArray
       let x ← Builtin.Tuple.tupleExact xs
       PySem.ret x) Q E s) :
  wpAny (model prog w) A (Builtin.«tuple.__new__» { pos:=[.type "tuple",.ref r] }) Q E s:=by
 unfold Builtin.«tuple.__new__»
 dsimp only
 refine wpAny_bind (wpAny_of_eq (a:=true) rfl ?_)
 rw [if_neg (by decide)]
 refine wpAny_bind (wpAny_of_eq (a:=true) (by first | exact F.called_tuple.sub | rfl) ?_)
 rw [if_neg (by decide)]
 rw [if_neg (by first | decide | (rw [show ((Manifest.find? "tuple").elim false fun x=>x.noNew)=false from by first | rfl | decide +kernel];decide))]
 refine wpAny_bind (wpAny_of_eq madeHere_tuple ?_)
 refine wpAny_bind (wpAny_of_eq F.called_tuple.init.lookup ?_)
 rw [if_pos (by decide)]
 refine wpAny_bind (wpAny_of_eq (a:=()) rfl ?_)
 refine wpAny_bind (wpAny_of_eq (a:=()) rfl ?_)
 rw [if_pos (by decide)]
 refine wpAny_bind ?_
 unfold Builtin.Tuple.tupleIsExact
 refine wpAny_bind (wpAny_typeOf ⟨_,hr,rfl⟩ (wpAny_pure ?_))
 rw [if_neg (by decide)]
 exact k
theorem Na {prog:Program} {w:World} {A:Around} {s:Shared} {r:Addr} {a b c:Int} {t u v:Tok} {n:Nat} {R:Result→Shared→Prop} (hA:A.handled=none) (hr:IsRange s.heap r a b c t u v) (hsm:Builtin.Range.small a b c=true) (hn:Builtin.Range.rangeSize a b c=n) (hz:n≤2 ^ 24)
  (k:∀ (h':Heap) (tk:Nat) (acc':Array Value) (c':Nat),(∀ (b:Addr) (o:Obj),s.heap.get? b=some o→h'.get? b=some o)→h'.get? s.heap.objs.size=some { cls:=.type "list",data:=.seq acc' c' }→ItemsOf (fun i v=>∃ t,v=Value.int (a+↑i*c) t) acc' n→R (.ok (.ret (.ref s.heap.objs.size))) { heap:=h',gens:=s.gens,drawn:=s.drawn,toks:=tk,os:=s.os }) :
  codeAny (model prog w) A (Code.builtin "proto.collect" { pos:=[.ref r] }) R s:=by
 refine codeAny_builtin F.entry_proto_collect ?_
 unfold Builtin.«proto.collect»
 dsimp only
 refine wpAny_bind (wpAny_newList ?_)
 refine wpAny_pure ⟨plainId_quiet F.plain_list_iadd _,codeAny_builtin F.entry_list_iadd ?_⟩
 unfold Builtin.«list.__iadd__»
 refine wpAny_bind (wpAny_of_eq (a:=(Value.ref s.heap.objs.size,[Value.ref r])) rfl ?_)
 dsimp only
 rw [Around.under_plainId F.plain_list_iadd]
 exact wpAny_extend_range (R:=R) (s:={ heap:=s.heap.push { cls:=.type "list",data:=.seq #[] },gens:=s.gens,drawn:=s.drawn,toks:=s.toks,os:=s.os }) hA (Heap.get?_push_of_some _ hr) hsm hn hz s.heap.objs.size _ 0 (Heap.get?_push_size _ rfl) (fun h' tk acc' c' hk hS hI=>k h' tk acc' c' (fun b o e=>hk b o (Nat.ne_of_lt (Heap.lt_size e)) (Heap.get?_push_of_some _ e)) hS hI)
theorem Nb {prog:Program} {w:World} {A:Around} {s:Shared} {r:Addr} {a b c:Int} {t u v:Tok} {n:Nat} {Q:List Value→Shared→Prop} {E:Value→Shared→Prop} (hA:A.handled=none) (hr:IsRange s.heap r a b c t u v) (hsm:Builtin.Range.small a b c=true) (hn:Builtin.Range.rangeSize a b c=n) (hz:n≤2 ^ 24)
  (k:∀ (h':Heap) (tk:Nat) (acc':Array Value),(∀ (b:Addr) (o:Obj),s.heap.get? b=some o→h'.get? b=some o)→ItemsOf (fun i v=>∃ t,v=Value.int (a+↑i*c) t) acc' n→Q acc'.toList { heap:=h',gens:=s.gens,drawn:=s.drawn,toks:=tk,os:=s.os }) :
  wpAny (model prog w) A (collect (.ref r)) Q E s:=by
 unfold collect
 refine wpAny_bind (wpAny_runValue (Na hA hr hsm hn hz fun h' tk acc' c' hk hS hI=>?_))
 dsimp only
 refine wpAny_bind (wpAny_load hS (wpAny_pure ?_))
 exact k h' tk acc' hk hI
theorem m5 {prog:Program} {w:World} {A:Around} {E:Value→Shared→Prop} {s:Shared} {Q:Value→Shared→Prop} {r:Addr} {a b c:Int} {t u v:Tok} {n:Nat} (hA:A.handled=none) (hr:IsRange s.heap r a b c t u v) (hsm:Builtin.Range.small a b c=true) (hn:Builtin.Range.rangeSize a b c=n) (hz:n≤2 ^ 24) (hz2:n≤sizeLine)
  (k:∀ (h':Heap) (tk:Nat) (acc:Array Value),(∀ (b:Addr) (o:Obj),s.heap.get? b=some o→h'.get? b=some o)→ItemsOf (fun i v=>∃ t,v=Value.int (a+↑i*c) t) acc n→Q (.ref h'.objs.size) { heap:=h'.push { cls:=.type "tuple",data:=.seq acc },gens:=s.gens,drawn:=s.drawn,toks:=tk,os:=s.os }) :
  wpAny (model prog w) A (call (.type "tuple") [.ref r]) Q E s:=by
 refine callType_new (S:=fun A R s=>A.handled=none∧IsRange s.heap r a b c t u v∧∀ (h':Heap) (tk:Nat) (acc:Array Value),(∀ (b:Addr) (o:Obj),s.heap.get? b=some o→h'.get? b=some o)→ItemsOf (fun i v=>∃ t,v=Value.int (a+↑i*c) t) acc n→R (.ok (.ret (.ref h'.objs.size))) { heap:=h'.push { cls:=.type "tuple",data:=.seq acc },gens:=s.gens,drawn:=s.drawn,toks:=tk,os:=s.os }) F.called_tuple (by decide) (F.typeCall_tuple_1 _) (F.newCall_tuple_1 _) (fun obj=>by first | exact F.args_object_init_2 _ _ | rfl | decide) F.entry_tuple_new ?_ ⟨hA,hr,fun h' tk acc h1 h2=>⟨?_,k h' tk acc h1 h2⟩⟩
 ·intro prog w A R s ⟨hA,hr,k⟩
  refine tnr hr (wpAny_bind (Nb hA hr hsm hn hz fun h' tk acc h1 h2=>?_))
  refine wpAny_bind (wpAny_pure ?_)
  unfold Builtin.Tuple.tupleExact
  refine wpAny_bind (wpAny_newObj_type (wpAny_pure ?_) ?_)
  ·exact k h' tk acc h1 (by simpa using h2)
  ·show acc.toList.toArray.size≤sizeLine
   have:=h2.1
   simp at this ⊢
   omega
 ·exact ⟨_,Heap.get?_push_size _ rfl,rfl⟩
section
variable {X:Cx} {l a:Expr} {tl:TE} {ta:TA} {fa:Dm.FE} {p pos p0 pC:Pos}
end
theorem EW {g:List Dm.Dat→Option Dm.RV} {c:Int} {vs:List V} {H:Hp} {Q:VK} {E:XK} (h:spD (fun ds=>g (ds++[.int c])) vs H Q E):spD g (vs++[.int c]) H Q E:=by
 obtain ⟨H0,ds,z,s,r,e,k⟩:=h
 exact ⟨H0,ds++[.int c],z,s,r.append (.cons (.int _) .nil),e,k⟩
section
variable {σ:L2.St} {H:Hp} {Q:VK}
theorem EX {g:List Dm.Dat→Option Dm.RV} {c:Int} {fs:List Dm.FE} {E:XK} (h:tD (Dm.eF (fun ds=>g (ds++[.int c])) fs) σ H Q):uC (spD g) [.int c] E (tDA fs) σ H Q:=by
 obtain ⟨H0,ρ,xs,ρ',st,e,k⟩:=A2 (E:=E) h
 refine ⟨H0,ρ,xs,ρ',st,e,fun vs H0' H' t r=>?_⟩
 have:=k vs H0' H' t r
 dsimp only at this
 rw [List.append_nil] at this
 exact EW this
end
section
variable {X:Cx} {e:Expr} {es:List Expr} {fs:List Dm.FE} {p pos:Pos}
theorem EY {k:Nat} {F:Addr} {fd:FuncData} {ps:List Str} {g:List Dm.Dat→Option Dm.RV} {x:Str} {c:Int} {tk:Tok} (G:aW X.prog X.w X.K X.mg X.base CX0 k F fd ps (spD g)) (hr:bL k X.A) (hg:Gl X x) (hm:X.mg x=some (.ref F)) (hk:PySem.W.keepIn X.K (.ref F)=true) (hb:Binds X.K fd ps [.int c tk])
  (ha:DA X (e::es) fs) (hdb:(x == ("__debug__" : Str))=false:=by decide) (he:starEach (e::es) X.env=(false,eval e X.env)::starEach es X.env:=by rfl) (hpl:(backTo pos (starEach es X.env)).any (·.1)=false:=by rfl) :
  DE X (.Call (.Name x p) (e::es) [] pos) (Dm.eF (fun ds=>g (ds++[.int c])) fs):=PE.weak (oE G hr hg hm hk hb (dvs:=[.int c]) (.cons (show RelV (.int c) (.int c tk) from ⟨tk,rfl⟩) .nil) (yj (X:=X)) ha hdb he hpl) fun _ _ _=>EX
end
end Br
namespace Dm
noncomputable abbrev FN:=Env→List (List Dat)→Option (Env×List (List Dat))
noncomputable def nNx:FN:=fun ρ r=>some (ρ,r)
noncomputable def BN (s u:FN):FN:=fun ρ r=>match s ρ r with
 | none=>none
 | some (ρ1,r1)=>u ρ1 r1
noncomputable def nIf (t:FT) (a b:FN):FN:=fun ρ r=>match t ρ with
 | none=>none
 | some (true,ρ1)=>a ρ1 r
 | some (false,ρ1)=>b ρ1 r
noncomputable def tG (i e:FE):FN:=fun ρ r=>match i ρ with
 | some (.val (.int k),ρ1)=>(match ixN r.length k with
  | none=>none
  | some m=>match r[m]? with
   | none=>none
   | some row=>match e ρ1 with
    | none=>none
    | some (x,ρ2)=>match tk ρ2 x with
     | none=>none
     | some (d,ρ3)=>if row.length<SZ then some (ρ3,r.set m (row++[d])) else none)
 | _=>none
noncomputable def pM (bd:FB) (body:FN):List Dat→FN
 | [],ρ,r=>some (ρ,r)
 | d::q,ρ,r=>match bd d ρ with
  | none=>none
  | some ρ1=>match body ρ1 r with
   | none=>none
   | some (ρ2,r2)=>pM bd body q ρ2 r2
noncomputable def u6 (it:FI) (bd:FB) (body:FN):FN:=fun ρ r=>match it ρ with
 | none=>none
 | some (ds,ρ1)=>pM bd body ds ρ1 r
noncomputable def nMk (bd:FB):List Dat→Env→Option Env
 | [],ρ=>some ρ
 | d::r,ρ=>match bd d ρ with
  | none=>none
  | some ρ1=>nMk bd r ρ1
noncomputable def pN (j:Nat) (it:FI) (own:Nat) (bd:FB) (loop:FN):FS:=fun ρ=>if j=0 then none else match it ρ with
 | none=>none
 | some (ds,ρ1)=>if ds.length≤SZ then (match nMk bd ds (ρ1++List.replicate own .un) with
  | none=>none
  | some ρ2=>match loop ((ρ2.take ρ1.length).set j .un) (List.replicate ds.length []) with
   | none=>none
   | some (ρ3,r)=>some (.nx (ρ3.set j (.ow (.lst (r.map .lst)))))) else none
end Dm
namespace Br
open PySem PySem.Spec PyProof.Rows L2
noncomputable def aX (H0 H:Hp):List Addr→List (List Dm.Dat)→Prop
 | [],[]=>True
 | p::ps,r::rs=>(∃ xs,H p=some (.lst xs)∧aJ H0 xs r)∧aX H0 H ps rs
 | _,_=>False
theorem aX.len {H0 H:Hp}:∀ {ps:List Addr} {rs:List (List Dm.Dat)},aX H0 H ps rs→ps.length=rs.length
 | [],[],_=>rfl
 | _::_,_::_,h=>by simp [aX.len h.2]
theorem aX.get {H0 H:Hp}:∀ {ps:List Addr} {rs:List (List Dm.Dat)} {i:Nat} {r:List Dm.Dat},aX H0 H ps rs→rs[i]?=some r→∃ p xs,ps[i]?=some p∧H p=some (.lst xs)∧aJ H0 xs r
 | [],[],_,_,_,e=>by simp at e
 | p::_,_::_,0,_,h,e=>by simp at e;subst e;obtain ⟨xs,h1,h2⟩:=h.1;exact ⟨p,xs,rfl,h1,h2⟩
 | _::_,_::_,i+1,_,h,e=>by
  obtain ⟨p,xs,h1,h2⟩:=aX.get (i:=i) h.2 (by simpa using e)
  exact ⟨p,xs,by simpa using h1,h2⟩
theorem aX.mono {H0 H H0' H':Hp}:∀ {ps:List Addr} {rs:List (List Dm.Dat)},aX H0 H ps rs→az H0 H0'→(∀ p∈ps,H' p=H p)→aX H0' H' ps rs
 | [],[],_,_,_=>trivial
 | p::ps,r::rs,h,s,k=>by
  obtain ⟨⟨xs,h1,h2⟩,h3⟩:=h
  exact ⟨⟨xs,by rw [k p List.mem_cons_self];exact h1,h2.mono s⟩,aX.mono h3 s fun q hq=>k q (List.mem_cons_of_mem _ hq)⟩
theorem aX.set {H0 H:Hp} {p:Addr} {xs:List V} {r:List Dm.Dat} (w:aJ H0 xs r):∀ {ps:List Addr} {rs:List (List Dm.Dat)} {i:Nat},aX H0 H ps rs→ps.Nodup→ps[i]?=some p→aX H0 (upd H p (.lst xs)) ps (rs.set i r)
 | [],[],_,_,_,e=>by simp at e
 | q::ps,_::rs,0,h,n,e=>by
  simp at e
  subst e
  refine ⟨⟨xs,aE,w⟩,h.2.mono (az.refl _) fun y hy=>ay fun z=>?_⟩
  subst z
  exact (List.nodup_cons.mp n).1 hy
 | q::ps,_::rs,i+1,h,n,e=>by
  have e':ps[i]?=some p:=by simpa using e
  obtain ⟨⟨ys,h1,h2⟩,h3⟩:=h
  obtain ⟨n1,n2⟩:=List.nodup_cons.mp n
  refine ⟨⟨ys,?_,h2⟩,aX.set w h3 n2 e'⟩
  rw [ay fun z=>?_]
  ·exact h1
  ·subst z
   exact n1 (List.mem_of_getElem? e')
theorem aX.some {H0 H:Hp}:∀ {ps:List Addr} {rs:List (List Dm.Dat)},aX H0 H ps rs→∀ p∈ps,∃ o,H p=some o
 | [],[],_,_,h=>by cases h
 | q::ps,_::rs,h,p,hp=>by
  rcases List.mem_cons.mp hp with rfl | hp
  ·obtain ⟨xs,h1,_⟩:=h.1;exact ⟨_,h1⟩
  ·exact aX.some h.2 p hp
structure NS (j:Nat) (σs:L2.St) (ρs:Dm.Env) (H0s Hs:Hp) (σ:L2.St) (ρ:Dm.Env) (H0 H:Hp) (rows:List (List Dm.Dat)):Prop where
 st:aB H0 H σ ρ
 stp:Stp (au σs ρs) H0s Hs H0 H
 own:∀ a,au σ ρ a→au σs ρs a∨Hs a=none
 fx:σ[0]?=σs[0]?
 ex:∃ (L:Addr) (ps:List Addr),σ[j]?=some (some (.ref L))∧Hs L=none∧H0 L=none∧¬ au σ ρ L∧H L=some (.lst (ps.map V.ref))∧(L::ps).Nodup∧(∀ p∈ps,Hs p=none∧H0 p=none∧¬ au σ ρ p)∧aX H0 H ps rows
theorem NS.est {j:Nat} {σs:L2.St} {ρs:Dm.Env} {H0s Hs:Hp} {σ:L2.St} {ρ ρ':Dm.Env} {H0 H H0' H':Hp} {rows:List (List Dm.Dat)} (n:NS j σs ρs H0s Hs σ ρ H0 H rows) (t:ESt σ ρ H0 H ρ' H0' H'):NS j σs ρs H0s Hs σ ρ' H0' H' rows:=by
 obtain ⟨L,ps,h1,h2,h3,h4,h5,h6,h7,h8⟩:=n.ex
 obtain ⟨k1,k2,k3⟩:=t.fZ h5 h3 h4
 refine ⟨t.st,n.stp.trans t.stp n.own,fun a z=>n.own a (t.own a z),n.fx,L,ps,h1,h2,k2,k3,k1,h6,fun p hp=>?_,h8.mono t.stp.s0 fun p hp=>?_⟩
 ·obtain ⟨q1,q2,q3⟩:=h7 p hp
  obtain ⟨o,q4⟩:=h8.some p hp
  obtain ⟨z1,z2,z3⟩:=t.fZ q4 q2 q3
  exact ⟨q1,z2,z3⟩
 ·obtain ⟨q1,q2,q3⟩:=h7 p hp
  obtain ⟨o,q4⟩:=h8.some p hp
  obtain ⟨z1,z2,z3⟩:=t.fZ q4 q2 q3
  rw [z1,q4]
theorem NS.bind {j:Nat} {σs:L2.St} {ρs:Dm.Env} {H0s Hs:Hp} {σ σ':L2.St} {ρ ρ':Dm.Env} {H0 H:Hp} {rows:List (List Dm.Dat)} (n:NS j σs ρs H0s Hs σ ρ H0 H rows) (st:aB H0 H σ' ρ') (o:∀ a,au σ' ρ' a→au σ ρ a) (hj:σ'[j]?=σ[j]?) (h0:σ'[0]?=σ[0]?):NS j σs ρs H0s Hs σ' ρ' H0 H rows:=by
 obtain ⟨L,ps,h1,h2,h3,h4,h5,h6,h7,h8⟩:=n.ex
 exact ⟨st,n.stp,fun a z=>n.own a (o a z),h0.trans n.fx,L,ps,hj.trans h1,h2,h3,fun z=>h4 (o L z),h5,h6,fun p hp=>⟨(h7 p hp).1,(h7 p hp).2.1,fun z=>(h7 p hp).2.2 (o p z)⟩,h8⟩
noncomputable def u7 (H0 H:Hp) (ps:List Addr):Hp:=fun b=>if b∈ps then H b else H0 b
theorem tH {H0 H:Hp} {ps:List Addr} {b:Addr} (h:b∈ps):u7 H0 H ps b=H b:=by unfold u7;rw [if_pos h]
theorem i8 {H0 H:Hp} {ps:List Addr} {b:Addr} (h:b∉ps):u7 H0 H ps b=H0 b:=by unfold u7;rw [if_neg h]
theorem z8 {H0 H:Hp} {ps:List Addr} (s:az H0 H):az H0 (u7 H0 H ps):=fun b o e=>by
 by_cases q:b∈ps
 ·rw [tH q];exact s _ _ e
 ·rw [i8 q];exact e
theorem BO {H0 H:Hp} {ps:List Addr} (s:az H0 H):az (u7 H0 H ps) H:=fun b o e=>by
 by_cases q:b∈ps
 ·rw [tH q] at e;exact e
 ·rw [i8 q] at e;exact s _ _ e
theorem aX.reps {H0 H H1:Hp}:∀ {ps:List Addr} {rs:List (List Dm.Dat)},aX H0 H ps rs→az H0 H1→(∀ p∈ps,H1 p=H p)→aJ H1 (ps.map V.ref) (rs.map Dm.Dat.lst)
 | [],[],_,_,_=>.nil
 | p::ps,r::rs,h,s,k=>by
  obtain ⟨⟨xs,h1,h2⟩,h3⟩:=h
  exact .cons (.lst (.inl ((k p List.mem_cons_self).trans h1)) (h2.mono s)) (aX.reps h3 s fun q hq=>k q (List.mem_cons_of_mem _ hq))
theorem NS.done {j:Nat} {σs:L2.St} {ρs:Dm.Env} {H0s Hs:Hp} {σ:L2.St} {ρ:Dm.Env} {H0 H:Hp} {rows:List (List Dm.Dat)} (n:NS j σs ρs H0s Hs σ ρ H0 H rows):∃ H0',SSt σs ρs H0s Hs σ (ρ.set j (.ow (.lst (rows.map Dm.Dat.lst)))) H0' H:=by
 obtain ⟨L,ps,h1,h2,h3,h4,h5,h6,h7,h8⟩:=n.ex
 obtain ⟨n1,n2⟩:=List.nodup_cons.mp h6
 have ss:=z8 (ps:=ps) n.st.same
 have st:aB (u7 H0 H ps) H σ ρ:={
  same:=BO n.st.same
  len:=n.st.len
  sh:=fun i d h=>by
   obtain ⟨v,z,r⟩:=n.st.sh i d h
   exact ⟨v,z,r.mono ss⟩
  ow:=fun i d h=>by
   obtain ⟨b,z,q,w⟩:=n.st.ow i d h
   have nb:b∉ps:=fun y=>(h7 b y).2.2 ⟨i,d,h,z⟩
   exact ⟨b,z,by rw [i8 nb];exact q,w.mono ss rfl⟩
  dis:=n.st.dis }
 refine ⟨u7 H0 H ps,st.mX h1 h4 (by rw [i8 n1];exact h3) ⟨_,h5,h8.reps ss fun p hp=>tH hp⟩,⟨n.stp.s0.trans ss,n.stp.s1,fun a o e=>?_,n.stp.s3⟩,fun a z=>?_,n.fx⟩
 ·by_cases q:a∈ps
  ·exact .inl (h7 a q).1
  ·rw [i8 q] at e;exact n.stp.s2 a o e
 ·obtain ⟨i,d,z1,z2⟩:=z
  by_cases q:j=i
  ·subst q
   rw [h1] at z2
   cases z2
   exact .inr h2
  ·rw [List.getElem?_set_ne q] at z1
   exact n.own a ⟨i,d,z1,z2⟩
noncomputable def tDN (j:Nat) (f:Dm.FN):TS:=fun D σ H=>∃ σs ρs H0s Hs H0 ρ rows ρ' rows',NS j σs ρs H0s Hs σ ρ H0 H rows∧f ρ rows=some (ρ',rows')∧∀ σ' H0' H',NS j σs ρs H0s Hs σ' ρ' H0' H' rows'→az H0 H0'→D.nx σ' H'
section
variable {D:Ends} {σ:L2.St} {H:Hp} {j:Nat}
theorem LH (h:tDN j Dm.nNx D σ H):Aw D σ H:=by
 obtain ⟨σs,ρs,H0s,Hs,H0,ρ,rows,ρ',rows',n,e,k⟩:=h
 cases e
 exact k σ H0 H n (az.refl _)
theorem Jf {s u:Dm.FN} (h:tDN j (Dm.BN s u) D σ H):zq (tDN j s) (tDN j u) D σ H:=by
 obtain ⟨σs,ρs,H0s,Hs,H0,ρ,rows,ρ',rows',n,e,k⟩:=h
 unfold Dm.BN at e
 split at e
 ·cases e
 rename_i ρ1 r1 e1
 exact ⟨σs,ρs,H0s,Hs,H0,ρ,rows,ρ1,r1,n,e1,fun σ' H0' H' n' s1=>⟨σs,ρs,H0s,Hs,H0',ρ1,r1,ρ',rows',n',e,fun σ2 H2 Hc n2 s2=>k σ2 H2 Hc n2 (s1.trans s2)⟩⟩
theorem LJ {t:Dm.FT} {a b:Dm.FN} (h:tDN j (Dm.nIf t a b) D σ H):HH (tDT t) (tDN j a) (tDN j b) D σ H:=by
 obtain ⟨σs,ρs,H0s,Hs,H0,ρ,rows,ρ',rows',n,e,k⟩:=h
 unfold Dm.nIf at e
 split at e
 ·cases e
 ·rename_i ρ1 e1
  refine ⟨H0,ρ,true,ρ1,n.st,e1,fun H1 Hb t1=>?_⟩
  dsimp only
  rw [if_pos rfl]
  exact ⟨σs,ρs,H0s,Hs,H1,ρ1,rows,ρ',rows',n.est t1,e,fun σ2 H2 Hc n2 s2=>k σ2 H2 Hc n2 (t1.stp.s0.trans s2)⟩
 ·rename_i ρ1 e1
  refine ⟨H0,ρ,false,ρ1,n.st,e1,fun H1 Hb t1=>?_⟩
  dsimp only
  rw [if_neg Bool.false_ne_true]
  exact ⟨σs,ρs,H0s,Hs,H1,ρ1,rows,ρ',rows',n.est t1,e,fun σ2 H2 Hc n2 s2=>k σ2 H2 Hc n2 (t1.stp.s0.trans s2)⟩
theorem Jg {fi:Dm.FI} {bd:Dm.FB} {g:TG} {body:Dm.FN} {is:List Nat} (hb:BD is g bd) (hj:j∉is) (h:tDN j (Dm.u6 fi bd body) D σ H):HN (tDI fi) g (tDN j body) D σ H:=by
 obtain ⟨σs,ρs,H0s,Hs,H0,ρ,rows,ρ',rows',n,e,k⟩:=h
 unfold Dm.u6 at e
 split at e
 ·cases e
 rename_i ys ρ1 e1
 refine ⟨H0,ρ,ys,ρ1,n.st,e1,fun J H00 Hb t1 jw=>?_⟩
 refine ⟨fun i m σ H=>∃ H0 ρ rows,NS j σs ρs H0s Hs σ ρ H0 H rows∧az H00 H0∧m=ys.length-i∧i≤ys.length∧Dm.pM bd body (ys.drop i) ρ rows=some (ρ',rows'),
  ⟨ys.length,H00,ρ1,rows,n.est t1,az.refl _,by simp,Nat.zero_le _,by simpa using e⟩,?_⟩
 rintro i m σ H ⟨H0,ρ,rows,n,s00,rfl,hi,e⟩
 obtain ⟨js,jg⟩:=jw H0 H s00 n.st.same
 by_cases hlt:i<ys.length
 ·have hd:ys[i]?=some ys[i]:=by simp [hlt]
  obtain ⟨g1,g2⟩:=jg i ys[i] hd
  rw [List.drop_eq_getElem_cons hlt] at e
  unfold Dm.pM at e
  refine .inr ⟨g1,fun σ' H'=>∃ H0 ρ rows,NS j σs ρs H0s Hs σ' ρ H0 H' rows∧az H00 H0∧Dm.pM bd body (ys.drop (i+1)) ρ rows=some (ρ',rows'),?_,fun x H' y=>?_⟩
  ·rintro σ' H' ⟨H0',ρ2,r2,h1,h2,h3⟩
   exact ⟨ys.length-(i+1),by omega,H0',ρ2,r2,h1,h2,rfl,hlt,h3⟩
  ·obtain ⟨H0',gr,rx⟩:=g2 x H' y
   split at e
   ·cases e
   ·rename_i ρ2 e2
    have t2:=ESt.grow n.st gr
    have n2:=n.est t2
    refine hb H0' H' σ ρ ρ2 x ys[i] _ t2.st rx e2 fun σ2 st2 o2 k2 _ f2=>?_
    have n3:=n2.bind st2 o2 (k2 j hj) f2
    have s3:az H00 H0':=s00.trans gr.s0
    split at e
    ·cases e
    ·rename_i ρ3 r3 e3
     refine ⟨σs,ρs,H0s,Hs,H0',ρ2,rows,ρ3,r3,n3,e3,fun σ4 H4 Hd n4 s4=>⟨H4,ρ3,r3,n4,s3.trans s4,e⟩⟩
 ·have e':i=ys.length:=by omega
  subst e'
  rw [List.drop_length] at e
  cases e
  exact .inl ⟨js _ (Nat.le_refl _),k σ H0 H n (t1.stp.s0.trans s00)⟩
theorem Jh {K:PySem.W.Frag} {fi f:Dm.FE} (h:tDN j (Dm.tG fi f) D σ H):uz (tBM K "list" sN (tOp (Ij K) (ux j) (tD fi)) (tDA [f])) D σ H:=by
 obtain ⟨σs,ρs,H0s,Hs,H0,ρ,rows,ρ',rows',n,e,k⟩:=h
 unfold Dm.tG at e
 split at e
 case h_2=>cases e
 rename_i z ρ1 e1
 split at e
 ·cases e
 rename_i m em
 split at e
 ·cases e
 rename_i row er
 split at e
 ·cases e
 rename_i x ρ2 e2
 split at e
 ·cases e
 rename_i d ρ3 e3
 split at e
 case isFalse=>cases e
 rename_i hz
 cases e
 obtain ⟨L,ps0,h1,_⟩:=n.ex
 refine ⟨_,h1,H0,ρ,_,ρ1,n.st,e1,fun y H1 Hb t1 r1=>?_⟩
 have n1:=n.est t1
 obtain ⟨L',ps,q1,q2,q3,q4,q5,q6,q7,q8⟩:=n1.ex
 rw [h1] at q1
 cases q1
 obtain ⟨q,xs,hq,hqx,hqr⟩:=q8.get er
 have hqm:q∈ps:=List.mem_of_getElem? hq
 refine ⟨L,ps.map V.ref,z,V.ref q,rfl,Rep.isInt r1,.inl (.inl q5),?_,.inl ⟨rfl,xs,.inl (.inl hqx)⟩,?_⟩
 ·show (L2.ixN (ps.map V.ref).length z).bind (fun j=>(ps.map V.ref)[j]?)=_
  rw [List.length_map,q8.len,← ID,em]
  show (ps.map V.ref)[m]?=_
  rw [List.getElem?_map,hq]
  rfl
 refine ⟨H1,ρ1,[x],ρ2,n1.st,by unfold Dm.eAs;rw [e2];rfl,fun vs H2 Hc t2 r2=>?_⟩
 cases r2 with
 | cons r rr=>
  cases rr
  obtain ⟨H3,t3,b3,r3,_,_⟩:=take1 t2 (az.refl _) r e3
  have n3:=n1.est t3
  obtain ⟨L',ps',w1,w2,w3,w4,w5,w6,w7,w8⟩:=n3.ex
  rw [h1] at w1
  cases w1
  obtain ⟨k1,_,_⟩:=t3.fZ q5 q3 q4
  rw [k1] at w5
  have ep:ps'=ps:=by
   have:ps.map V.ref=ps'.map V.ref:=by injection w5 with z;injection z
   exact ((List.map_inj_right fun a b h=>by injection h).mp this).symm
  subst ep
  obtain ⟨q',ys,hq',hqy,LK⟩:=w8.get er
  rw [hq] at hq'
  cases hq'
  have nL:L≠q:=fun z=>(List.nodup_cons.mp w6).1 (z▸hqm)
  refine ⟨q,ys,_,rfl,rfl,hqy,by rw [LK.length];exact Nat.lt_of_lt_of_le hz (by decide),?_⟩
  obtain ⟨z1,z2,z3⟩:=w7 q hqm
  refine k σ H3 _ ⟨n3.st.aside z2 z3,n3.stp.aside z1,n3.own,n3.fx,L,ps',h1,w2,w3,w4,by rw [ay nL];exact k1,w6,w7,aX.set (LK.append (.cons r3 .nil)) w8 (List.nodup_cons.mp w6).2 hq⟩ (t1.stp.s0.trans t3.stp.s0)
end
theorem BP {σ:L2.St} {own:Nat} {bd:Dm.FB} {g:TG} {is:List Nat} {Q:VK} {H00 Hb:Hp} {ρ1 ρ2:Dm.Env} {ds:List Dm.Dat} {J:It} (hb:BD is g bd) (hl:∀ i∈is,σ.length≤i)
  (st1:aB H00 Hb σ ρ1) (jw:JW J H00 ds) (hsz:ds.length≤Dm.SZ) (e2:Dm.nMk bd ds (ρ1++List.replicate own .un)=some ρ2) (D:Addr) (hD:Hb D=none)
  (k:∀ H0' H' (ps:List Addr),aB H0' H' σ (ρ2.take ρ1.length)→Stp (au σ ρ1) H00 Hb H0' H'→(∀ a,au σ (ρ2.take ρ1.length) a→au σ ρ1 a)→H' D=some (.lst (ps.map V.ref))→H0' D=none→(D::ps).Nodup→(∀ p∈ps,Hb p=none∧H0' p=none) →
   aX H0' H' ps (List.replicate ds.length [])→Q (.ref D) H') :
  ∃ W:Nat→Nat→L2.St→Hp→Prop,(∃ m,W 0 m (σ++List.replicate own none) (upd Hb D (.lst [])))∧∀ i m σ' H',W i m σ' H' →
  (J.stop i H'∧Q (.ref D) H')∨(J.go i H'∧∀ x H2,J.yld i H' x H2→g x σ' H2 fun σ2 H3=>Ef σ2 H3 fun b H4=>if b=true
   then DV zC σ2 H4 fun y H5=>∃ acc,H5 D=some (.lst acc)∧acc.length<sizeLine∧∃ m',m'<m∧W (i+1) m' σ2 (upd H5 D (.lst (acc++[y])))
   else ∃ m',m'<m∧W (i+1) m' σ2 H4):=by
 have noD:¬ au σ ρ1 D:=st1.dh hD
 refine ⟨fun i m σ' H'=>∃ (H0c:Hp) (ρc:Dm.Env) (ps:List Addr),aB H0c H' σ' ρc∧az H00 H0c∧m=ds.length-i∧i≤ds.length∧Dm.nMk bd (ds.drop i) ρc=some ρ2 ∧
  H' D=some (.lst (ps.map V.ref))∧ps.length=i∧H0c D=none∧(D::ps).Nodup∧(∀ p∈ps,Hb p=none∧H0c p=none)∧aX H0c H' ps (List.replicate i [])∧Stp (au σ ρ1) H00 Hb H0c H'∧(∀ j,j<σ.length→σ'[j]?=σ[j]?)∧(∀ a,au σ' ρc a→au σ ρ1 a),
  ⟨ds.length,H00,ρ1++List.replicate own .un,[],(st1.aside (st1.same.free hD) noD).ext own,az.refl _,by simp,Nat.zero_le _,by simpa using e2,aE,rfl,st1.same.free hD,by simp,by simp,trivial,(Stp.refl _ _ _).aside hD,
   fun j hj=>List.getElem?_append_left hj,fun a z=>mV st1 z⟩,?_⟩
 rintro i m σ' H' ⟨H0c,ρc,ps,sc,s00,rfl,hi,ec,hDl,hpl,n0,nd,hps,hro,sp,hσ,ho⟩
 have nOc:¬ au σ' ρc D:=fun z=>noD (ho D z)
 have nOp:∀ p∈ps,¬ au σ' ρc p:=fun p hp z=>st1.dh (hps p hp).1 (ho p z)
 obtain ⟨js,jg⟩:=jw H0c H' s00 sc.same
 by_cases hlt:i<ds.length
 ·have hd:ds[i]?=some ds[i]:=by simp [hlt]
  obtain ⟨g1,g2⟩:=jg i ds[i] hd
  rw [List.drop_eq_getElem_cons hlt] at ec
  unfold Dm.nMk at ec
  refine .inr ⟨g1,fun y H2 yy=>?_⟩
  obtain ⟨H0',gr,rx⟩:=g2 y H2 yy
  split at ec
  ·cases ec
  rename_i ρ3 e3
  have t2:=ESt.grow sc gr
  obtain ⟨hD2,n02,no2⟩:=t2.fZ hDl n0 nOc
  refine hb H0' H2 σ' ρc ρ3 y ds[i] _ t2.st rx e3 fun σ3 st3 o3 k3 d3 _=>?_
  unfold Ef
  dsimp only
  rw [if_pos rfl]
  refine ⟨Nat.zero_le _,fun p hp=>?_⟩
  have hpD:p≠D:=fun z=>by rw [z,hD2] at hp;cases hp
  have noP:¬ au σ3 ρ3 p:=st3.dh hp
  have LL:∀ q∈ps,q≠p:=fun q hq z=>by
   obtain ⟨o,h1⟩:=hro.some q hq
   have:=gr.s1 q o h1
   rw [z,hp] at this;cases this
  refine ⟨ps.map V.ref,by rw [ay (Ne.symm hpD)];exact hD2,?_,ds.length-(i+1),by omega,H0',ρ3,ps++[p],?_,s00.trans gr.s0,rfl,hlt,ec,?_,by simp [hpl],n02,?_,?_,?_,?_,?_,?_⟩
  ·rw [List.length_map,hpl]
   unfold Dm.SZ at hsz
   exact Nat.lt_of_lt_of_le (Nat.lt_of_lt_of_le hlt hsz) (by decide)
  ·have no3:¬ au σ3 ρ3 D:=fun z=>no2 (o3 D z)
   exact (st3.aside (st3.same.free hp) noP).aside n02 no3
  ·rw [aE,List.map_append];rfl
  ·rw [← List.cons_append]
   refine List.nodup_append.mpr ⟨nd,by simp,fun a ha b hb=>?_⟩
   rw [List.mem_singleton.mp hb]
   rcases List.mem_cons.mp ha with rfl | ha
   ·exact Ne.symm hpD
   ·exact LL a ha
  ·intro q hq
   rcases List.mem_append.mp hq with hq | hq
   ·refine ⟨(hps q hq).1,?_⟩
    obtain ⟨o,h1⟩:=hro.some q hq
    exact (t2.fZ h1 (hps q hq).2 (nOp q hq)).2.1
   ·rw [List.mem_singleton.mp hq]
    exact ⟨(sp.trans t2.stp fun a z=>.inl (ho a z)).gone hp,st3.same.free hp⟩
  ·have base:aX H0' (upd (upd H2 p (.lst [])) D (.lst (ps.map V.ref++[V.ref p]))) ps (List.replicate i []):=hro.mono gr.s0 fun q hq=>by
    have hqD:q≠D:=fun z=>(List.nodup_cons.mp nd).1 (z▸hq)
    obtain ⟨o,h1⟩:=hro.some q hq
    rw [ay hqD,ay (LL q hq),gr.s1 q o h1,h1]
   have app:∀ {H0 H:Hp} {ps:List Addr} {rs:List (List Dm.Dat)} {p:Addr},aX H0 H ps rs→H p=some (.lst [])→aX H0 H (ps++[p]) (rs++[[]]):=by
    intro H0 H ps rs p h1 h2
    induction ps generalizing rs with
    | nil=>cases rs with
     | nil=>exact ⟨⟨[],h2,.nil⟩,trivial⟩
     | cons _ _=>exact h1.elim
    | cons q ps ih=>cases rs with
     | nil=>exact h1.elim
     | cons r rs=>exact ⟨h1.1,ih h1.2⟩
   have:=app base (p:=p) (by rw [ay hpD,aE])
   rw [List.replicate_succ']
   exact this
  ·exact ((sp.trans t2.stp fun a z=>.inl (ho a z)).aside ((sp.trans t2.stp fun a z=>.inl (ho a z)).gone hp)).aside hD
  ·exact fun j hj=>(k3 j fun z=>Nat.not_lt.mpr (hl j z) hj).trans (hσ j hj)
  ·exact fun a z=>ho a (o3 a z)
 ·have e':i=ds.length:=by omega
  subst e'
  rw [List.drop_length] at ec
  cases ec
  refine .inl ⟨js _ (Nat.le_refl _),k H0c H' ps ?_ sp ?_ hDl n0 nd hps hro⟩
  all_goals
   have hlen:σ.length≤ρ2.length:=by
    rw [← sc.len]
    refine Nat.not_lt.mp fun z=>?_
    have q:=hσ σ'.length z
    rw [List.getElem?_eq_none (Nat.le_refl _),List.getElem?_eq_getElem z] at q
    cases q
   have tk:∀ {j:Nat} {c:Dm.Cell},(ρ2.take ρ1.length)[j]?=some c→j<σ.length∧ρ2[j]?=some c:=fun {j c} h=>by
    have hj:j<ρ1.length:=by
     have:=(List.getElem?_eq_some_iff.mp h).1
     rw [List.length_take] at this
     omega
    rw [List.getElem?_take_of_lt hj] at h
    exact ⟨by rw [st1.len];exact hj,h⟩
  ·refine ⟨sc.same,?_,fun j d h=>?_,fun j d h=>?_,fun j j' d d' a h1 h2 h3 h4=>?_⟩
   ·rw [List.length_take,← st1.len];omega
   ·obtain ⟨hj,h⟩:=tk h
    obtain ⟨v,q,r⟩:=sc.sh j d h
    exact ⟨v,(hσ j hj).symm.trans q,r⟩
   ·obtain ⟨hj,h⟩:=tk h
    obtain ⟨v,q,r⟩:=sc.ow j d h
    exact ⟨v,(hσ j hj).symm.trans q,r⟩
   ·obtain ⟨hj,h1⟩:=tk h1
    obtain ⟨hj',h2⟩:=tk h2
    exact sc.dis j j' d d' a h1 h2 ((hσ j hj).trans h3) ((hσ j' hj').trans h4)
  ·intro a ⟨j,d,h1,h2⟩
   obtain ⟨hj,h1⟩:=tk h1
   exact ho a ⟨j,d,h1,(hσ j hj).trans h2⟩
theorem rO {j own:Nat} {fi:Dm.FI} {bd:Dm.FB} {loop:Dm.FN} {ρ:Dm.Env} {z:Dm.Out} (q:Dm.pN j fi own bd loop ρ=some z):∃ ds ρ1 ρ2 ρ3 r3,j≠0∧fi ρ=some (ds,ρ1)∧ds.length≤Dm.SZ∧Dm.nMk bd ds (ρ1++List.replicate own .un)=some ρ2 ∧
  loop ((ρ2.take ρ1.length).set j .un) (List.replicate ds.length [])=some (ρ3,r3)∧z=.nx (ρ3.set j (.ow (.lst (r3.map .lst)))):=by
 unfold Dm.pN at q
 split at q
 ·cases q
 rename_i hj0
 split at q
 ·cases q
 rename_i ds ρ1 e1
 split at q
 case isFalse=>cases q
 rename_i hsz
 split at q
 ·cases q
 rename_i ρ2 e2
 split at q
 ·cases q
 rename_i ρ3 r3 e3
 cases q
 exact ⟨ds,ρ1,ρ2,ρ3,r3,hj0,e1,hsz,e2,e3,rfl⟩
theorem EZ {s u:Dm.FS} {ρ:Dm.Env} {o:Dm.Out} (hs:∀ z,s ρ=some z→∃ ρ',z=.nx ρ') (e:Dm.aA s u ρ=some o):∃ ρ1,s ρ=some (.nx ρ1)∧u ρ1=some o:=by
 cases q:s ρ with
 | none=>unfold Dm.aA at e;rw [q] at e;cases e
 | some z=>
  obtain ⟨ρ1,rfl⟩:=hs z q
  unfold Dm.aA at e
  rw [q] at e
  exact ⟨ρ1,rfl,e⟩
theorem Ji {σ:L2.St} {H:Hp} {D:Ends} {j own:Nat} {fi:Dm.FI} {bd:Dm.FB} {g:TG} {is:List Nat} {loop:Dm.FN} {gs:Dm.FS} (hb:BD is g bd) (hl:∀ i∈is,σ.length≤i) (hj:j<σ.length) (h:tDS (Dm.aA (Dm.pN j fi own bd loop) gs) D σ H) :
  zq (wm (tLC (tDI fi) own g Ef (DV zC)) (k7 j)) (zq (tDN j loop) (tDS gs)) D σ H:=by
 obtain ⟨H0,ρ,o,st,e,k⟩:=h
 obtain ⟨ρ9,e9,e⟩:=EZ (fun z q=>by obtain ⟨_,_,_,_,_,_,_,_,_,_,z⟩:=rO q;exact ⟨_,z⟩) e
 obtain ⟨ds,ρ1,ρ2,ρ3,r3,hj0,e1,hsz,e2,e3,z9⟩:=rO e9
 cases z9
 refine ⟨H0,ρ,ds,ρ1,st,e1,fun J H00 Hb t1 jw L hL=>BP (Q:=fun x H1=>k7 j x σ H1 (zq (tDN j loop) (tDS gs) D)) hb hl t1.st jw hsz e2 L hL fun H0' H' ps st' sp' ho' hDl n0 nd hps hro=>?_⟩
 have nL:¬ au σ ρ1 L:=t1.st.dh hL
 have om:∀ a,au (σ.set j (some (.ref L))) ((ρ2.take ρ1.length).set j .un) a→au σ (ρ2.take ρ1.length) a:=fun a ⟨i,d,h1,h2⟩=>by
  rcases aP h1 with ⟨_,z⟩ | ⟨hij,h1⟩
  ·cases z
  ·rw [List.getElem?_set_ne (Ne.symm hij)] at h2
   exact ⟨i,d,h1,h2⟩
 have st2:aB H0' H' (σ.set j (some (.ref L))) ((ρ2.take ρ1.length).set j .un):={
  same:=st'.same
  len:=by rw [List.length_set,List.length_set];exact st'.len
  sh:=fun i d h=>by
   rcases aP h with ⟨_,z⟩ | ⟨hij,h⟩
   ·cases z
   ·obtain ⟨v,q,r⟩:=st'.sh i d h
    exact ⟨v,by rw [List.getElem?_set_ne (Ne.symm hij)];exact q,r⟩
  ow:=fun i d h=>by
   rcases aP h with ⟨_,z⟩ | ⟨hij,h⟩
   ·cases z
   ·obtain ⟨v,q,r⟩:=st'.ow i d h
    exact ⟨v,by rw [List.getElem?_set_ne (Ne.symm hij)];exact q,r⟩
  dis:=fun i i' d d' a h1 h2 h3 h4=>by
   rcases aP h1 with ⟨_,z⟩ | ⟨q1,h1⟩
   ·cases z
   rcases aP h2 with ⟨_,z⟩ | ⟨q2,h2⟩
   ·cases z
   rw [List.getElem?_set_ne (Ne.symm q1)] at h3
   rw [List.getElem?_set_ne (Ne.symm q2)] at h4
   exact st'.dis i i' d d' a h1 h2 h3 h4 }
 have sp:Stp (au σ ρ) H0 H H0' H':=t1.stp.trans sp' fun a z=>.inl (t1.own a z)
 have n:NS j σ ρ H0 H (σ.set j (some (.ref L))) ((ρ2.take ρ1.length).set j .un) H0' H' (List.replicate ds.length []):=
  ⟨st2,sp,fun a z=>.inl (t1.own a (ho' a (om a z))),List.getElem?_set_ne hj0,L,ps,List.getElem?_set_self hj,t1.stp.gone hL,n0,fun z=>nL (ho' L (om L z)),hDl,nd,fun p hp=>⟨t1.stp.gone (hps p hp).1,(hps p hp).2,fun z=>t1.st.dh (hps p hp).1 (ho' p (om p z))⟩,hro⟩
 refine ⟨σ,ρ,H0,H,H0',_,_,ρ3,r3,n,e3,fun σ4 H4 Hd n4 _=>?_⟩
 obtain ⟨H5,t5⟩:=n4.done
 exact ⟨H5,_,o,t5.st,e,k.pre t5⟩
noncomputable abbrev DN (X:Cx) (j:Nat) (st:Stmt) (f:Dm.FN):Prop:=PS X st (tDN j f)
noncomputable abbrev DNs (X:Cx) (j:Nat) (st:List Stmt) (f:Dm.FN):Prop:=PSs X st (tDN j f)
section
variable {X:Cx} {st:Stmt} {rest:List Stmt} {fs gs:Dm.FN} {e c:Expr} {f:Dm.FE} {pos:Pos} {j:Nat}
theorem GF:DNs X j [] Dm.nNx:=PSs.weak x_ fun _ _ _=>LH
theorem Jj (h1:DN X j st fs) (h2:DNs X j rest gs):DNs X j (st::rest) (Dm.BN fs gs):=PSs.weak (iU h1 h2) fun _ _ _=>Jf
theorem BQ (h1:DN X j st fs):DNs X j [st] fs:=ya h1
theorem LM {t:Dm.FT} {x y:List Stmt} (ht:DT X c t) (ha:DNs X j x fs) (hb:DNs X j y gs):DN X j (.If c x y pos) (Dm.nIf t fs gs):=PS.weak (Ax ht ha hb) fun _ _ _=>LJ
theorem LN {tg it:Expr} {fi:Dm.FI} {is:List Nat} {bd:Dm.FB} {body:List Stmt} (hp:PassesOwn (model X.prog X.w) X.A X.env X.xe) (hc:X.calm=true) (hi:DI X tg it fi) (hg:TG' X tg is bd) (hb:DNs X j body fs) (hj:decide (j∈is)=false:=by rfl)
  (hs:∀ x,foldedSetIterable it X.env x=pure x:=by intro _;rfl):DN X j (.For tg it body [] pos) (Dm.u6 fi bd fs):=by
 obtain ⟨g,h1,h2⟩:=hg.ex
 exact PS.weak (AI hp hc hi h1 hb hs) fun _ _ _=>Jg h2 (of_decide_eq_false hj)
theorem GG {x:Str} {i:Expr} {fi:Dm.FE} {px sp ap cp:Pos} (hi':DE X i fi) (he:DE X e f) (hi:X.N[j]?=some x:=by rfl) (hv:Vis X.env.scope x:=by first | exact Or.inl rfl | exact Or.inr (Or.inl rfl) | exact Or.inr (Or.inr rfl)) (hd:(x == ("__debug__" : Str))=false:=by decide)
  (hcd:(x == ("__classdict__" : Str))=false:=by decide) (hpl:sI i:=by intro _ _;rfl) (hbase:attributeBase (.Subscript (.Name x px) i sp) "append" X.env (eval (.Subscript (.Name x px) i sp) X.env)=eval (.Subscript (.Name x px) i sp) X.env:=by rfl)
  (hfew:((backTo cp (starEach [e] X.env)).all (fun x=>!x.1)&&(backToKw cp (keywordEach [] X.env)).all (fun x=>x.1.isSome)
   && decide ([e].length+([]:List Keyword).length+(if ([]:List Keyword).isEmpty then 0 else 1)<30))=true:=by rfl)
  (hline:(ap.endLine == cp.line)=true:=by rfl) (hs:starEach [e] X.env=(false,eval e X.env)::starEach [] X.env:=by rfl) (hplain:(backTo cp (starEach [] X.env)).any (·.1)=false:=by rfl)
  (hsw:swapsWith (.Call (.Attribute (.Subscript (.Name x px) i sp) "append" ap) [e] [] cp) none pos.line X.env=pure false:=by rfl) :
  DN X j (.Expr (.Call (.Attribute (.Subscript (.Name x px) i sp) "append" ap) [e] [] cp) pos) (Dm.tG fi f):=
 PS.weak (k6 (uF PySem.F.plainAttrs_list PySem.F.slot_list_append PySem.F.type_list_append mJ (Gj yh (jY hi hv hd hcd) hi' hpl) (aa he af hs) hbase hfew hline hs hplain) hsw) fun _ _ _=>Jh
theorem Jk (j:Nat) (nm own:List Str) {y:Str} {py spos Jl:Pos} {tg iter:Expr} {scope:Scope} {is:List Nat} {bd:Dm.FB} {fi:Dm.FI} {loop:Dm.FN} {gs:Dm.FS} {lst:Stmt} (hN:X.N.Nodup) (hg:TGc X nm scope own tg is bd) (hi:DI X tg iter fi) (hlp:DN X j lst loop) (hre:DSs X rest gs)
  (hc:X.calm=true:=by rfl) (hk:scope.kind=.function:=by rfl) (hS:pA X.env.scope X.N nm scope=true:=by rfl) (hl:(is.all fun i=>decide (X.N.length≤i))=true:=by rfl) (hj:X.N[j]?=some y:=by rfl) (hy:Loc X.env.scope y:=by first | exact Or.inl rfl | exact Or.inr rfl)
  (hsw:swapsWith (.ListComp (.List [] Jl) [⟨tg,iter,[],0⟩] scope pos) (some (.Name y py)) spos.line X.env=pure true:=by rfl) (hs:∀ y,foldedSetIterable iter X.env y=pure y:=by intro _;rfl)
  (hf:X.fn y=true∨X.env.scope.names.lookup y=some .local:=by first | exact .inl rfl | exact .inr rfl | assumption) :
  DSs X (.Assign [.Name y py] (.ListComp (.List [] Jl) [⟨tg,iter,[],0⟩] scope pos) spos::lst::rest) (Dm.aA (Dm.pN j fi own.length bd loop) gs):=by
 obtain ⟨g,h1,h2⟩:=hg.ex
 have h:=iU (iZ hN hj hy hc (fJ.of hS hk) hi h1 (fun cl C s H fp=>yo) (fun cl C s H fp=>AO (pos:=Jl) oV) hsw hs hf) (iU hlp hre)
 intro pins s σ H D I q
 exact h pins s σ H D I (Ji h2 (fun i hi=>by rw [I.len];exact uT hl i hi) (by rw [I.len];exact (List.getElem?_eq_some_iff.mp hj).1) q)
end
section
variable {σ:L2.St} {H:Hp} {Q:VK}
end
open Classical in
section
variable {X:Cx} {e b:Expr} {es:List Expr} {fs:List Dm.FE} {fb:Dm.FE} {p pos:Pos}
end
section
variable {X:Cx} {a b c e:Expr} {fa fb fc:Dm.FE} {p pos:Pos}
end
section
variable {X:Cx} {tg:Expr}
end
open PySem
variable {C:List Value→Prop} {us:List Value}
theorem len0 (h:us.length=0) (c:C []):C us:=by rw [List.eq_nil_of_length_eq_zero h];exact c
theorem E1 {n:Nat} {C:List Value→Prop} {us:List Value} (h:us.length=n+1) (c:∀ a us,us.length=n→C (a::us)):C us:=by
 cases us with
 | nil=>cases h
 | cons a us=>exact c a us (by simpa using h)
theorem LO (h:us.length=1) (c:∀ a,C [a]):C us:=E1 h fun a _ h=>len0 h (C:=fun us=>C (a::us)) (c a)
theorem zW (h:us.length=2) (c:∀ a b,C [a,b]):C us:=E1 h fun a _ h=>LO h (C:=fun us=>C (a::us)) (c a)
theorem LP (h:us.length=3) (c:∀ a b d,C [a,b,d]):C us:=E1 h fun a _ h=>zW h (C:=fun us=>C (a::us)) (c a)
theorem Nc (h:us.length=4) (c:∀ a b d e,C [a,b,d,e]):C us:=E1 h fun a _ h=>LP h (C:=fun us=>C (a::us)) (c a)
end Br
namespace L2
open PySem
variable {K:PySem.W.Frag} {x qual:Str} {st:Stmt} {f:Addr} {fd:FuncData} {ps:List Str}
theorem Fun.wW (F:Fun K x qual st f fd) (hp:ps.length=1) (h:∀ (kV doc pm:Value) (an:Option Addr) (cdv ct:Value) (a:Value),bindArgs (PySem.W.fnOf x qual (aZ st) (aO st) (aj st) .none kV doc pm an cdv ct) ⟨[a],[]⟩=pure (ps.zip [a])):Binds K fd ps []:=
 F.binds fun kV doc pm an cdv ct us hl=>Br.LO (C:=fun us=>bindArgs (PySem.W.fnOf x qual (aZ st) (aO st) (aj st) .none kV doc pm an cdv ct) ⟨us,[]⟩=pure (ps.zip us)) (hl.trans hp) (h kV doc pm an cdv ct)
theorem Fun.f_ (F:Fun K x qual st f fd) (hp:ps.length=2) (h:∀ (kV doc pm:Value) (an:Option Addr) (cdv ct:Value) (a b:Value),bindArgs (PySem.W.fnOf x qual (aZ st) (aO st) (aj st) .none kV doc pm an cdv ct) ⟨[a,b],[]⟩=pure (ps.zip [a,b])):Binds K fd ps []:=
 F.binds fun kV doc pm an cdv ct us hl=>Br.zW (C:=fun us=>bindArgs (PySem.W.fnOf x qual (aZ st) (aO st) (aj st) .none kV doc pm an cdv ct) ⟨us,[]⟩=pure (ps.zip us)) (hl.trans hp) (h kV doc pm an cdv ct)
theorem Fun.gx (F:Fun K x qual st f fd) (hp:ps.length=3) (h:∀ (kV doc pm:Value) (an:Option Addr) (cdv ct:Value) (a b d:Value),bindArgs (PySem.W.fnOf x qual (aZ st) (aO st) (aj st) .none kV doc pm an cdv ct) ⟨[a,b,d],[]⟩=pure (ps.zip [a,b,d])):Binds K fd ps []:=
 F.binds fun kV doc pm an cdv ct us hl=>Br.LP (C:=fun us=>bindArgs (PySem.W.fnOf x qual (aZ st) (aO st) (aj st) .none kV doc pm an cdv ct) ⟨us,[]⟩=pure (ps.zip us)) (hl.trans hp) (h kV doc pm an cdv ct)
theorem Fun.wX (F:Fun K x qual st f fd) (hp:ps.length=4) (h:∀ (kV doc pm:Value) (an:Option Addr) (cdv ct:Value) (a b d e:Value),bindArgs (PySem.W.fnOf x qual (aZ st) (aO st) (aj st) .none kV doc pm an cdv ct) ⟨[a,b,d,e],[]⟩=pure (ps.zip [a,b,d,e])):Binds K fd ps []:=
 F.binds fun kV doc pm an cdv ct us hl=>Br.Nc (C:=fun us=>bindArgs (PySem.W.fnOf x qual (aZ st) (aO st) (aj st) .none kV doc pm an cdv ct) ⟨us,[]⟩=pure (ps.zip us)) (hl.trans hp) (h kV doc pm an cdv ct)
end L2
namespace Dm
end Dm
namespace Br
open PySem L2
section
variable {X:Cx} {e:Expr} {es:List Expr} {fs:List Dm.FE} {p pos:Pos}
end
end Br
namespace Dm
end Dm
namespace Br
open PySem PySem.Spec PyProof.Rows L2
section
variable {X:Cx} {e:Expr} {es:List Expr} {fs:List Dm.FE} {p pos:Pos}
end
section
variable {X:Cx} {e1 e2 e3:Expr} {f1 f2 f3:Dm.FE} {p pos kpos:Pos}
end
end Br
namespace Dm
noncomputable def dZ:Dat→Option Nat
 | .lst []=>some 0
 | .lst (.int _::_)=>some 1
 | .lst (.tup xs::_)=>some (2+xs.length)
 | .lst (.lst _::_)=>some 1000000
 | _=>none
mutual
noncomputable def i9 (k:Nat):Dat→Bool
 | .tup xs=>lO k xs
 | .lst xs=>(match dZ (.lst xs) with
  | some j=>decide (j≠k)
  | none=>false)&&lO k xs
 | .dct _ vs=>lO k vs
 | _=>true
noncomputable def lO (k:Nat):List Dat→Bool
 | []=>true
 | x::r=>i9 k x&&lO k r
end
noncomputable def tkk (k:Nat) (ρ:Env):Val→Option (Dat×Env)
 | .val d=>some (d,ρ)
 | .new d=>some (d,ρ)
 | .slot i=>match ρ[i]? with
  | some (.ow d)=>if dZ d=some k then some (d,ρ) else some (d,ρ.set i (.sh d))
  | some (.sh d)=>some (d,ρ)
  | _=>none
noncomputable def m6 (k:Nat) (ρ:Env):List Val→Option (List Dat×Env)
 | []=>some ([],ρ)
 | x::r=>match tkk k ρ x with
  | none=>none
  | some (d,ρ1)=>match m6 k ρ1 r with
   | none=>none
   | some (ds,ρ2)=>some (d::ds,ρ2)
noncomputable def eFk (k:Nat) (f:List Dat→Option RV) (as:List FE):FE:=fun ρ=>match eAs as ρ with
 | none=>none
 | some (xs,ρ1)=>match m6 k ρ1 xs with
  | none=>none
  | some (ds,ρ2)=>match f ds with
   | none=>none
   | some v=>if i9 k v.dat then some (v.bG,ρ2) else none
end Dm
namespace Br
open PySem PySem.Spec PyProof.Rows L2
theorem z_ {d:Dm.Dat} {k:Nat} (h:Dm.dZ d=some k):∃ ds,d=.lst ds:=by
 unfold Dm.dZ at h
 split at h
 ·exact ⟨_,rfl⟩
 ·exact ⟨_,rfl⟩
 ·exact ⟨_,rfl⟩
 ·exact ⟨_,rfl⟩
 ·cases h
theorem yF {H:Hp} {a:Addr} {xs ys:List V} (h:H a=some (.tup xs)) (q:Rd H a (.lst ys)):False:=by
 rcases q with q | ⟨o,q⟩
 ·rw [h] at q;cases q
 ·rw [h] at q;cases q
theorem BR {H:Hp} {xs:List V} {ds es:List Dm.Dat} {j k:Nat} (r:aJ H xs ds) (q:aJ H xs es) (h1:Dm.dZ (.lst ds)=some j) (h2:Dm.dZ (.lst es)=some k):j=k:=by
 cases r with
 | nil=>cases q;cases h1;cases h2;rfl
 | cons r _=>
  cases q with
  | cons q _=>
   unfold Dm.dZ at h1 h2
   split at h1
   ·rename_i z;cases z
   ·rename_i z
    cases z
    cases r
    cases q
    cases h1;cases h2;rfl
   ·rename_i z
    cases z
    cases h1
    split at h2
    ·rename_i z;cases z
    ·rename_i z;cases z;cases q;cases r
    ·rename_i z
     cases z
     cases h2
     cases r with
     | tup a ra=>
      cases q with
      | tup b rb=>
       rw [a] at b
       cases b
       rw [← ra.length,← rb.length]
    ·rename_i z
     cases z
     cases r with
     | tup a ra=>
      cases q with
      | lst b rb=>exact (yF a b).elim
    ·cases h2
   ·rename_i z
    cases z
    cases h1
    split at h2
    ·rename_i z;cases z
    ·rename_i z;cases z;cases q;cases r
    ·rename_i z
     cases z
     cases q with
     | tup a ra=>
      cases r with
      | lst b rb=>exact (yF a b).elim
    ·cases h2;rfl
    ·cases h2
   ·cases h1
theorem Jm {k:Nat} {ρ ρ':Dm.Env} {x:Dm.Val} {d:Dm.Dat} (e:Dm.tkk k ρ x=some (d,ρ')):Dm.tk ρ x=some (d,ρ')∨∃ i ds,x=.slot i∧ρ[i]?=some (.ow (.lst ds))∧Dm.dZ (.lst ds)=some k∧d=.lst ds∧ρ'=ρ:=by
 cases x with
 | val d'=>exact .inl e
 | new d'=>exact .inl e
 | slot i=>
  unfold Dm.tkk at e
  dsimp only at e
  split at e
  ·rename_i d' h
   split at e
   ·rename_i hk
    cases e
    obtain ⟨ds,rfl⟩:=z_ hk
    exact .inr ⟨i,ds,rfl,h,hk,rfl,rfl⟩
   ·left
    unfold Dm.tk
    dsimp only
    rw [h]
    exact e
  ·rename_i d' h
   left
   unfold Dm.tk
   dsimp only
   rw [h]
   exact e
  ·cases e
theorem BS {k:Nat} {ρ ρ':Dm.Env} {x:Dm.Val} {d c:Dm.Dat} {i:Nat} (e:Dm.tkk k ρ x=some (d,ρ')) (h:ρ[i]?=some (.ow c)) (hc:Dm.dZ c=some k):ρ'[i]?=some (.ow c):=by
 cases x with
 | val d'=>cases e;exact h
 | new d'=>cases e;exact h
 | slot j=>
  unfold Dm.tkk at e
  dsimp only at e
  split at e
  ·rename_i d' hj
   split at e
   ·cases e;exact h
   ·rename_i hn
    cases e
    by_cases q:j=i
    ·subst q
     rw [h] at hj
     cases hj
     exact absurd hc hn
    ·rw [List.getElem?_set_ne q];exact h
  ·cases e;exact h
  ·cases e
theorem rP {k i:Nat} {c:Dm.Dat} (hc:Dm.dZ c=some k):∀ {xs:List Dm.Val} {ρ ρ':Dm.Env} {ds:List Dm.Dat},Dm.m6 k ρ xs=some (ds,ρ')→ρ[i]?=some (.ow c)→ρ'[i]?=some (.ow c)
 | [],_,_,_,e,h=>by cases e;exact h
 | x::xs,ρ,ρ',ds,e,h=>by
  unfold Dm.m6 at e
  split at e
  ·cases e
  rename_i d ρ1 e1
  split at e
  ·cases e
  rename_i ds' ρ2 e2
  cases e
  exact rP hc e2 (BS e1 h hc)
noncomputable def Nd (k:Nat) (H0:Hp) (σ:L2.St) (ρ:Dm.Env) (v:V) (d:Dm.Dat):Prop:=Rep H0 v d∨∃ (i:Nat) (b:Addr) (ds:List Dm.Dat),d=.lst ds∧v=.ref b∧ρ[i]?=some (.ow (.lst ds))∧Dm.dZ (.lst ds)=some k∧σ[i]?=some (some (.ref b))
inductive u9 (k:Nat) (H0:Hp) (σ:L2.St) (ρ:Dm.Env):List V→List Dm.Dat→Prop
 | nil:u9 k H0 σ ρ [] []
 | cons {v:V} {d:Dm.Dat} {vs:List V} {ds:List Dm.Dat}:Nd k H0 σ ρ v d→u9 k H0 σ ρ vs ds→u9 k H0 σ ρ (v::vs) (d::ds)
theorem wY {k:Nat} {Hs H0s H0 H:Hp} {σ:L2.St} {ρs:Dm.Env}:∀ {xs:List Dm.Val} {vs:List V} {ρ ρ':Dm.Env} {ds:List Dm.Dat} {H0c:Hp},ESt σ ρs H0s Hs ρ H0c H→az H0 H0c→fY Hs H0 H σ ρ vs xs→Dm.m6 k ρ xs=some (ds,ρ') →
  ∃ oZ,ESt σ ρs H0s Hs ρ' oZ H∧az H0c oZ∧u9 k oZ σ ρ' vs ds
 | [],_,ρ,ρ',ds,H0c,t,b,r,e=>by
  cases r
  cases e
  exact ⟨H0c,t,az.refl _,.nil⟩
 | x::xs,_,ρ,ρ',ds,H0c,t,b,r,e=>by
  cases r with
  | cons h r=>
   unfold Dm.m6 at e
   split at e
   ·cases e
   ·rename_i d ρ1 e1
    split at e
    ·cases e
    ·rename_i ds' ρ2 e2
     cases e
     rcases Jm e1 with e1' | ⟨i,es,rfl,hi,hk,rfl,rfl⟩
     ·obtain ⟨H1,t1,b1,r1,o1,d1⟩:=take1 t b h e1'
      obtain ⟨H2,t2,b2,r2⟩:=wY t1 (b.trans b1) (r.rho o1 d1) e2
      exact ⟨H2,t2,b1.trans b2,.cons (.inl (r1.mono b2)) r2⟩
     ·obtain ⟨H2,t2,b2,r2⟩:=wY t b r e2
      obtain ⟨q,_⟩:=h
      obtain ⟨a,z,_⟩:=t.st.ow i _ hi
      rw [q] at z
      cases z
      exact ⟨H2,t2,b2,.cons (.inr ⟨i,a,es,rfl,rfl,rP hk e2 hi,hk,q⟩) r2⟩
mutual
theorem Rep.noL {k:Nat} {H H':Hp} (hk:∀ a o,H a=some o→H' a=some o∨∃ xs,o=.lst xs∧∀ ds j,aJ H xs ds→Dm.dZ (.lst ds)=some j→j=k):∀ {v:V} {d:Dm.Dat},Rep H v d→Dm.i9 k d=true→Rep H' v d
 | _,_,.non,_=>.non
 | _,_,.bl b,_=>.bl b
 | _,_,.int i,_=>.int i
 | _,_,.str x,_=>.str x
 | _,_,.tup h r,n=>.tup (by
   rcases hk _ _ h with z | ⟨_,z,_⟩
   ·exact z
   ·cases z) (aJ.noL hk r (by unfold Dm.i9 at n;exact n))
 | _,_,.lst (ds:=ds) h r,n=>by
   unfold Dm.i9 at n
   rw [Bool.and_eq_true] at n
   refine .lst ?_ (aJ.noL hk r n.2)
   rcases h with h | ⟨o,h⟩
   ·rcases hk _ _ h with z | ⟨_,z,kf⟩
    ·exact .inl z
    ·cases z
     obtain ⟨n1,_⟩:=n
     split at n1
     ·rename_i j e
      exact absurd (kf ds j r e) (of_decide_eq_true n1)
     ·cases n1
   ·rcases hk _ _ h with z | ⟨_,z,_⟩
    ·exact .inr ⟨o,z⟩
    ·cases z
 | _,_,.dct h e r,n=>.dct (by
   rcases hk _ _ h with z | ⟨_,z,_⟩
   ·exact z
   ·cases z) e (aJ.noL hk r (by unfold Dm.i9 at n;exact n))
 | _,_,.exc h,n=>.exc (by
   rcases hk _ _ h with z | ⟨_,z,_⟩
   ·exact z
   ·cases z)
 | _,_,.fn a,_=>.fn a
theorem aJ.noL {k:Nat} {H H':Hp} (hk:∀ a o,H a=some o→H' a=some o∨∃ xs,o=.lst xs∧∀ ds j,aJ H xs ds→Dm.dZ (.lst ds)=some j→j=k):∀ {vs:List V} {ds:List Dm.Dat},aJ H vs ds→Dm.lO k ds=true→aJ H' vs ds
 | _,_,.nil,_=>.nil
 | _,_,.cons h r,n=>by
  unfold Dm.lO at n
  rw [Bool.and_eq_true] at n
  exact .cons (Rep.noL hk h n.1) (aJ.noL hk r n.2)
end
open Classical in
theorem BU {k:Nat} {σ:L2.St} {H:Hp} {Q:VK} {f:List Dm.Dat→Option Dm.RV} {fs:List Dm.FE} {E:XK} (h:tD (Dm.eFk k f fs) σ H Q):uC (spD f) [] E (tDA fs) σ H Q:=by
 obtain ⟨H0,ρ,x,ρ',st,e,kk⟩:=h
 unfold Dm.eFk at e
 split at e
 ·cases e
 rename_i xs ρ1 e1
 split at e
 ·cases e
 rename_i ds ρ2 e2
 split at e
 ·cases e
 rename_i z fz
 split at e
 case isFalse=>cases e
 rename_i hno
 injection e with e
 injection e with ea eb
 subst ea
 subst eb
 refine ⟨H0,ρ,xs,ρ1,st,e1,fun vs H1 Hb t1 r1=>?_⟩
 dsimp only
 rw [List.append_nil]
 obtain ⟨H2,t2,b2,r2⟩:=wY t1 (az.refl _) r1 e2
 let B:Addr→Prop:=fun b=>∃ (i:Nat) (es:List Dm.Dat),ρ2[i]?=some (.ow (.lst es))∧Dm.dZ (.lst es)=some k∧σ[i]?=some (some (.ref b))
 have hB:∀ b,B b→H2 b=none∧∃ ys es,Hb b=some (.lst ys)∧aJ H2 ys es∧Dm.dZ (.lst es)=some k:=fun b ⟨i,es,h1,h2,h3⟩=>by
  obtain ⟨a,q,n,ys,w,rs⟩:=t2.st.ow i _ h1
  rw [h3] at q
  cases q
  exact ⟨n,ys,es,w,rs,h2⟩
 let H2':Hp:=fun b=>if B b then Hb b else H2 b
 have in':∀ b,B b→H2' b=Hb b:=fun b h=>if_pos h
 have out':∀ b,¬ B b→H2' b=H2 b:=fun b h=>if_neg h
 have s2:az H2 H2':=fun b o e=>by
  by_cases q:B b
  ·rw [(hB b q).1] at e;cases e
  ·rw [out' b q];exact e
 have s2b:az H2' Hb:=fun b o e=>by
  by_cases q:B b
  ·rw [in' b q] at e;exact e
  ·rw [out' b q] at e;exact t2.st.same _ _ e
 have rr:∀ {vs:List V} {ds:List Dm.Dat},u9 k H2 σ ρ2 vs ds→aJ H2' vs ds:=fun {vs ds} r=>by
  induction r with
  | nil=>exact .nil
  | cons h _ ih=>
   refine .cons ?_ ih
   rcases h with h | ⟨i,b,es,rfl,rfl,h1,h2,h3⟩
   ·exact h.mono s2
   ·obtain ⟨a,q,n,ys,w,rs⟩:=t2.st.ow i _ h1
    rw [h3] at q
    cases q
    exact .lst (.inl (by rw [in' _ ⟨i,es,h1,h2,h3⟩];exact w)) (rs.mono s2)
 refine ⟨H2',ds,z,s2b,rr r2,fz,fun w H3 Hd g3 r3=>?_⟩
 let H3':Hp:=fun b=>if B b then none else H3 b
 have in3:∀ b,B b→H3' b=none:=fun b h=>if_pos h
 have BV:∀ b,¬ B b→H3' b=H3 b:=fun b h=>if_neg h
 have gr:aN H2 Hb H3' Hd:=⟨fun b o e=>by
   by_cases q:B b
   ·rw [(hB b q).1] at e;cases e
   ·rw [BV b q];exact g3.s0 _ _ (s2 _ _ e),g3.s1,fun b o e=>by
   by_cases q:B b
   ·rw [in3 b q] at e;cases e
   ·rw [BV b q] at e
    rcases g3.s2 b o e with y | y
    ·exact .inl y
    ·rw [out' b q] at y;exact .inr y,fun b o e=>by
   by_cases q:B b
   ·rw [in3 b q] at e;cases e
   ·rw [BV b q] at e;exact g3.s3 _ _ e⟩
 have hk:∀ a o,H3 a=some o→H3' a=some o∨∃ xs,o=.lst xs∧∀ ds j,aJ H3 xs ds→Dm.dZ (.lst ds)=some j→j=k:=fun a o e=>by
  by_cases q:B a
  ·obtain ⟨_,ys,es,y,rs,he⟩:=hB a q
   have:=g3.s0 a _ ((in' a q).trans y)
   rw [e] at this
   refine .inr ⟨ys,Option.some.inj this,fun ds j r hj=>BR r ((rs.mono s2).mono g3.s0) hj he⟩
  ·exact .inl (by rw [BV a q];exact e)
 have r3':uP Hb H3' Hd w z:=by
  cases z with
  | val d=>exact Rep.noL hk r3 hno
  | new d=>
   obtain ⟨a,ea,n,n0,w'⟩:=r3
   refine ⟨a,ea,n,?_,?_⟩
   ·by_cases q:B a
    ·exact in3 a q
    ·rw [BV a q];exact n0
   ·cases d with
    | lst ds'=>
     obtain ⟨ys,y1,y2⟩:=w'
     have hn:Dm.i9 k (.lst ds')=true:=hno
     unfold Dm.i9 at hn
     rw [Bool.and_eq_true] at hn
     exact ⟨ys,y1,aJ.noL hk y2 hn.2⟩
    | dct ks ds'=>
     obtain ⟨ys,y1,y2,y3⟩:=w'
     have hn:Dm.i9 k (.dct ks ds')=true:=hno
     unfold Dm.i9 at hn
     exact ⟨ys,y1,y2,aJ.noL hk y3 hn⟩
    | _=>exact w'.elim
 exact kk w H3' Hd (t2.trans (.grow t2.st gr)) ((r3'.toV t2.st).early fun a n=>t2.stp.gone n)
section
variable {X:Cx} {e:Expr} {es:List Expr} {fs:List Dm.FE} {p pos:Pos}
theorem pO {k:Nat} (kd:Nat) {F:Addr} {fd:FuncData} {ps:List Str} {g:List Dm.Dat→Option Dm.RV} {x:Str} (G:aW X.prog X.w X.K X.mg X.base CX0 k F fd ps (spD g)) (hr:bL k X.A) (hg:Gl X x) (hm:X.mg x=some (.ref F)) (hk:PySem.W.keepIn X.K (.ref F)=true) (hb:Binds X.K fd ps [])
  (ha:DA X (e::es) fs) (hdb:(x == ("__debug__" : Str))=false:=by decide) (he:starEach (e::es) X.env=(false,eval e X.env)::starEach es X.env:=by rfl) (hpl:(backTo pos (starEach es X.env)).any (·.1)=false:=by rfl) :
  DE X (.Call (.Name x p) (e::es) [] pos) (Dm.eFk kd g fs):=PE.weak (oE G hr hg hm hk hb .nil (yj (X:=X)) ha hdb he hpl) fun _ _ _=>BU
end
end Br
namespace Dm
noncomputable def ia (a:Int):List Int→Int
 | []=>a
 | x::r=>ia (if x<a then x else a) r
noncomputable def rQ:List Dat→Option RV
 | [.lst xs]=>(match jV xs with
  | some (n::ns)=>vI (ia n ns)
  | _=>none)
 | _=>none
end Dm
namespace Br
open PySem PySem.Spec PyProof.Rows L2
theorem BW (a x:Int) (l:List Int):Dm.ia a (l++[x])=if x<Dm.ia a l then x else Dm.ia a l:=by
 induction l generalizing a with
 | nil=>rfl
 | cons y l ih=>rw [List.cons_append,Dm.ia,ih,Dm.ia]
theorem u_ (n0:Int) (ns:List Int):∀ k,k≤ns.length→(n0::ns).getD (argBest (fun i j=>decide ((n0::ns).getD i 0<(n0::ns).getD j 0)) k) 0=Dm.ia n0 (ns.take k)
 | 0,_=>rfl
 | k+1,h=>by
  have ih:=u_ n0 ns k (by omega)
  have e:argBest (fun i j=>decide ((n0::ns).getD i 0<(n0::ns).getD j 0)) (k+1)=if decide ((n0::ns).getD (k+1) 0<(n0::ns).getD (argBest (fun i j=>decide ((n0::ns).getD i 0<(n0::ns).getD j 0)) k) 0) then k+1 else argBest (fun i j=>decide ((n0::ns).getD i 0<(n0::ns).getD j 0)) k:=rfl
  have ek:(n0::ns).getD (k+1) 0=ns[k]'(by omega):=by
   rw [List.getD_eq_getElem?_getD,List.getElem?_cons_succ,List.getElem?_eq_getElem (by omega)];rfl
  rw [e,ih,ek,List.take_succ_eq_append_getElem (by omega),BW]
  by_cases c:ns[k]'(by omega)<Dm.ia n0 (ns.take k)
  ·rw [decide_eq_true c,if_pos rfl,if_pos c,ek]
  ·rw [decide_eq_false c,if_neg (by decide),if_neg c,ih]
section
variable {X:Cx}
theorem Aa (hc:X.calm=true):fW X (.builtin "min") (fun xs H Q=>∃ (a:Addr) (n:Int) (ns:List Int),xs=[.ref a]∧Rd H a (.lst ((n::ns).map V.int))∧Q (.int (Dm.ia n ns)) H):=by
 intro pins s σ H xs us Q I r h
 obtain ⟨a,n0,ns,rfl,hq,q⟩:=h
 obtain ⟨u,rfl,rx⟩:=vals1 r
 cases rx
 obtain ⟨z,its,n,rv,e⟩:=hq.ok I.hok
 have hl:s.heap.IsList a its.toArray:=⟨_,e,rfl,_,rfl⟩
 have hlen:=rv.length
 rw [List.length_map] at hlen
 have hax:a≠s.heap.objs.size:=Nat.ne_of_lt (Heap.lt_size e)
 have e1:its.toArray.size=ns.length+1:=by rw [List.size_toArray,← hlen];rfl
 refine PySem.call_min_walk (wpAny_pyIter_list hl ⟨s.heap.objs.size,_,_,_,_,_,_,rfl,Walks.list (A:=X.A.in1) (I.ok.hd hc) s.heap.objs.size a hax its.toArray,⟨⟨_,Heap.get?_push_size _ rfl,rfl,rfl⟩,hl.push _⟩,?_,by rw [e1];exact Nat.succ_pos _,CmpOf.ints_lt (fun i=>(n0::ns).getD i 0) (jJ rv),fun v h' tk hp hk=>?_⟩)
 ·intro b hb
  simp only [List.mem_cons,List.not_mem_nil,or_false] at hb
  rcases hb with rfl | rfl
  ·show s.heap.objs.size<_;exact Heap.size_push ..▸Nat.lt_succ_self _
  ·show b<_;exact Heap.size_push ..▸Nat.lt_succ_of_lt (Heap.lt_size e)
 ·obtain ⟨t',rfl⟩:=jJ rv _ _ hp
  refine ⟨.int (Dm.ia n0 ns),H,I.kept (t':=tk) fun b o eb=>hk b o ?_ (Heap.get?_push_of_some _ eb),⟨t',?_⟩,q⟩
  ·intro hm
   have:b=s.heap.objs.size:=by simpa using hm
   exact absurd (Heap.lt_size eb) (by rw [this];exact Nat.lt_irrefl _)
  ·rw [e1,Nat.add_sub_cancel,u_ n0 ns _ (Nat.le_refl _),List.take_length]
theorem E2:CallD (fun xs H Q=>∃ (a:Addr) (n:Int) (ns:List Int),xs=[.ref a]∧Rd H a (.lst ((n::ns).map V.int))∧Q (.int (Dm.ia n ns)) H) Dm.rQ:=by
 intro H0 H vs ds z Q s rs e k
 unfold Dm.rQ at e
 split at e
 ·split at e
  ·rename_i n ns hb
   cases e
   cases rs with
   | cons r rr=>
    cases rr
    obtain ⟨a,us,rfl,qa,ra⟩:=bC s r
    have:=f9 ra hb
    subst this
    exact ⟨a,n,ns,rfl,qa,k _ H0 H (aN.refl s) (.int _)⟩
  ·cases e
 ·cases e
end
section
variable {X:Cx} {e:Expr} {fs:List Dm.FE} {p pos:Pos}
theorem Jo (hc:X.calm=true) (hg:Gl X "min") (hm:X.mg "min" = none) (ha:DA X [e] fs) (he:starEach [e] X.env=[(false,eval e X.env)]:=by rfl) (hpl:(backTo pos (starEach [] X.env)).any (·.1)=false:=by rfl):DE X (.Call (.Name "min" p) [e] [] pos) (Dm.eB Dm.rQ fs):=wK (Aa hc) E2 (by rfl) hg hm ha (he:=he) (hpl:=hpl)
end
end Br
namespace Dm
noncomputable def rR:List Dat→Option RV
 | [.int i,.int j]=>if (j≤1000000∧-1000000≤j)∧i≤1000000∧-1000000≤i then some (.val (.tup (ups i (j-i).toNat))) else none
 | _=>none
end Dm
namespace Br
open PySem PySem.Spec PyProof.Rows L2
noncomputable def qV (i:Int) (n:Nat):List V:=(List.range n).map fun k=>V.int (i+(k:Nat))
theorem BX {H:Hp} (i:Int) (n:Nat):aJ H (qV i n) (Dm.ups i n):=by
 unfold Dm.ups qV
 have:∀ l:List Nat,aJ H (l.map fun k=>V.int (i+(k:Nat))) (l.map fun k=>Dm.Dat.int (i+(k:Nat))):=fun l=>by
  induction l with
  | nil=>exact .nil
  | cons x l ih=>exact .cons (.int _) ih
 exact this _
noncomputable def LQ (ta:TA):TE:=fun σ H Q=>ta σ H fun vs H1=>∃ i j:Int,vs=[.int i,.int j]∧((-(2 ^ 62)≤j∧j≤1000000)∧-1000000≤i∧i≤1000000)∧∀ q,H1 q=none→Q (.ref q) (upd H1 q (.tup (qV i (j-i).toNat)))
section
variable {X:Cx} {l a b:Expr} {tl:TE} {ta:TA} {fa fb:Dm.FE} {p pos p0 pC:Pos}
theorem E3 (hc:X.calm=true) (hgl:Gl X "tuple") (hml:X.mg "tuple" = none) (hg:Gl X "range") (hm:X.mg "range" = none) (ha:PA X [a,b] ta) (hs:starEach [a,b] X.env=[(false,eval a X.env),(false,eval b X.env)]:=by rfl) (hs2:starEach [b] X.env=[(false,eval b X.env)]:=by rfl)
  (hs0:starEach [.Call (.Name "range" p) [a,b] [] pos] X.env=[(false,eval (.Call (.Name "range" p) [a,b] [] pos) X.env)]:=by rfl) :
  PE X (.Call (.Name "tuple" p0) [.Call (.Name "range" p) [a,b] [] pos] [] pC) (LQ ta):=by
 intro pins s σ H Q I h
 refine wpAny_Call_Name_kw (gp I hgl hml (by rfl) (PyProof.Rows.callWith_type1 (spliced_more ?_ (by rw [hs0];rfl)) (by rw [hs0];rfl) rfl))
 refine Call_ (gp I hg hm boot_range (PyProof.Rows.callWith_type1 (thn (ha pos pins s σ H _ I h) fun us s1 ⟨vs,H1,I1,r1,q1⟩=>?_) (by rw [hs,hs2]) (by rw [hs2];rfl)))
 obtain ⟨i,j,e,⟨⟨q1,q2⟩,q3,q4⟩,q⟩:=q1
 subst e
 cases r1 with
 | cons r rr=>
  cases rr with
  | cons r' rr=>
  cases rr
  obtain ⟨t,rfl⟩:=r
  obtain ⟨t',rfl⟩:=r'
  refine call_range_2 (Calls.spliced_nil ?_)
  have hn:Builtin.Range.rangeSize i j 1=((j-i).toNat:Nat):=by rw [rangeSize_one];split<;>omega
  have hsl:(j-i).toNat≤sizeLine:=by rw [sizeLine_eq];omega
  refine m5 (n:=(j-i).toNat) (I.ok.hd hc) (IsRange.new ..) (small_one (by omega) (by omega) q1 (by omega)) hn (by omega) hsl fun h' tk acc hk hacc=>?_
  have hlt:s1.heap.objs.size<h'.objs.size:=Heap.lt_size (hk _ _ (IsRange.new ..))
  have vl:Vals (qV i (j-i).toNat) acc.toList:=by
   unfold qV
   refine pB (by rw [List.length_map,List.length_range];exact hacc) fun k v hv hi=>?_
   obtain ⟨t,rfl⟩:=hv
   rw [List.length_map,List.length_range] at hi
   refine ⟨.int (i+(k:Nat)),by rw [List.getElem?_map,List.getElem?_range hi];rfl,t,?_⟩
   have:i+(k:Int)*1=i+k:=by omega
   rw [this]
  have ok:bu X.prog X.w (upd H1 h'.objs.size (.tup (qV i (j-i).toNat))) (h'.push { cls:=.type "tuple",data:=.seq acc }) h'.objs.size (.tup (qV i (j-i).toNat)):=
   ⟨by unfold qV;rw [List.length_map,List.length_range];exact hsl,acc.toList,vl,by rw [Array.toArray_toList];exact ⟨_,Heap.get?_push_size _ rfl,rfl,_,rfl⟩⟩
  exact ⟨.ref _,_,I1.laid (t':=tk) (fun b u e=>Heap.get?_push_of_some _ (hk b u (Heap.get?_push_of_some _ e))) (Nat.le_of_lt hlt) ok,rfl,q _ (I1.hok.fresh (Nat.le_of_lt hlt))⟩
theorem E4:CallD (fun xs H Q=>∃ i j:Int,xs=[.int i,.int j]∧((-(2 ^ 62)≤j∧j≤1000000)∧-1000000≤i∧i≤1000000)∧∀ q,H q=none→Q (.ref q) (upd H q (.tup (qV i (j-i).toNat)))) Dm.rR:=by
 intro H0 H xs ds z Q s rx e k
 unfold Dm.rR at e
 split at e
 ·rename_i i j
  split at e
  ·rename_i hb
   cases e
   cases rx with
   | cons r rr=>
    cases rr with
    | cons r' rr=>
    cases rr
    cases aH r
    cases aH r'
    refine ⟨i,j,rfl,by omega,fun p hp=>?_⟩
    have g:=aN.zK (o:=HO.tup (qV i (j-i).toNat)) s hp
    exact k _ _ _ g (.tup aE (BX _ _))
  ·cases e
 ·cases e
theorem Jp (hc:X.calm=true) (hgl:Gl X "tuple") (hml:X.mg "tuple" = none) (hg:Gl X "range") (hm:X.mg "range" = none) (h:DA X [a,b] [fa,fb]) (hs:starEach [a,b] X.env=[(false,eval a X.env),(false,eval b X.env)]:=by rfl) (hs2:starEach [b] X.env=[(false,eval b X.env)]:=by rfl)
  (hs0:starEach [.Call (.Name "range" p) [a,b] [] pos] X.env=[(false,eval (.Call (.Name "range" p) [a,b] [] pos) X.env)]:=by rfl) :
  DE X (.Call (.Name "tuple" p0) [.Call (.Name "range" p) [a,b] [] pos] [] pC) (Dm.eB Dm.rR [fa,fb]):=PE.weak (E3 hc hgl hml hg hm h hs hs2 hs0) fun _ _ _=>Eb E4
end
end Br
namespace Dm
end Dm
namespace Br
open PySem PySem.Spec PyProof.Rows L2
section
variable {prog:Program} {w:World} {A:Around} {E:Value→Shared→Prop} {s:Shared}
end
section
variable {prog:Program} {w:World} {A:Around} {s:Shared}
end
section
variable {X:Cx}
end
section
variable {X:Cx} {e:Expr} {fs:List Dm.FE} {p pos:Pos} {k:Nat}
end
end Br
namespace Dm
end Dm
namespace Br
open PySem PySem.Spec PyProof.Rows L2
section
variable {X:Cx} {tg c e:Expr} {bd:Dm.FB} {is:List Nat} {t:Dm.FT} {f:Dm.FE} {x:Str} {px rp ip pos:Pos}
end
end Br
namespace Dm
end Dm
namespace Br
open PySem PySem.Spec PyProof.Rows L2
section
variable {X:Cx}
end
section
variable {X:Cx} {e:Expr} {fs:List Dm.FE} {p pos:Pos}
end
end Br
namespace Dm
end Dm
namespace Br
open PySem PySem.Spec PyProof.Rows L2
section
variable {X:Cx} {a b c:Expr} {fa fb fc:Dm.FE} {apos cpos:Pos} {k:Nat}
end
end Br
namespace Dk
open PySem PyProof.Rows
open Sem (wp)
section
variable {prog:Program} {w:World} {A:Around} {E:Value→Shared→Prop} {s:Shared}
end
section
variable {prog:Program} {w:World} {K:Type} [DecidableEq K] {knd:PySem.KeyKind prog w K} {A:Around} {E:Value→Shared→Prop} {s:Shared}
end
end Dk
namespace Dm
end Dm
namespace Br
open PySem PySem.Spec PyProof.Rows L2
section
variable {X:Cx} {e:Expr} {fs:List Dm.FE} {p pos:Pos}
end
end Br
namespace Dm
end Dm
namespace Br
open PySem PySem.Spec PyProof.Rows L2
section
variable {N N':Addr→Prop} {H0 H H0' H':Hp}
end
section
variable {σ:L2.St} {H:Hp} {Q:VK}
end
section
variable {X:Cx} {e:Expr} {es:List Expr} {f:Dm.FE} {pos:Pos}
end
section
variable {D:Ends} {σ:L2.St} {H:Hp}
end
section
variable {X:Cx} {e:Expr} {st:Stmt} {rest:List Stmt} {fs:Dm.FS} {pos:Pos}
end
section
variable {j:Nat} {σs:L2.St} {ρs:Dm.Env} {H0s Hs:Hp} {σ:L2.St} {ρ ρ':Dm.Env} {H0 H H0' H':Hp}
end
section
variable {D:Ends} {σ:L2.St} {H:Hp} {j:Nat}
end
section
variable {X:Cx} {e c:Expr} {rest:List Stmt} {fs gs:Dm.FS} {pos:Pos} {j:Nat}
end
end Br
namespace Dm
end Dm
namespace Br
open PySem PySem.Spec PyProof.Rows L2
section
variable {X:Cx} {e elt iter tg:Expr} {es:List Expr} {fs:List Dm.FE} {fi:Dm.FI} {bd:Dm.FB} {is:List Nat} {scope:Scope} {pos p:Pos}
end
section
variable {j:Nat} {σs:L2.St} {ρs:Dm.Env} {H0s Hs:Hp} {σ:L2.St} {ρ ρ':Dm.Env} {H0 H H0' H':Hp}
end
section
variable {D:Ends} {σ:L2.St} {H:Hp} {j:Nat}
end
section
variable {X:Cx} {st:Stmt} {rest:List Stmt} {e c:Expr} {f:Dm.FE} {pos:Pos} {j:Nat}
end
end Br
namespace Dm
end Dm
namespace Br
open PySem PySem.Spec PyProof.Rows L2
section
variable {σ:L2.St} {H:Hp} {Q:VK}
end
section
variable {D:Ends} {σ:L2.St} {H:Hp} {j:Nat}
end
section
variable {D:Ends} {σ:L2.St} {H:Hp} {j:Nat}
end
section
variable {X:Cx} {e c:Expr} {es:List Expr} {rest:List Stmt} {fs:List Dm.FE} {f:Dm.FE} {pos p:Pos} {j:Nat}
end
section
variable {X:Cx} {e:Expr} {es:List Expr} {fs:List Dm.FE} {pos p:Pos}
end
end Br
namespace Sx
open PySem PySem.SetTable
open PySem PySem.SetTable PySem.W
section
variable {prog:Program} {w:World} {A:Around} {E:Value→Shared→Prop} {s:Shared} {a it:Addr} {es:Array (Int×Value)} {ep i:Nat} {t:SetTable}
end
section
variable {prog:Program} {w:World} {A:Around} {E:Value→Shared→Prop} {s:Shared} {a it:Addr} {es:Array (Int×Value)} {ep i:Nat} {t:SetTable}
end
open PySem PySem.SetTable PySem.W PyProof.Rows
section
variable {prog:Program} {w:World} {A:Around} {E:Value→Shared→Prop} {s:Shared} {a:Addr} {ns:List Int} {k:Int} {tk:Tok}
end
section
variable {prog:Program} {w:World} {A:Around} {E:Value→Shared→Prop} {s:Shared}
set_option maxHeartbeats 3200000 in
end
end Sx
namespace Dm
end Dm
namespace Br
open PySem PySem.Spec PyProof.Rows L2
section
variable {X:Cx} {e:Expr} {f:Dm.FE} {p p0 pos pC:Pos}
end
section
variable {X:Cx} {pins:List (Addr×Obj)} {σ:L2.St} {H:Hp} {s:Shared} {a:Addr} {kvs:List (Key×V)} {k:Key} {u:Value} {A:Around} {E:Value→Shared→Prop}
end
section
variable {j:Nat} {σs:L2.St} {ρs:Dm.Env} {H0s Hs:Hp} {σ:L2.St} {ρ ρ':Dm.Env} {H0 H H0' H':Hp} {ks:List Int} {rows:List (List Dm.Dat)}
end
section
variable {D:Ends} {σ:L2.St} {H:Hp} {j kx vx:Nat}
end
section
variable {X:Cx} {rest:List Stmt} {j kx vx:Nat} {pos:Pos}
end
section
variable {X:Cx} {tg:Expr} {x:Str} {px ap cp:Pos} {j:Nat}
end
end Br
namespace Sx
open PySem PySem.SetTable
section
variable {prog:Program} {w:World} {A:Around} {E:Value→Shared→Prop} {s:Shared} {ks:List Int} {a:Addr}
end
section
variable {prog:Program} {w:World} {A:Around} {E:Value→Shared→Prop} {s:Shared} {ks:List Int} {a b:Addr} {es:Array (Int×Value)} {ep:Nat} {t:SetTable}
end
section
variable {prog:Program} {w:World} {A:Around} {E:Value→Shared→Prop} {s:Shared} {ks:List Int} {a b:Addr} {P:List (List Int×Addr)}
end
open PySem PySem.SetTable PySem.W PyProof.Rows
section
variable {prog:Program} {w:World} {A:Around} {E:Value→Shared→Prop} {s:Shared}
end
end Sx
namespace Br
open PySem PySem.Spec PyProof.Rows L2
end Br
namespace Dm
end Dm
namespace Br
open PySem PySem.Spec PyProof.Rows L2
section
variable {X:Cx} {e:Expr} {f:Dm.FE} {p p0 pos pC:Pos}
end
end Br
namespace Dm
end Dm
namespace Br
open PySem PySem.Spec PyProof.Rows L2
section
variable {X:Cx} {pos p2:Pos} {e:Expr} {f:Dm.FE}
end
section
variable {X:Cx} {pos p2:Pos} {e:Expr} {f:Dm.FE}
end
section
variable {X:Cx} {nm:List Str} {elt tg iter:Expr} {ifs:List Expr} {scope:Scope} {pos:Pos} {own:List Str} {wi:TI} {g:TG} {tt:TT} {te:TE}
end
section
variable {X:Cx} {elt:Expr} {ifs:List Expr} {scope:Scope} {pos px py:Pos} {t:Dm.FT} {f:Dm.FE} {x:Str}
end
end Br
namespace Dm
end Dm
namespace Br
open PySem PySem.Spec PyProof.Rows L2
section
variable {X:Cx} {pos:Pos}
end
end Br
namespace Dm
end Dm
namespace Br
open PySem PySem.Spec PyProof.Rows L2
section
variable {X:Cx} {e:Expr} {f:Dm.FE}
end
open PySem L2
structure cX (K:PySem.W.Frag) (x:Str) (st:Stmt) (a:Addr) (fd:FuncData):Prop where
 e:PySem.W.nsIn K mainGlobals x=some (some (.ref a))
 F:Fun K x x st a fd
variable {K:PySem.W.Frag} {x:Str} {st:Stmt} {a:Addr} {fd:FuncData} {hp:Heap} {mg:Str→Option Value}
theorem aY {oc:Value} {od an:Option Addr} {osl:Array (Option Value)} {kV doc pm cdv ct:Value} (e:PySem.W.nsIn K mainGlobals x=some (some (.ref a)))
  (l:K.lookup a=some ⟨oc,od,.func (PySem.W.fnOf x x (aZ st) (aO st) (aj st) .none kV doc pm an cdv ct),osl⟩) (c:PySem.W.codeIn K cdv x=true) (k:PySem.W.keepIn K (.ref a)=true) :
  cX K x st a (PySem.W.fnOf x x (aZ st) (aO st) (aj st) .none kV doc pm an cdv ct):=⟨e,Iu l c k⟩
theorem mgo {v:Value} (X:K.In hp) (G:hp.Ns mainGlobals mg) (e:PySem.W.nsIn K mainGlobals x=some (some v)):mg x=some v:=PySem.W.mg_of X G e
theorem mno (X:K.In hp) (G:hp.Ns mainGlobals mg) (e:PySem.W.nsIn K mainGlobals x=some none):mg x=none:=PySem.W.mg_none_of X G e
theorem cX.m (h:cX K x st a fd) (X:K.In hp) (G:hp.Ns mainGlobals mg):mg x=some (.ref a):=PySem.W.mg_of X G h.e
theorem cX.Nf {y:Str} (h:cX K x st a fd) (hb:∀ (kV doc pm:Value) (an:Option Addr) (cdv ct v:Value),bindArgs (PySem.W.fnOf x x (aZ st) (aO st) (aj st) .none kV doc pm an cdv ct) ⟨[v],[]⟩=pure [(y,v)]) (s:Shared) (v:Value):BindsTo s fd ⟨[v],[]⟩ [(y,v)]:=by
 obtain ⟨oc,od,kV,doc,pm,an,cdv,ct,osl,rfl,lk,hcd⟩:=h.F.ex
 exact .of_eq (hb kV doc pm an cdv ct v)
theorem hm {j k:Nat} {A:Around} (r:bL k A) (h:j≤k:=by decide):bL j A:=r.mono h
theorem fsc {N P:List Str} {sc:Scope} (h1:sc.kind=.function) (h2:sc.isCoroutine=false) (h3:sc.isGenerator=false) (h4:N.take P.length=P) (h:N.Nodup∧(∀ x∈P,sc.names.lookup x=some .local∨sc.names.lookup x=some .cell)∧∀ y∈sc.names,y.2≠.free):aK N P sc:=⟨h1,h2,h3,h.1,h4,h.2.1,h.2.2⟩
end Br
namespace Dm
noncomputable def rOr (R S:Env→Option Env) (ρ:Env):Option Env:=match R ρ with
 | some x=>some x
 | none=>S ρ
noncomputable def i_ (s:FS) (R:Env→Option Env) (ρ:Env):Option Env:=match s ρ with
 | some (.nx ρ1)=>R ρ1
 | _=>none
noncomputable def sUn (f g:FS):FS:=fun ρ=>match f ρ with
 | some x=>some x
 | none=>g ρ
noncomputable def gP (R:Env→Option Env) (C ie:Nat) (h:FS):FS:=fun ρ=>match R ρ with
 | none=>none
 | some ρ1=>if ie=0 then none else match h (ρ1.set ie (.sh (.exc C))) with
  | some (.nx ρ')=>some (.nx (ρ'.set ie .un))
  | some (.ret r ρ')=>some (.ret r (ρ'.set ie .un))
  | _=>none
noncomputable def m7:List Nat→List Bool→Nat→Option Bool
 | C::cs,b::bs,D=>if D=C then some b else m7 cs bs D
 | _,_,_=>none
noncomputable def d_ (cs:List Nat) (bs:List Bool):Dat→Option RV
 | .exc C=>(m7 cs bs C).bind vB
 | _=>none
end Dm
namespace Br
open PySem PySem.Spec PyProof.Rows L2
section
variable {X:Cx} {C:Addr} {E:L2.St→XK} {R S:Dm.Env→Option Dm.Env} {sts rest:List Stmt} {st:Stmt}
theorem Ab {f g:Dm.FS} (h1:DS X st f) (h2:DS X st g):DS X st (Dm.sUn f g):=fun pins s σ H D I q=>by
 obtain ⟨H0,ρ,o,rs,e,k⟩:=q
 unfold Dm.sUn at e
 split at e
 ·rename_i y hy
  exact h1 pins s σ H D I ⟨H0,ρ,o,rs,hy.trans e,k⟩
 ·exact h2 pins s σ H D I ⟨H0,ρ,o,rs,e,k⟩
noncomputable def tY (C:Addr) (E:L2.St→XK) (R:Dm.Env→Option Dm.Env) (σ:L2.St) (H:Hp):Prop:=∃ H0 ρ ρ',aB H0 H σ ρ∧R ρ=some ρ'∧∀ σ' a H0' H',SSt σ ρ H0 H σ' ρ' H0' H'→E σ' (.ref C) (some a) H'
noncomputable abbrev YS (X:Cx) (C:Addr) (E:L2.St→XK) (st:Stmt) (R:Dm.Env→Option Dm.Env):Prop:=PS X st (fun _ σ H=>tY C E R σ H)
noncomputable abbrev YB (X:Cx) (C:Addr) (E:L2.St→XK) (sts:List Stmt) (R:Dm.Env→Option Dm.Env):Prop:=PSs X sts (fun _ σ H=>tY C E R σ H)
theorem tY.x {σ:L2.St} {H:Hp} (h:tY C E R σ H):tX C E R σ H:=by
 obtain ⟨H0,ρ,ρ',st,e,k⟩:=h
 exact ⟨H0,ρ,ρ',st,e,fun a H0' H' t=>k σ a H0' H' t.sst⟩
theorem y_x (h:XS X C E st R):YS X C E st R:=PS.weak h fun _ _ _ q=>q.x
theorem bq (h:YS X C E st R):YB X C E (st::rest) R:=by
 have:=By (rest:=rest) h
 exact fun pins s σ H D I q=>this pins s σ H D I q
theorem Ng (h1:YB X C E sts R) (h2:YB X C E sts S):YB X C E sts (Dm.rOr R S):=fun pins s σ H D I q=>by
 obtain ⟨H0,ρ,ρ',st,e,k⟩:=q
 unfold Dm.rOr at e
 split at e
 ·rename_i y hy
  exact h1 pins s σ H D I ⟨H0,ρ,ρ',st,hy.trans e,k⟩
 ·exact h2 pins s σ H D I ⟨H0,ρ,ρ',st,e,k⟩
theorem BY {s:Dm.FS} (h1:DS X st s) (h2:YB X C E rest R):YB X C E (st::rest) (Dm.i_ s R):=PSs.weak (iU h1 h2) fun D σ H q=>by
 obtain ⟨H0,ρ,ρ',rs,e,k⟩:=q
 unfold Dm.i_ at e
 split at e
 case h_2=>cases e
 rename_i ρ1 hs
 exact ⟨H0,ρ,_,rs,hs,fun σ' H0' H' t=>⟨H0',ρ1,ρ',t.st,e,fun σ'' a sZ H'' u=>k σ'' a sZ H'' (t.trans u)⟩⟩
theorem LR {σ:L2.St} {H:Hp} {t:Dm.FT} (h:tY C E (Dm.rIf t R S) σ H):tDT t σ H fun b H1=>if b=true then tY C E R σ H1 else tY C E S σ H1:=by
 obtain ⟨H0,ρ,ρ',rs,e,k⟩:=h
 unfold Dm.rIf at e
 split at e
 ·cases e
 ·rename_i ρ1 ht
  exact ⟨H0,ρ,true,ρ1,rs,ht,fun H0' H' u=>by show (if true=true then _ else _);rw [if_pos rfl];exact ⟨H0',ρ1,ρ',u.st,e,fun σ'' a sZ H'' w=>k σ'' a sZ H'' (u.sst.trans w)⟩⟩
 ·rename_i ρ1 ht
  exact ⟨H0,ρ,false,ρ1,rs,ht,fun H0' H' u=>by show (if false=true then _ else _);rw [if_neg (by decide)];exact ⟨H0',ρ1,ρ',u.st,e,fun σ'' a sZ H'' w=>k σ'' a sZ H'' (u.sst.trans w)⟩⟩
theorem n9 {c:Expr} {a b:List Stmt} {t:Dm.FT} {pos:Pos} (hc:DT X c t) (ha:YB X C E a R) (hb:YB X C E b S):YS X C E (.If c a b pos) (Dm.rIf t R S):=PS.weak (Ax hc ha hb) fun _ _ _ q=>LR q
theorem Ac:YB X C E sts Dm.rNo:=fun pins s σ H D I h=>by
 obtain ⟨_,_,_,_,e,_⟩:=h
 cases e
end
theorem BZ {X:Cx} {body:List Stmt} {h0:ExceptHandler} {hs:List ExceptHandler} {q:Dm.FS} {pos:Pos} (hb:∀ (pn:List (Addr×Obj)) (xe:Value→Shared→Prop),DSs (Cx.in' X pn xe) body q):DS X (.Try body (h0::hs) [] [] pos) q:=by
 intro pins s σ H D I hq
 refine wpAny_Try_except ?_
 refine wpAny_mono (hb pins _ [] s σ H D (BF I) hq) (fun f s1 z=>?_) fun _ _ z=>z
 cases f with
 | next=>obtain ⟨σ',H',J,k⟩:=z;exact wpAny_execs_nil ⟨σ',H',jI J,k⟩
 | ret v=>obtain ⟨u,σ',H',J,r,k⟩:=z;exact ⟨u,σ',H',jI J,r,k⟩
 | brk=>obtain ⟨σ',H',J,k⟩:=z;exact ⟨σ',H',jI J,k⟩
 | cont=>obtain ⟨σ',H',J,k⟩:=z;exact ⟨σ',H',jI J,k⟩
section
variable {X:Cx} {pins pn:List (Addr×Obj)} {σ:L2.St} {H:Hp} {s:Shared} {xe:Value→Shared→Prop}
theorem m8 {x n:Str} {np hpos pos:Pos} {body suite:List Stmt} {b₀:Stmt} {R:Dm.Env→Option Dm.Env} {h:Dm.FS} {C CP:Addr} {ie:Nat}
  (hst:X.stack=X.env::X.outer) (hfr:X.env.frame=some X.env.locals) (hex:X.ex=[]) (hN:X.N.Nodup) (hi:X.N[ie]?=some n) (hk:X.env.kindOf n=some .local) (hg:Gl X x) (hm:X.mg x=some (.ref CP)) (Z:PySem.W.lN X.K C CP)
  (hb:∀ (pn:List (Addr×Obj)) (xe:Value→Shared→Prop) (E:L2.St→XK),uW C (Cx.in' X pn xe) E→YB (Cx.in' X pn xe) C E body R)
  (hh:∀ (A':Around) (xe:Value→Shared→Prop),DSs (Cx.sub' X A' xe) (b₀::suite) h) (hdb:(x == ("__debug__" : Str))=false:=by decide) :
  DS X (.Try body [.ExceptHandler (some (.Name x np)) (some n) (b₀::suite) hpos] [] [] pos) (Dm.gP R C ie h):=by
 intro pins s σ H D I hq
 obtain ⟨H0,ρ,o,st,e,ok⟩:=hq
 unfold Dm.gP at e
 split at e
 ·cases e
 rename_i ρ1 hR
 split at e
 ·cases e
 rename_i h0
 refine wpAny_Try_except ?_
 refine wpAny_mono (hb pins (fun e s₁=>wpAny (model X.prog X.w) X.A (noteFrame e X.env) (fun _ s₂=>wpAny (model X.prog X.w) X.A (setFlight e none) (fun _ s₃=>wpAny (model X.prog X.w) X.A (handleBy e X.env [.ExceptHandler (some (.Name x np)) (some n) (b₀::suite) hpos]) (SP X pins D) X.xe s₃) X.xe s₂) X.xe s₁)
  (fun σ' _ _ H'=>∃ H0',SSt σ ρ H0 H σ' ρ1 H0' H') ?pass [] s σ H DF (BF I) ⟨H0,ρ,ρ1,st,hR,fun σ' a H0' H' t=>⟨H0',t⟩⟩) ?q fun _ _ z=>z
 case q=>
  intro f s1 z
  cases f with
  | next=>obtain ⟨_,_,_,q⟩:=z;exact False.elim q
  | ret v=>obtain ⟨_,_,_,_,_,q⟩:=z;exact False.elim q
  | brk=>obtain ⟨_,_,_,q⟩:=z;exact False.elim q
  | cont=>obtain ⟨_,_,_,q⟩:=z;exact False.elim q
 case pass=>
  intro NC σ1 H1 s1 e s' I1 hq
  obtain ⟨ea,a0,B,H',rfl,os,bare,un,hok,fl,hB,H0',t1⟩:=hq
  obtain ⟨hh',g,d,t,os'⟩:=s'
  obtain rfl:os'=s1.os:=os
  have J:Inv X pins σ1 H' ⟨hh',g,d,t,s1.os⟩:=jI (I1.call (h':=hh') (g':=g) (d':=d) (t':=t) (ch:=[]) un hok bare (fun b z=>absurd z (by simp)))
  have J1:Inv X pins σ1 H1 s1:=jI I1
  have Jq:∀ b o,X.s₀.heap.get? b=some o→∃ o1,s1.heap.get? b=some o1:=fun b o e=>J1.base.there b o e (by rw [hex];exact fun z=>nomatch z)
  have hB':∀ b o,hh'.get? b=some o→b∉frs X.stack→((X.s₀.heap.get? b).isSome=true∨(H' b).isSome=true∨∃ p∈X.pn++pins,p.1=b)→B.get? b=some o:=fun b o e nb hc=>by
   refine hB b o e ?_ nb
   rcases hc with hc | hc | ⟨p,hp,rfl⟩
   ·obtain ⟨o0,e0⟩:=Option.isSome_iff_exists.mp hc
    obtain ⟨o1,e1⟩:=Jq b o0 e0
    exact .inl (by rw [e1];rfl)
   ·exact .inr hc
   ·exact .inl (by rw [(J1.pin p hp).1];rfl)
  have hfs:X.A.frames=some (X.env::X.outer):=by rw [J.ok.frames,hst]
  have fl':Heap.FlyingW B (X.env::X.outer) ea (.ref C) a0 hh':=by rw [← hst];exact fl
  show wpAny (model X.prog X.w) X.A (noteFrame (.ref ea) X.env) _ _ _
  refine wpAny_looks_onW (base:=B) (L:=X.env.locals) hfs hfr fl' fun h4 held sl4=>?_
  refine wpAny_landsW held fun h5 fl5 sl5=>?_
  have J5:Inv X pins σ1 H' ⟨h5,g,d,t,s1.os⟩:=J.fly (t':=t) hex hB' fl5.1 (sl4.trans sl5)
  obtain ⟨oe,vs,he,hc,hd,_⟩:=fl'.first
  have neF:ea∉frs X.stack:=fun z=>by
   rw [hst] at z
   obtain ⟨_,o',ho',hd'⟩:=fl'.2.2.1.mem z
   rw [he] at ho';cases ho'
   exact hd' vs hd
  have noB:B.get? ea=none:=fl'.2.1
  have nH:H' ea=none:=by
   cases q:H' ea with
   | none=>rfl
   | some u=>have:=hB' ea oe he neF (.inr (.inl (by rw [q];rfl)));rw [noB] at this;cases this
  have n0:X.s₀.heap.get? ea=none:=by
   cases q:X.s₀.heap.get? ea with
   | none=>rfl
   | some u=>have:=hB' ea oe he neF (.inl (by rw [q];rfl));rw [noB] at this;cases this
  have nl:ea≠X.env.locals:=fun z=>by
   obtain ⟨m,⟨o,es,ep,ho,hd',_⟩,_⟩:=J.loc
   rw [← z,he] at ho;cases ho
   rw [hd] at hd';cases hd'
  have nc:∀ y c,X.env.cells.lookup y=some c→c≠ea:=fun y c e z=>by
   obtain ⟨v,o,ho,hd'⟩:=J.cell y c e
   rw [z,he] at ho;cases ho
   rw [hd] at hd';cases hd'
  have np:∀ p∈X.pn++pins,p.1≠ea:=fun p hp z=>by
   have:=hB' ea oe he neF (.inr (.inr ⟨p,hp,z⟩));rw [noB] at this;cases this
  have hB5:∀ b o,h5.get? b=some o→b∉frs X.stack→((X.s₀.heap.get? b).isSome=true∨(H' b).isSome=true∨∃ p∈X.pn++pins,p.1=b)→B.get? b=some o:=fun b o e nb hcd=>by
   have:∃ o',hh'.get? b=some o':=by
    rcases hcd with hc | hc | ⟨p,hp,rfl⟩
    ·obtain ⟨o0,e0⟩:=Option.isSome_iff_exists.mp hc
     exact J.base.there b o0 e0 (by rw [hex];exact fun z=>nomatch z)
    ·obtain ⟨u,e0⟩:=Option.isSome_iff_exists.mp hc
     exact (J.hok b u e0).there
    ·exact ⟨_,(J.pin p hp).1⟩
   obtain ⟨o',e'⟩:=this
   have q:=hB' b o' e' nb hcd
   have q2:=fl5.1 b o' q
   rw [e] at q2;cases q2
   exact q
  obtain ⟨oe5,he5,hc5⟩:=fl5.there
  refine wpAny_handleBy_cons (codeAny_handlers_test ?_) (by intro q;cases q)
  refine jG (X:=Cx.sub' X (X.A.mark (some (.ref ea))) X.xe) (yE rfl J5) hg hm ?_ hdb
  refine PySem.W.uX Z J5.kIn ⟨oe5,he5,hc5⟩ ?_
  refine codeAny_handlers_suite_as ?_
  refine lands_againW fl5 fun h6 fl6 sl6=>?_
  have J6:Inv X pins σ1 H' ⟨h6,g,d,t,s1.os⟩:=J5.fly (t':=t) hex hB5 fl6.1 sl6
  obtain ⟨oe6,he6,hc6⟩:=fl6.there
  have J7:=J6.LC (o:=φX ea C) nH (φX_ok he6 hc6) n0 nl nc np
  refine mG J7 hN hi (.inl hk) (v:=.ref ea) rfl (fun s8 J8 _=>?_) (.inr hk)
  have t12:SSt σ ρ H0 H σ1 ρ1 (upd H0' ea (φX ea C)) (upd H' ea (φX ea C)):=t1.trans (ESt.grow t1.st (aN.zK t1.st.same nH)).sst
  have rep:Rep (upd H0' ea (φX ea C)) (V.ref ea) (.exc C):=.exc aE
  have E5:SSt σ1 ρ1 (upd H0' ea (φX ea C)) (upd H' ea (φX ea C)) (σ1.set ie (some (.ref ea))) (ρ1.set ie (.sh (.exc C))) (upd H0' ea (φX ea C)) (upd H' ea (φX ea C)):=
   ⟨t12.st.sV rep,Stp.refl _ _ _,fun a z=>.inl (fO z),List.getElem?_set_ne h0⟩
  have fin:∀ (oh:Dm.Out),h (ρ1.set ie (.sh (.exc C)))=some oh→(∀ (D':Ends),(∀ σ' H3,(∃ ρ' H03,oh=.nx ρ'∧SSt (σ1.set ie (some (.ref ea))) (ρ1.set ie (.sh (.exc C))) (upd H0' ea (φX ea C)) (upd H' ea (φX ea C)) σ' ρ' H03 H3)→D'.nx σ' H3)→(∀ v H3,(∃ z ρ' σ' H03,oh=.ret z ρ'∧SSt (σ1.set ie (some (.ref ea))) (ρ1.set ie (.sh (.exc C))) (upd H0' ea (φX ea C)) (upd H' ea (φX ea C)) σ' ρ' H03 H3∧A3 (σ1.set ie (some (.ref ea))) (ρ1.set ie (.sh (.exc C))) (upd H' ea (φX ea C)) H03 H3 v z∧∀ d a,z=.new d→v=.ref a→¬ au σ' ρ' a)→D'.rt v H3)→(∀ ρ',oh≠.bk ρ')→(∀ ρ',oh≠.ct ρ')→o4 D' (σ1.set ie (some (.ref ea))) (ρ1.set ie (.sh (.exc C))) (upd H0' ea (φX ea C)) (upd H' ea (φX ea C)) oh):=fun oh _ D' hn hr hb hc=>by
   cases oh with
   | nx ρ'=>exact fun σ' H03 H3 tt=>hn σ' H3 ⟨ρ',H03,rfl,tt⟩
   | bk ρ'=>exact absurd rfl (hb ρ')
   | ct ρ'=>exact absurd rfl (hc ρ')
   | ret z ρ'=>exact fun σ' v H03 H3 tt rr no=>hr v H3 ⟨z,ρ',σ',H03,rfl,tt,rr,no⟩
  cases hoh:h (ρ1.set ie (.sh (.exc C))) with
  | none=>rw [hoh] at e;cases e
  | some oh=>
  rw [hoh] at e
  have nb:∀ ρ',oh≠.bk ρ':=fun ρ' z=>by rw [z] at e;cases e
  have nc':∀ ρ',oh≠.ct ρ':=fun ρ' z=>by rw [z] at e;cases e
  refine wpAny_mono (hh (X.A.mark (some (.ref ea))) _ pins s8 _ _ { nx:=fun σ' H3=>∃ ρ' H03,oh=.nx ρ'∧SSt (σ1.set ie (some (.ref ea))) (ρ1.set ie (.sh (.exc C))) (upd H0' ea (φX ea C)) (upd H' ea (φX ea C)) σ' ρ' H03 H3,rt:=fun v H3=>∃ z ρ' σ' H03,oh=.ret z ρ'∧SSt (σ1.set ie (some (.ref ea))) (ρ1.set ie (.sh (.exc C))) (upd H0' ea (φX ea C)) (upd H' ea (φX ea C)) σ' ρ' H03 H3∧A3 (σ1.set ie (some (.ref ea))) (ρ1.set ie (.sh (.exc C))) (upd H' ea (φX ea C)) H03 H3 v z∧∀ d a,z=.new d→v=.ref a→¬ au σ' ρ' a,bk:=fun _ _=>False,ct:=fun _ _=>False } (yE rfl J8)
   ⟨_,_,_,E5.st,hoh,fin oh hoh _ (fun _ _ z=>z) (fun _ _ z=>z) nb nc'⟩) (fun f s4 z=>?_) fun _ _ z=>z
  cases f with
  | next=>
   obtain ⟨σ',H3,I4,ρ',H03,rfl,tt⟩:=z
   cases e
   refine name_goes (rL J.ok I4) hN hi hk fun s9 J9=>?_
   exact ⟨σ'.set ie none,H3,J9,ok _ _ _ (t12.trans (E5.trans (tt.trans (SSt.drop tt.st h0))))⟩
  | ret v=>
   obtain ⟨u,σ0,H3,I4,rl,z,ρ',σ',H03,rfl,tt,rr,no⟩:=z
   cases e
   refine name_goes (rL J.ok I4) hN hi hk fun s9 J9=>?_
   refine ⟨u,σ0.set ie none,H3,J9,rl,ok _ _ _ _ (t12.trans (E5.trans (tt.trans (SSt.drop tt.st h0)))) ?_ ?_⟩
   ·cases z with
    | val d=>exact rr
    | new d=>
     obtain ⟨a,ea',n,n0',w⟩:=rr
     refine ⟨a,ea',?_,n0',w⟩
     have tp:=t12.trans E5
     rcases n with n | n
     ·exact .inl (tp.stp.gone n)
     ·exact (tp.own a n).symm
   ·intro d a hz hv ho
    obtain ⟨j,d',h1,h2⟩:=ho
    refine no d a hz hv ?_
    by_cases hj:ie=j
    ·subst hj
     rw [List.getElem?_set] at h1
     simp only [if_true] at h1
     split at h1<;>cases h1
    ·rw [List.getElem?_set_ne hj] at h1 h2
     exact ⟨j,d',h1,h2⟩
  | brk=>obtain ⟨_,_,_,q⟩:=z;exact False.elim q
  | cont=>obtain ⟨_,_,_,q⟩:=z;exact False.elim q
end
section
variable {X:Cx} {C:Addr} {E:L2.St→XK} {k:Nat} {F:Addr} {fd:FuncData} {ps:List Str} {x:Str} {p pos:Pos} {e:Expr} {es:List Expr} {fs:List Dm.FE} {bad:List Dm.Dat→Bool} {c:Int} {tk:Tok}
theorem E6 {vs:List V} {H:Hp} {Q:VK} {E:XK} (h:spX C (fun ds=>bad (ds++[.int c])) vs H Q E):spX C bad (vs++[.int c]) H Q E:=by
 obtain ⟨H0,ds,s,r,e,k⟩:=h
 exact ⟨H0,ds++[.int c],s,r.append (.cons (.int _) .nil),e,k⟩
theorem tK (G:aW X.prog X.w X.K X.mg X.base (CXE X.prog X.w C) k F fd ps (spX C bad)) (hr:bL k X.A) (hg:Gl X x) (hm:X.mg x=some (.ref F)) (hk:PySem.W.keepIn X.K (.ref F)=true) (hb:Binds X.K fd ps [.int c tk]) (hx:uW C X E)
  (ha:DA X (e::es) fs) (hdb:(x == ("__debug__" : Str))=false:=by decide) (he:starEach (e::es) X.env=(false,eval e X.env)::starEach es X.env:=by rfl) (hpl:(backTo pos (starEach es X.env)).any (·.1)=false:=by rfl) :
  XE X C E (.Call (.Name x p) (e::es) [] pos) (Dm.a_ (fun ds=>bad (ds++[.int c])) fs):=by
 intro pins s σ H Q I h
 refine wpAny_Call_Name_kw (jG I hg hm ?_ hdb)
 refine PySem.W.callWith_K (h₀:=X.base) I.ok.mod.kin hk (thn (ha pos pins s σ H _ I (yD h Q)) fun us s1 ⟨vs,H1,I1,r,q⟩=>⟨I1.kIn,?_⟩) he hpl
 have q':=E6 q
 have r':Vals (vs++[V.int c]) (us++[Value.int c tk]):=r.append (.cons (show RelV (V.int c) (Value.int c tk) from ⟨tk,rfl⟩) .nil)
 have hl:(us++[Value.int c tk]).length=ps.length:=by rw [← r'.length];exact G.len _ _ _ _ q'
 refine wpAny_call (codeAny_mono (G.run X.A X.stack s1 H1 ⟨us,[]⟩ (us++[Value.int c tk]) (vs++[V.int c]) Q (E σ) hr I1.Ic (hb s1 us I1.kIn hl) r' q') fun r s' hq=>?_)
 cases r with
 | error e=>exact hx pins σ H1 s1 e s' I1 hq
 | ok fl=>
  cases fl with
  | ret u=>exact I1.after hq
  | next=>exact False.elim hq
  | brk=>exact False.elim hq
  | cont=>exact False.elim hq
end
theorem GH {C:Addr} {N:List Str} {n m:Nat} {R:Dm.Env→Option Dm.Env} {vs:List V} {H:Hp} {Q:VK} {E:XK} (hm:N.length=n+m) (h:spX C (Dm.fnX n m R) vs H Q E):tY C (fun _=>E) R (start N vs) H:=by
 have hvn:=tE h
 obtain ⟨H0,ds,s,rs,e,k⟩:=h
 unfold Dm.fnX at e
 rw [Bool.and_eq_true] at e
 obtain ⟨st,no⟩:=BA hm hvn s rs
 obtain ⟨ρ',hR⟩:=Option.isSome_iff_exists.mp e.2
 exact ⟨H0,_,ρ',st,hR,fun σ' a H0' H' t=>k a H0' H' ⟨t.stp.s0,fun a o e=>t.stp.s1 a o e (no a),fun a o e=>(t.stp.s2 a o e).imp id fun q=>q.elim id fun z=>absurd z (no a),t.st.same⟩⟩
theorem okY {P:Program} {w:World} {K:PySem.W.Frag} {mg:Str→Option Value} {base:Heap} {x qual:Str} {st:Stmt} {f C:Addr} {fd:FuncData} {N ps:List Str} {k n m:Nat} {R:Dm.Env→Option Dm.Env} (F:Fun K x qual st f fd) (S:aK N ps (aj st)) (hn:ps.length=n) (hm:N.length=n+m)
  (hbody:∀ (cdv:Value) (A:Around) (outer:List Env) (s:Shared) (H:Hp) (E:XK),bL k (A.deeper (envOfC qual (aj st) s.heap.objs.size f cdv))→YB (g6 (CXE P w C) P w K mg base N qual (aj st) f cdv A outer s H E) C (fun _=>E) (aO st) R) :
  aW P w K mg base (CXE P w C) (k+1) f fd ps (spX C (Dm.fnX n m R)):=by
 obtain ⟨oc,od,kV,doc,pm,an,cdv,ct,osl,rfl,lk,hcd⟩:=F.ex
 refine yc lk hcd S (fun vs H Q E h=>(tE h).trans hn.symm) fun A outer s H vs Q E hr hsp=>?_
 exact ⟨_,hbody cdv A outer s H E hr,GH hm hsp⟩
theorem Jr {P:Program} {w:World} {K:PySem.W.Frag} {mg:Str→Option Value} {base:Heap} {x qual:Str} {st:Stmt} {f C:Addr} {fd:FuncData} {N ps:List Str} {k n m:Nat} {R:Dm.Env→Option Dm.Env} (F:BL K x qual st f fd) (S:aK N ps (aj st)) (hn:ps.length=n) (hm:N.length=n+m)
  (hbody:∀ (cdv:Value) (A:Around) (outer:List Env) (s:Shared) (H:Hp) (E:XK),bL k (A.deeper (envOfC qual (aj st) s.heap.objs.size f cdv))→YB (g6 (CXE P w C) P w K mg base N qual (aj st) f cdv A outer s H E) C (fun _=>E) (aO st) R) :
  aW P w K mg base (CXE P w C) (k+1) f fd ps (spX C (Dm.fnX n m R)):=by
 obtain ⟨oc,od,dV,kV,doc,pm,an,cdv,ct,osl,rfl,lk,hcd⟩:=F.ex
 refine yc lk hcd S (fun vs H Q E h=>(tE h).trans hn.symm) fun A outer s H vs Q E hr hsp=>?_
 exact ⟨_,hbody cdv A outer s H E hr,GH hm hsp⟩
section
variable {X:Cx} {C:Nat} {b:Bool} {cs:List Nat} {bs:List Bool} {e:Expr} {f:Dm.FE}
theorem bf (h1:DE X e (Dm.e1 (Dm.zZ C b) f)) (h2:DE X e (Dm.e1 (Dm.d_ cs bs) f)):DE X e (Dm.e1 (Dm.d_ (C::cs) (b::bs)) f):=fun pins s σ H Q I q=>by
 obtain ⟨H0,ρ,x,ρ',st,e0,k⟩:=q
 have e:=e0
 unfold Dm.e1 at e
 split at e
 ·cases e
 rename_i x1 ρ1 e1
 split at e
 ·cases e
 rename_i dx p1
 cases dx with
 | exc D=>
  by_cases hD:D=C
  ·refine h1 pins s σ H Q I ⟨H0,ρ,x,ρ',st,?_,k⟩
   unfold Dm.e1
   rw [e1];dsimp only;rw [p1];dsimp only
   rw [← e]
   unfold Dm.zZ Dm.d_ Dm.m7
   dsimp only
   rw [if_pos hD,if_pos hD]
   rfl
  ·refine h2 pins s σ H Q I ⟨H0,ρ,x,ρ',st,?_,k⟩
   unfold Dm.e1
   rw [e1];dsimp only;rw [p1];dsimp only
   rw [← e]
   unfold Dm.d_
   dsimp only
   rw [Dm.m7.eq_def (C::cs)]
   dsimp only
   rw [if_neg hD]
 | _=>cases e
theorem iM:DE X e (Dm.e1 (Dm.d_ [] []) f):=fun pins s σ H Q I q=>by
 obtain ⟨H0,ρ,x,ρ',st,e,k⟩:=q
 unfold Dm.e1 at e
 split at e
 ·cases e
 split at e
 ·cases e
 rename_i dx p1
 cases dx<;>cases e
end
end Br
namespace Sx
open PySem PySem.SetTable PySem.W PyProof.Rows
section
variable {prog:Program} {w:World} {A:Around} {E:Value→Shared→Prop} {s:Shared}
end
end Sx
namespace Dm
end Dm
namespace Br
open PySem PySem.Spec PyProof.Rows L2
section
variable {X:Cx} {e:Expr} {f:Dm.FE} {p p0 pos pC:Pos}
end
end Br
namespace Dm
noncomputable def We (e:FE) (ρ:Env) (Q:Val→Env→Prop):Prop:=∃ v ρ',e ρ=some (v,ρ')∧Q v ρ'
noncomputable def Wt (t:FT) (ρ:Env) (Q:Bool→Env→Prop):Prop:=∃ v ρ',t ρ=some (v,ρ')∧Q v ρ'
noncomputable def Was (as:List FE) (ρ:Env) (Q:List Val→Env→Prop):Prop:=∃ v ρ',eAs as ρ=some (v,ρ')∧Q v ρ'
noncomputable def Wi (it:FI) (ρ:Env) (Q:List Dat→Env→Prop):Prop:=∃ v ρ',it ρ=some (v,ρ')∧Q v ρ'
noncomputable def KO (N:Env→Prop) (R:RV→Env→Prop) (B C:Env→Prop):Out→Prop
 | .nx ρ=>N ρ
 | .ret r ρ=>R r ρ
 | .bk ρ=>B ρ
 | .ct ρ=>C ρ
noncomputable def Ws (s:FS) (ρ:Env) (N:Env→Prop) (R:RV→Env→Prop) (B C:Env→Prop):Prop:=∃ o,s ρ=some o∧KO N R B C o
noncomputable def Wr (o:Option RV) (P:RV→Prop):Prop:=∃ r,o=some r∧P r
noncomputable def Wif (c:Bool) (X Y:Prop):Prop:=(c=true→X)∧(c=false→Y)
noncomputable def Wg1 (g:Dat→Option RV) (o:Option Dat) (K:RV→Prop):Prop:=∃ d v,o=some d∧g d=some v∧K v
noncomputable def Wg2 (g:Dat→Dat→Option RV) (o p:Option Dat) (K:RV→Prop):Prop:=∃ d e v,o=some d∧p=some e∧g d e=some v∧K v
noncomputable def WB (g:List Dat→Option RV) (o:Option (List Dat)) (K:RV→Prop):Prop:=∃ ds v,o=some ds∧g ds=some v∧K v
noncomputable def WT (o:Option (List Dat×Env)) (K:List Dat→Env→Prop):Prop:=∃ ds ρ,o=some (ds,ρ)∧ds.length≤SZ∧K ds ρ
noncomputable def WF (f:List Dat→Option RV) (ρ:Env) (xs:List Val) (Q:Val→Env→Prop):Prop:=∃ ds v,pks ρ xs=some ds∧f ds=some v∧(if fy v.dat then ∃ ds' ρ2,tks ρ xs=some (ds',ρ2)∧Q v.bG ρ2 else Q v.bG ρ)
noncomputable def Wk (ρ:Env) (x:Val) (K:Dat→Env→Prop):Prop:=∃ d ρ',tk ρ x=some (d,ρ')∧K d ρ'
noncomputable def Wp (o:Option FE) (ρ:Env) (K:Option Int→Env→Prop):Prop:=∃ i ρ',part o ρ=some (i,ρ')∧K i ρ'
theorem Wif.t {X Y:Prop} (x:X):Wif true X Y:=⟨fun _=>x,fun h=>by cases h⟩
theorem Wif.f {X Y:Prop} (y:Y):Wif false X Y:=⟨fun h=>(by cases h),fun _=>y⟩
theorem Wif.yes {c:Bool} {X Y:Prop} (h:c=true) (x:X):Wif c X Y:=⟨fun _=>x,fun h'=>by rw [h] at h';cases h'⟩
theorem Wif.no {c:Bool} {X Y:Prop} (h:c=false) (y:Y):Wif c X Y:=⟨fun h'=>(by rw [h] at h';cases h'),fun _=>y⟩
theorem Wif.dec {p:Prop} [Decidable p] {X Y:Prop} (x:p→X) (y:¬ p→Y):Wif (decide p) X Y:=⟨fun h=>x (of_decide_eq_true h),fun h=>y (of_decide_eq_false h)⟩
theorem We.v {i:Nat} {ρ:Env} {d:Dat} {Q:Val→Env→Prop} (h:ρ[i]?=some (.sh d)) (q:Q (.val d) ρ):We (eV i) ρ Q:=⟨_,_,by unfold eV;rw [h],q⟩
theorem We.w {i:Nat} {ρ:Env} {d:Dat} {Q:Val→Env→Prop} (h:ρ[i]?=some (.ow d)) (q:Q (.slot i) ρ):We (eV i) ρ Q:=⟨_,_,by unfold eV;rw [h],q⟩
theorem We.c {d:Dat} {ρ:Env} {Q:Val→Env→Prop} (q:Q (.val d) ρ):We (eC d) ρ Q:=⟨_,_,rfl,q⟩
theorem We.e1 {g:Dat→Option RV} {a:FE} {ρ:Env} {Q:Val→Env→Prop} (h:We a ρ fun x ρ1=>Wg1 g (pk ρ1 x) fun v=>Q v.bG ρ1):We (e1 g a) ρ Q:=by
 obtain ⟨x,ρ1,h1,d,v,h2,h3,q⟩:=h
 exact ⟨_,_,by unfold Dm.e1;rw [h1];dsimp only;rw [h2];dsimp only;rw [h3],q⟩
theorem We.e2 {g:Dat→Dat→Option RV} {a b:FE} {ρ:Env} {Q:Val→Env→Prop} (h:We a ρ fun x ρ1=>We b ρ1 fun y ρ2=>Wg2 g (pk ρ2 x) (pk ρ2 y) fun v=>Q v.bG ρ2):We (e2 g a b) ρ Q:=by
 obtain ⟨x,ρ1,h1,y,ρ2,h2,d,e,v,h3,h4,h5,q⟩:=h
 exact ⟨_,_,by unfold Dm.e2;rw [h1];dsimp only;rw [h2];dsimp only;rw [h3];dsimp only;rw [h4];dsimp only;rw [h5],q⟩
theorem Was.nil {ρ:Env} {Q:List Val→Env→Prop} (q:Q [] ρ):Was [] ρ Q:=⟨_,_,rfl,q⟩
theorem Was.cons {a:FE} {r:List FE} {ρ:Env} {Q:List Val→Env→Prop} (h:We a ρ fun x ρ1=>Was r ρ1 fun xs ρ2=>Q (x::xs) ρ2):Was (a::r) ρ Q:=by
 obtain ⟨x,ρ1,h1,xs,ρ2,h2,q⟩:=h
 exact ⟨_,_,by unfold eAs;rw [h1];dsimp only;rw [h2],q⟩
theorem We.B {g:List Dat→Option RV} {as:List FE} {ρ:Env} {Q:Val→Env→Prop} (h:Was as ρ fun xs ρ1=>WB g (pks ρ1 xs) fun v=>Q v.bG ρ1):We (eB g as) ρ Q:=by
 obtain ⟨x,ρ1,h1,d,v,h2,h3,q⟩:=h
 exact ⟨_,_,by unfold eB;rw [h1];dsimp only;rw [h2];dsimp only;rw [h3],q⟩
theorem We.T {as:List FE} {ρ:Env} {Q:Val→Env→Prop} (h:Was as ρ fun xs ρ1=>WT (tks ρ1 xs) fun ds ρ2=>Q (.val (.tup ds)) ρ2):We (bz as) ρ Q:=by
 obtain ⟨x,ρ1,h1,ds,ρ2,h2,h3,q⟩:=h
 exact ⟨_,_,by unfold bz;rw [h1];dsimp only;rw [h2];dsimp only;rw [if_pos h3],q⟩
theorem We.L {as:List FE} {ρ:Env} {Q:Val→Env→Prop} (h:Was as ρ fun xs ρ1=>WT (tks ρ1 xs) fun ds ρ2=>Q (.new (.lst ds)) ρ2):We (cj as) ρ Q:=by
 obtain ⟨x,ρ1,h1,ds,ρ2,h2,h3,q⟩:=h
 exact ⟨_,_,by unfold cj;rw [h1];dsimp only;rw [h2];dsimp only;rw [if_pos h3],q⟩
theorem WT.mk {ρ:Env} {xs:List Val} {ds:List Dat} {ρ2 ρ3:Env} {K:List Dat→Env→Prop} (k:K ds ρ3) (h:tks ρ xs=some (ds,ρ2)) (hn:ρ2=ρ3) (hl:ds.length≤SZ):WT (tks ρ xs) K:=⟨_,_,hn▸h,hl,k⟩
theorem We.F {f:List Dat→Option RV} {as:List FE} {ρ:Env} {Q:Val→Env→Prop} (h:Was as ρ fun xs ρ1=>WF f ρ1 xs Q):We (eF f as) ρ Q:=by
 obtain ⟨x,ρ1,h1,ds,v,h2,h3,h4⟩:=h
 by_cases hb:fy v.dat=true
 ·rw [if_pos hb] at h4
  obtain ⟨ds',ρ2,h5,q⟩:=h4
  exact ⟨_,_,by unfold eF;rw [h1];dsimp only;rw [h2];dsimp only;rw [h3];dsimp only;rw [if_pos hb,h5],q⟩
 ·rw [if_neg hb] at h4
  exact ⟨_,_,by unfold eF;rw [h1];dsimp only;rw [h2];dsimp only;rw [h3];dsimp only;rw [if_neg hb],h4⟩
theorem WF.box {f:List Dat→Option RV} {ρ ρ2 ρ3:Env} {xs:List Val} {ds ds':List Dat} {v:RV} {Q:Val→Env→Prop} (h2:f ds=some v) (q:Q v.bG ρ3) (h1:pks ρ xs=some ds) (h3:fy v.dat=true) (h4:tks ρ xs=some (ds',ρ2)) (hn:ρ2=ρ3):WF f ρ xs Q:=
 ⟨_,_,h1,h2,by rw [if_pos h3];exact ⟨_,_,h4,hn▸q⟩⟩
theorem WF.val {f:List Dat→Option RV} {ρ:Env} {xs:List Val} {ds:List Dat} {v:RV} {Q:Val→Env→Prop} (h2:f ds=some v) (q:Q v.bG ρ) (h1:pks ρ xs=some ds) (h3:fy v.dat=false):WF f ρ xs Q:=
 ⟨_,_,h1,h2,by rw [if_neg (by rw [h3];decide)];exact q⟩
noncomputable def Wb (v:Val) (K:Bool→Prop):Prop:=∃ c,v=.val (.bl c)∧K c
theorem Wb.mk {c:Bool} {K:Bool→Prop} (k:K c):Wb (.val (.bl c)) K:=⟨c,rfl,k⟩
theorem We.And {a b:FE} {ρ:Env} {Q:Val→Env→Prop} (h:We a ρ fun v ρ1=>Wb v fun c=>Wif c (We b ρ1 Q) (Q (.val (.bl false)) ρ1)):We (gq a b) ρ Q:=by
 obtain ⟨v,ρ1,h1,c,rfl,h2,h3⟩:=h
 cases c with
 | true=>obtain ⟨v,ρ2,h4,q⟩:=h2 rfl;exact ⟨_,_,by unfold gq;rw [h1];exact h4,q⟩
 | false=>exact ⟨_,_,by unfold gq;rw [h1],h3 rfl⟩
theorem Wt.V {a:FE} {ρ:Env} {Q:Bool→Env→Prop} (h:We a ρ fun v ρ1=>Wb v fun c=>Q c ρ1):Wt (tV a) ρ Q:=by
 obtain ⟨v,ρ1,h1,c,rfl,h2⟩:=h
 exact ⟨_,_,by unfold tV;rw [h1],h2⟩
theorem Wt.Not {t:FT} {ρ:Env} {Q:Bool→Env→Prop} (h:Wt t ρ fun c ρ1=>Q (!c) ρ1):Wt (bY t) ρ Q:=by
 obtain ⟨v,ρ1,h1,h2⟩:=h
 exact ⟨_,_,by unfold bY;rw [h1],h2⟩
theorem Wt.And {t u:FT} {ρ:Env} {Q:Bool→Env→Prop} (h:Wt t ρ fun c ρ1=>Wif c (Wt u ρ1 Q) (Q false ρ1)):Wt (fV t u) ρ Q:=by
 obtain ⟨c,ρ1,h1,h2,h3⟩:=h
 cases c with
 | true=>obtain ⟨v,ρ2,h4,q⟩:=h2 rfl;exact ⟨_,_,by unfold fV;rw [h1];exact h4,q⟩
 | false=>exact ⟨_,_,by unfold fV;rw [h1],h3 rfl⟩
theorem Wt.Or {t u:FT} {ρ:Env} {Q:Bool→Env→Prop} (h:Wt t ρ fun c ρ1=>Wif c (Q true ρ1) (Wt u ρ1 Q)):Wt (tOr t u) ρ Q:=by
 obtain ⟨c,ρ1,h1,h2,h3⟩:=h
 cases c with
 | false=>obtain ⟨v,ρ2,h4,q⟩:=h3 rfl;exact ⟨_,_,by unfold tOr;rw [h1];exact h4,q⟩
 | true=>exact ⟨_,_,by unfold tOr;rw [h1],h2 rfl⟩
theorem Wt.Tr {a:FE} {ρ:Env} {Q:Bool→Env→Prop} (h:We a ρ fun x ρ1=>∃ d c,pk ρ1 x=some d∧truth d=some c∧Q c ρ1):Wt (tTr a) ρ Q:=by
 obtain ⟨x,ρ1,h1,d,c,h2,h3,q⟩:=h
 exact ⟨_,_,by unfold tTr;rw [h1];dsimp only;rw [h2];dsimp only;rw [h3],q⟩
theorem Wt.T {ρ:Env} {Q:Bool→Env→Prop} (q:Q true ρ):Wt cT ρ Q:=⟨_,_,rfl,q⟩
theorem Wk.val {ρ:Env} {d:Dat} {K:Dat→Env→Prop} (k:K d ρ):Wk ρ (.val d) K:=⟨_,_,rfl,k⟩
theorem Wk.new {ρ:Env} {d:Dat} {K:Dat→Env→Prop} (k:K d ρ):Wk ρ (.new d) K:=⟨_,_,rfl,k⟩
theorem Wk.slot {ρ ρ':Env} {i:Nat} {d:Dat} {K:Dat→Env→Prop} (k:K d ρ') (h:ρ[i]?=some (.ow d)) (hs:ρ.set i (.sh d)=ρ'):Wk ρ (.slot i) K:=⟨_,_,by unfold tk;dsimp only;rw [h];dsimp only;rw [hs],k⟩
noncomputable def B0:Dat→Option (List Dat)
 | .lst ds=>some ds
 | .tup ds=>some ds
 | _=>none
theorem Wi.S {a:FE} {ρ:Env} {Q:List Dat→Env→Prop} (h:We a ρ fun x ρ1=>Wk ρ1 x fun d ρ2=>∃ ds,B0 d=some ds∧Q ds ρ2):Wi (iS a) ρ Q:=by
 obtain ⟨x,ρ1,h1,d,ρ2,h2,ds,hd,q⟩:=h
 cases d with
 | lst xs=>cases hd;exact ⟨_,_,by unfold iS;rw [h1];dsimp only;rw [h2],q⟩
 | tup xs=>cases hd;exact ⟨_,_,by unfold iS;rw [h1];dsimp only;rw [h2],q⟩
 | _=>cases hd
noncomputable def cB (v:Val) (K:Int→Prop):Prop:=∃ i,v=.val (.int i)∧K i
theorem cB.mk {i:Int} {K:Int→Prop} (k:K i):cB (.val (.int i)) K:=⟨i,rfl,k⟩
theorem Wi.R1 {a:FE} {ρ:Env} {Q:List Dat→Env→Prop} (h:We a ρ fun v ρ1=>cB v fun j=>Q (ups 0 j.toNat) ρ1∧j≤BIG∧-BIG≤j):Wi (iR1 a) ρ Q:=by
 obtain ⟨v,ρ1,h1,j,rfl,q,h2⟩:=h
 exact ⟨_,_,by unfold iR1;rw [h1];dsimp only;rw [if_pos h2],q⟩
theorem Wi.R2 {a b:FE} {ρ:Env} {Q:List Dat→Env→Prop} (h:We a ρ fun v ρ1=>cB v fun i=>We b ρ1 fun w ρ2=>cB w fun j=>Q (ups i (j-i).toNat) ρ2∧j≤BIG∧-BIG≤j∧i≤BIG∧-BIG≤i):Wi (iR2 a b) ρ Q:=by
 obtain ⟨v,ρ1,h1,i,rfl,w,ρ2,h2,j,rfl,q,h3⟩:=h
 exact ⟨_,_,by unfold iR2;rw [h1];dsimp only;rw [h2];dsimp only;rw [if_pos h3],q⟩
theorem Wi.En {a:FE} {ρ:Env} {Q:List Dat→Env→Prop} (h:We a ρ fun x ρ1=>Wk ρ1 x fun d ρ2=>∃ ds,d=.lst ds∧Q (gO 0 ds) ρ2):Wi (iEn a) ρ Q:=by
 obtain ⟨x,ρ1,h1,d,ρ2,h2,ds,rfl,q⟩:=h
 exact ⟨_,_,by unfold iEn;rw [h1];dsimp only;rw [h2],q⟩
theorem Wp.none {ρ:Env} {K:Option Int→Env→Prop} (k:K none ρ):Wp none ρ K:=⟨_,_,rfl,k⟩
theorem Wp.some {f:FE} {ρ:Env} {K:Option Int→Env→Prop} (h:We f ρ fun v ρ1=>cB v fun i=>K (some i) ρ1):Wp (some f) ρ K:=by
 obtain ⟨v,ρ1,h1,i,rfl,k⟩:=h
 exact ⟨_,_,by unfold part;dsimp only;rw [h1],k⟩
noncomputable def Wsl (o:Option Dat) (l h:Option Int) (K:Dat→Prop):Prop:=∃ xs,o=some (.lst xs)∧K (.lst (cut xs l h))
noncomputable def pP {α:Type} (xs:List α) (lo hi:Option Int):List α:=(xs.drop (sIx xs.length 0 lo)).take (sIx xs.length xs.length hi-sIx xs.length 0 lo)
theorem LS {α:Type} (enc:α→Dat) (xs:List α) (lo hi:Option Int):cut (xs.map enc) lo hi=(pP xs lo hi).map enc:=by
 unfold cut pP
 rw [List.length_map,← List.map_drop,← List.map_take]
theorem vc {α:Type} (xs:List α) (lo hi:Option Int):(pP xs lo hi).length≤xs.length:=by
 unfold pP
 rw [List.length_take,List.length_drop];omega
theorem Wsl.A {α:Type} {enc:α→Dat} {xs:List α} {o:Option Dat} {l h:Option Int} {K:Dat→Prop} (k:K (.lst ((pP xs l h).map enc))) (ho:o=some (.lst (xs.map enc))):Wsl o l h K:=⟨_,ho,by rw [LS];exact k⟩
theorem We.Sl {a:FE} {lo hi:Option FE} {ρ:Env} {Q:Val→Env→Prop} (h:We a ρ fun x ρ1=>Wp lo ρ1 fun l ρ2=>Wp hi ρ2 fun h ρ3=>Wsl (pk ρ3 x) l h fun d=>Q (.new d) ρ3):We (eSl a lo hi) ρ Q:=by
 obtain ⟨x,ρ1,h1,l,ρ2,h2,hh,ρ3,h3,xs,h4,q⟩:=h
 exact ⟨_,_,by unfold eSl;rw [h1];dsimp only;rw [h2];dsimp only;rw [h3];dsimp only;rw [h4],q⟩
theorem We.SlT {a:FE} {lo hi:Option FE} {ρ:Env} {Q:Val→Env→Prop} (h:We a ρ fun x ρ1=>Wp lo ρ1 fun l ρ2=>Wp hi ρ2 fun h ρ3=>∃ xs,pk ρ3 x=some (.tup xs)∧¬ (sIx xs.length 0 l=0∧sIx xs.length xs.length h=xs.length)∧Q (.val (.tup (cut xs l h))) ρ3):We (wO a lo hi) ρ Q:=by
 obtain ⟨x,ρ1,h1,l,ρ2,h2,hh,ρ3,h3,xs,h4,h5,q⟩:=h
 exact ⟨_,_,by unfold wO;rw [h1];dsimp only;rw [h2];dsimp only;rw [h3];dsimp only;rw [h4];dsimp only;rw [if_neg h5],q⟩
theorem Ws.nx {ρ:Env} {N:Env→Prop} {R:RV→Env→Prop} {B C:Env→Prop} (n:N ρ):Ws sNx ρ N R B C:=⟨_,rfl,n⟩
theorem Ws.seq {s u:FS} {ρ:Env} {N:Env→Prop} {R:RV→Env→Prop} {B C:Env→Prop} (h:Ws s ρ (fun ρ1=>Ws u ρ1 N R B C) R B C):Ws (aA s u) ρ N R B C:=by
 obtain ⟨o,h1,h2⟩:=h
 cases o with
 | nx ρ1=>obtain ⟨o,h3,h4⟩:=h2;exact ⟨o,by unfold aA;rw [h1];exact h3,h4⟩
 | ret r ρ1=>exact ⟨.ret r ρ1,by unfold aA;rw [h1],h2⟩
 | bk ρ1=>exact ⟨.bk ρ1,by unfold aA;rw [h1],h2⟩
 | ct ρ1=>exact ⟨.ct ρ1,by unfold aA;rw [h1],h2⟩
noncomputable def WA (i:Nat) (v:Val) (ρ:Env) (N:Env→Prop):Prop:=match v with
 | .new d=>N (ρ.set i (.ow d))
 | x=>Wk ρ x fun d ρ2=>N (ρ2.set i (.sh d))
theorem Ws.A {i:Nat} {e:FE} {ρ:Env} {N:Env→Prop} {R:RV→Env→Prop} {B C:Env→Prop} (h:We e ρ fun v ρ1=>WA i v ρ1 N) (hi:i≠0):Ws (sA i e) ρ N R B C:=by
 obtain ⟨v,ρ1,h1,h2⟩:=h
 cases v with
 | new d=>exact ⟨.nx _,by unfold sA;rw [if_neg hi,h1],h2⟩
 | val d=>obtain ⟨d',ρ2,h3,h4⟩:=h2;exact ⟨.nx _,by unfold sA;rw [if_neg hi,h1];dsimp only;rw [h3],h4⟩
 | slot j=>obtain ⟨d',ρ2,h3,h4⟩:=h2;exact ⟨.nx _,by unfold sA;rw [if_neg hi,h1];dsimp only;rw [h3],h4⟩
theorem WA.new {i:Nat} {d:Dat} {ρ ρ2:Env} {N:Env→Prop} (n:N ρ2) (hs:ρ.set i (.ow d)=ρ2):WA i (.new d) ρ N:=by unfold WA;dsimp only;rw [hs];exact n
theorem WA.val {i:Nat} {d:Dat} {ρ ρ2:Env} {N:Env→Prop} (n:N ρ2) (hs:ρ.set i (.sh d)=ρ2):WA i (.val d) ρ N:=⟨_,_,rfl,by show N _;rw [hs];exact n⟩
theorem Ws.U {is:List Nat} {e:FE} {ρ:Env} {N:Env→Prop} {R:RV→Env→Prop} {B C:Env→Prop} (h:We e ρ fun x ρ1=>Wk ρ1 x fun d ρ2=>∃ ds ρ3,d=.tup ds∧sets is ds ρ2=some ρ3∧N ρ3):Ws (sU is e) ρ N R B C:=by
 obtain ⟨x,ρ1,h1,d,ρ2,h2,ds,ρ3,rfl,h3,n⟩:=h
 exact ⟨.nx _,by unfold sU;rw [h1];dsimp only;rw [h2];dsimp only;rw [h3],n⟩
theorem Ws.E {e:FE} {ρ:Env} {N:Env→Prop} {R:RV→Env→Prop} {B C:Env→Prop} (h:We e ρ fun _ ρ1=>N ρ1):Ws (sE e) ρ N R B C:=by
 obtain ⟨x,ρ1,h1,n⟩:=h
 exact ⟨.nx _,by unfold sE;rw [h1],n⟩
noncomputable def WR (v:Val) (ρ:Env) (R:RV→Env→Prop):Prop:=match v with
 | .new d=>R (.new d) ρ
 | .val d=>R (.val d) ρ
 | .slot i=>(∃ d,ρ[i]?=some (.ow d)∧R (.new d) (ρ.set i .un))
theorem Ws.R {e:FE} {ρ:Env} {N:Env→Prop} {R:RV→Env→Prop} {B C:Env→Prop} (h:We e ρ fun v ρ1=>WR v ρ1 R):Ws (sR e) ρ N R B C:=by
 obtain ⟨v,ρ1,h1,h2⟩:=h
 cases v with
 | new d=>exact ⟨.ret _ _,by unfold sR;rw [h1],h2⟩
 | val d=>exact ⟨.ret _ _,by unfold sR;rw [h1],h2⟩
 | slot i=>obtain ⟨d,h3,h4⟩:=h2;exact ⟨.ret _ _,by unfold sR;rw [h1];dsimp only;rw [h3],h4⟩
theorem WR.new {d:Dat} {ρ:Env} {R:RV→Env→Prop} (r:R (.new d) ρ):WR (.new d) ρ R:=r
theorem WR.val {d:Dat} {ρ:Env} {R:RV→Env→Prop} (r:R (.val d) ρ):WR (.val d) ρ R:=r
theorem WR.slot {d:Dat} {ρ:Env} {i:Nat} {R:RV→Env→Prop} (r:R (.new d) (ρ.set i .un)) (h:ρ[i]?=some (.ow d)):WR (.slot i) ρ R:=⟨d,h,r⟩
theorem Ws.If {t:FT} {a b:FS} {ρ:Env} {N:Env→Prop} {R:RV→Env→Prop} {B C:Env→Prop} (h:Wt t ρ fun c ρ1=>Wif c (Ws a ρ1 N R B C) (Ws b ρ1 N R B C)):Ws (sIf t a b) ρ N R B C:=by
 obtain ⟨c,ρ1,h1,h2,h3⟩:=h
 cases c with
 | true=>obtain ⟨o,h4,q⟩:=h2 rfl;exact ⟨_,by unfold sIf;rw [h1];exact h4,q⟩
 | false=>obtain ⟨o,h4,q⟩:=h3 rfl;exact ⟨_,by unfold sIf;rw [h1];exact h4,q⟩
theorem Ws.App {i:Nat} {e:FE} {ρ:Env} {N:Env→Prop} {R:RV→Env→Prop} {B C:Env→Prop} {ds0:List Dat} (h:We e ρ fun x ρ1=>Wk ρ1 x fun d ρ2=>∃ ds ρ3,ρ2[i]?=some (.ow (.lst ds))∧ρ2.set i (.ow (.lst (ds++[d])))=ρ3∧N ρ3∧ds.length<SZ) (h0:ρ[i]?=some (.ow (.lst ds0))):Ws (lz i e) ρ N R B C:=by
 obtain ⟨x,ρ1,h1,d,ρ2,h2,ds,ρ3,h3,h5,n,h4⟩:=h
 exact ⟨.nx _,by unfold lz;rw [h0];dsimp only;rw [h1];dsimp only;rw [h2];dsimp only;rw [h3];dsimp only;rw [if_pos h4,h5],n⟩
theorem B3 {i:Nat} {d:Dat} {ds:List Dat} {ρ2 ρ3:Env} {N:Env→Prop} (n:N ρ3) (h:ρ2[i]?=some (.ow (.lst ds))) (hs:ρ2.set i (.ow (.lst (ds++[d])))=ρ3) (hl:ds.length<SZ):∃ ds ρ3,ρ2[i]?=some (.ow (.lst ds))∧ρ2.set i (.ow (.lst (ds++[d])))=ρ3∧N ρ3∧ds.length<SZ:=⟨_,_,h,hs,n,hl⟩
theorem Ws.Set {i:Nat} {j e:FE} {ρ:Env} {N:Env→Prop} {R:RV→Env→Prop} {B C:Env→Prop} (h:We e ρ fun x ρ1=>Wk ρ1 x fun d ρ2=>(∃ d0,ρ2[i]?=some (.ow d0))∧We j ρ2 fun y ρ3=>cB y fun k=>∃ ds m ρ4,ρ3[i]?=some (.ow (.lst ds))∧ixN ds.length k=some m∧ρ3.set i (.ow (.lst (ds.set m d)))=ρ4∧N ρ4):Ws (mQ i j e) ρ N R B C:=by
 obtain ⟨x,ρ1,h1,d,ρ2,h2,⟨d0,h0⟩,y,ρ3,h3,k,rfl,ds,m,ρ4,h4,h5,h6,n⟩:=h
 exact ⟨.nx _,by unfold mQ;rw [h1];dsimp only;rw [h2];dsimp only;rw [h0];dsimp only;rw [h3];dsimp only;rw [h4];dsimp only;rw [h5];dsimp only;rw [h6],n⟩
theorem Ws.LU {i:Nat} {j e:FE} {ρ:Env} {N:Env→Prop} {R:RV→Env→Prop} {B C:Env→Prop} (h:We e ρ fun x ρ1=>Wk ρ1 x fun d ρ2=>(∃ d0,ρ2[i]?=some (.ow d0))∧We j ρ2 fun y ρ3=>cB y fun k=>∃ ks vs ρ4,ρ3[i]?=some (.ow (.dct ks vs))∧ρ3.set i (.ow (.dct (lK ks k) (lM ks vs k d)))=ρ4∧N ρ4∧ks.length<SZ):Ws (pD i j e) ρ N R B C:=by
 obtain ⟨x,ρ1,h1,d,ρ2,h2,⟨d0,h0⟩,y,ρ3,h3,k,rfl,ks,vs,ρ4,h4,h5,n,h6⟩:=h
 exact ⟨.nx _,by unfold pD;rw [h1];dsimp only;rw [h2];dsimp only;rw [h0];dsimp only;rw [h3];dsimp only;rw [h4];dsimp only;rw [if_pos h6,h5],n⟩
theorem yG {i:Nat} {k:Int} {d:Dat} {ks:List Int} {vs:List Dat} {ρ3 ρ4:Env} {N:Env→Prop} (n:N ρ4) (h:ρ3[i]?=some (.ow (.dct ks vs))) (hs:ρ3.set i (.ow (.dct (lK ks k) (lM ks vs k d)))=ρ4) (hl:ks.length<SZ):∃ ks vs ρ4,ρ3[i]?=some (.ow (.dct ks vs))∧ρ3.set i (.ow (.dct (lK ks k) (lM ks vs k d)))=ρ4∧N ρ4∧ks.length<SZ:=⟨_,_,_,h,hs,n,hl⟩
theorem Ws.For {it:FI} {bd:FB} {body:FS} {ρ:Env} {N:Env→Prop} {R:RV→Env→Prop} {B C:Env→Prop} (h:Wi it ρ fun ds ρ1=>Ws (lC bd body ds) ρ1 N R B C):Ws (gu it bd body) ρ N R B C:=by
 obtain ⟨ds,ρ1,h1,o,h2,h3⟩:=h
 exact ⟨o,by unfold gu;rw [h1];exact h2,h3⟩
theorem Ws.inv {α:Type} (enc:α→Dat) (bd:FB) (body:FS) (xs:List α) (ρ:Env) (N:Env→Prop) (R:RV→Env→Prop) (B C:Env→Prop) (I:List α→List α→Env→Prop)
  (h0:I [] xs ρ) (hs:∀ p x q ρ,xs=p++x::q→I p (x::q) ρ→∃ ρ1,bd (enc x) ρ=some ρ1∧Ws body ρ1 (fun ρ2=>I (p++[x]) q ρ2) R N (fun ρ2=>I (p++[x]) q ρ2)) (he:∀ ρ,I xs [] ρ→N ρ):Ws (lC bd body (xs.map enc)) ρ N R B C:=by
 have go:∀ (q p:List α) (ρ:Env),xs=p++q→I p q ρ→Ws (lC bd body (q.map enc)) ρ N R B C:=fun q=>by
  induction q with
  | nil=>intro p ρ e i;rw [List.append_nil] at e;exact ⟨.nx _,rfl,he ρ (e▸i)⟩
  | cons x q ih=>
   intro p ρ e i
   obtain ⟨ρ1,h1,o,h2,h3⟩:=hs p x q ρ e i
   have e':xs=(p++[x])++q:=by rw [List.append_assoc];exact e
   cases o with
   | nx ρ2=>obtain ⟨o,h4,h5⟩:=ih _ _ e' h3;exact ⟨o,by rw [List.map_cons,lC,h1];dsimp only;rw [h2];exact h4,h5⟩
   | ct ρ2=>obtain ⟨o,h4,h5⟩:=ih _ _ e' h3;exact ⟨o,by rw [List.map_cons,lC,h1];dsimp only;rw [h2];exact h4,h5⟩
   | bk ρ2=>exact ⟨.nx _,by rw [List.map_cons,lC,h1];dsimp only;rw [h2],h3⟩
   | ret r ρ2=>exact ⟨.ret _ _,by rw [List.map_cons,lC,h1];dsimp only;rw [h2],h3⟩
 exact go xs [] ρ rfl h0
theorem Wr.fn {n m:Nat} {body:FS} {ds:List Dat} {ρ:Env} {P:RV→Prop} (b:Ws body ρ (fun _=>P (.val .non)) (fun r _=>P r) (fun _=>False) (fun _=>False)) (hρ:ds.map Cell.sh++List.replicate m .un=ρ) (h:ds.length=n):Wr (fn n m body ds) P:=by
 obtain ⟨o,h1,h2⟩:=b
 cases o with
 | nx ρ1=>exact ⟨_,by unfold Dm.fn;rw [if_pos h,hρ,h1],h2⟩
 | ret r ρ1=>exact ⟨_,by unfold Dm.fn;rw [if_pos h,hρ,h1],h2⟩
 | bk ρ1=>exact h2.elim
 | ct ρ1=>exact h2.elim
theorem Wr.eq {o:Option RV} {r:RV} (h:Wr o fun x=>x=r):o=some r:=by obtain ⟨x,h1,rfl⟩:=h;exact h1
theorem yH {α:Type} (enc:α→Dat) (p:α→Bool) (v:α→Dat) (bd:FB) (t:FT) (el:FE) (mk:Cell→Env) (hb:∀ d c,bd d (mk c)=some (mk (.sh d))):∀ (xs:List α) (c:Cell) (acc:List Dat),
  (∀ x∈xs,t (mk (.sh (enc x)))=some (p x,mk (.sh (enc x))))→(∀ x∈xs,p x=true→We el (mk (.sh (enc x))) fun w ρ'=>Wk ρ' w fun d ρ''=>d=v x∧ρ''=mk (.sh (enc x))) →
  ∃ c',fX bd t el (xs.map enc) (mk c) acc=some (acc++(xs.filter p).map v,mk c')
 | [],c,acc,_,_=>⟨c,by simp [fX]⟩
 | x::xs,c,acc,ht,he=>by
  rw [List.map_cons,fX,hb]
  dsimp only
  rw [ht x List.mem_cons_self]
  have ht':=fun y hy=>ht y (List.mem_cons_of_mem _ hy)
  have he':=fun y hy=>he y (List.mem_cons_of_mem _ hy)
  by_cases h:p x=true
  ·obtain ⟨w,ρ',h1,d,ρ'',h2,rfl,rfl⟩:=he x List.mem_cons_self h
   rw [h]
   dsimp only
   rw [h1]
   dsimp only
   rw [h2]
   obtain ⟨c',e⟩:=yH enc p v bd t el mk hb xs (.sh (enc x)) (acc++[v x]) ht' he'
   exact ⟨c',by dsimp only;rw [e,List.filter_cons_of_pos h];simp⟩
  ·rw [Bool.not_eq_true] at h
   rw [h]
   obtain ⟨c',e⟩:=yH enc p v bd t el mk hb xs (.sh (enc x)) acc ht' he'
   exact ⟨c',by dsimp only;rw [e,List.filter_cons_of_neg (by rw [h];decide)]⟩
theorem Wt.get {t:FT} {ρ:Env} {c:Bool} (h:Wt t ρ fun c' ρ'=>c'=c∧ρ'=ρ):t ρ=some (c,ρ):=by
 obtain ⟨_,_,h1,rfl,rfl⟩:=h;exact h1
theorem We.Comp {α:Type} (enc:α→Dat) (xs:List α) (p:α→Bool) (v:α→Dat) {it:FI} {k:Nat} {t:FT} {el:FE} {ρ ρ1:Env} {Q:Val→Env→Prop}
  (q:Q (.new (.lst ((xs.filter p).map v))) ρ1) (hit:it ρ=some (xs.map enc,ρ1)) (hk:ρ1.length=k) (hk0:k≠0) (hl:xs.length≤SZ)
  (ht:∀ x∈xs,Wt t (ρ1++[.sh (enc x)]) fun c ρ'=>c=p x∧ρ'=ρ1++[.sh (enc x)])
  (he:∀ x∈xs,p x=true→We el (ρ1++[.sh (enc x)]) fun w ρ'=>Wk ρ' w fun d ρ''=>d=v x∧ρ''=ρ1++[.sh (enc x)]):We (cU it 1 (bN k) t el) ρ Q:=by
 have bd:∀ (d:Dat) (c:Cell),bN k d (ρ1++[c])=some (ρ1++[.sh d]):=fun d c=>by
  unfold bN
  rw [if_neg hk0,List.set_append_right _ _ (by omega)]
  simp [hk]
 obtain ⟨c',e⟩:=yH enc p v (bN k) t el (fun c=>ρ1++[c]) bd xs .un [] (fun x hx=>Wt.get (ht x hx)) he
 refine ⟨_,_,?_,q⟩
 unfold cU
 rw [hit]
 dsimp only
 rw [if_pos (by rw [List.length_map];exact hl)]
 show (match fX _ _ _ _ (ρ1++[.un]) [] with | none=>none | some (ys,ρ2)=>some (Val.new (.lst ys),ρ2.take ρ1.length))=_
 rw [e]
 dsimp only
 rw [List.nil_append,List.take_left]
theorem We.GI {α:Type} (enc:α→Dat) (xs:List α) (p:α→Bool) (v:α→Dat) {i:Nat} {k:Nat} {t:FT} {el:FE} {ρ:Env} {Q:Val→Env→Prop} {d:Dat}
  (q:Q (.new (.lst ((xs.filter p).map v))) ρ) (hi:ρ[i]?=some (.sh d)) (hd:B0 d=some (xs.map enc)) (hk:ρ.length=k) (hk0:k≠0) (hl:xs.length≤SZ)
  (ht:∀ x∈xs,Wt t (ρ++[.sh (enc x)]) fun c ρ'=>c=p x∧ρ'=ρ++[.sh (enc x)])
  (he:∀ x∈xs,p x=true→We el (ρ++[.sh (enc x)]) fun w ρ'=>Wk ρ' w fun d ρ''=>d=v x∧ρ''=ρ++[.sh (enc x)]):We (bQ i 1 (bN k) t el) ρ Q:=by
 have hit:iS (eV i) ρ=some (xs.map enc,ρ):=by
  unfold iS eV
  rw [hi]
  cases d with
  | lst ys=>cases hd;rfl
  | tup ys=>cases hd;rfl
  | _=>cases hd
 obtain ⟨a,ρ',h1,h2⟩:=We.Comp enc xs p v (Q:=Q) q hit hk hk0 hl ht he
 refine ⟨a,ρ',?_,h2⟩
 unfold bQ
 rw [hi]
 exact h1
theorem We.LV {α:Type} (enc:α→Dat) (xs:List α) (p:α→Bool) (v:α→Dat) {i:Nat} {k:Nat} {t:FT} {el:FE} {ρ ρ1:Env} {Q:Val→Env→Prop}
  (q:Q (.new (.lst ((xs.filter p).map v))) ρ) (hi:ρ[i]?=some (.ow (.lst (xs.map enc)))) (h1:ρ.set i .un=ρ1) (hk:ρ.length=k) (hk0:k≠0) (hl:xs.length≤SZ)
  (ht:∀ x∈xs,Wt t (ρ1++[.sh (enc x)]) fun c ρ'=>c=p x∧ρ'=ρ1++[.sh (enc x)])
  (he:∀ x∈xs,p x=true→We el (ρ1++[.sh (enc x)]) fun w ρ'=>Wk ρ' w fun d ρ''=>d=v x∧ρ''=ρ1++[.sh (enc x)]):We (bQ i 1 (bN k) t el) ρ Q:=by
 have hlen:ρ1.length=ρ.length:=by rw [← h1,List.length_set]
 have hil:i<ρ.length:=(List.getElem?_eq_some_iff.mp hi).1
 have bd:∀ (d:Dat) (c:Cell),bN k d (ρ1++[c])=some (ρ1++[.sh d]):=fun d c=>by
  unfold bN
  rw [if_neg hk0,List.set_append_right _ _ (by omega)]
  simp [hk,hlen]
 obtain ⟨c',e⟩:=yH enc p v (bN k) t el (fun c=>ρ1++[c]) bd xs .un [] (fun x hx=>Wt.get (ht x hx)) he
 refine ⟨_,_,?_,q⟩
 unfold bQ
 rw [hi]
 dsimp only
 rw [if_pos (by rw [List.length_map];exact hl),h1]
 show (match fX _ _ _ _ (ρ1++[.un]) [] with | none=>none | some (ys,ρ2)=>some (Val.new (.lst ys),(ρ2.take ρ.length).set i (.ow (.lst (xs.map enc)))))=_
 rw [e]
 dsimp only
 rw [List.nil_append,← hlen,List.take_left,← h1,List.set_set]
 congr 2
 apply List.ext_getElem?
 intro j
 by_cases h:i=j
 ·subst h;rw [List.getElem?_set_self hil,hi]
 ·rw [List.getElem?_set_ne h]
theorem We.Map {α β:Type} (enc:α→Dat) (xs:List α) (f:α→β) (ic:β→Dat) {it:FI} {k:Nat} {el:FE} {ρ ρ1:Env} {Q:Val→Env→Prop}
  (q:Q (.new (.lst ((xs.map f).map ic))) ρ1) (hit:it ρ=some (xs.map enc,ρ1)) (hk:ρ1.length=k) (hk0:k≠0) (hl:xs.length≤SZ)
  (he:∀ x∈xs,We el (ρ1++[.sh (enc x)]) fun w ρ'=>Wk ρ' w fun d ρ''=>d=ic (f x)∧ρ''=ρ1++[.sh (enc x)]):We (cU it 1 (bN k) cT el) ρ Q:=
 We.Comp enc xs (fun _=>true) (fun x=>ic (f x)) (by rw [List.filter_eq_self.mpr (fun _ _=>rfl)];rw [List.map_map] at q;exact q) hit hk hk0 hl (fun _ _=>Wt.T ⟨rfl,rfl⟩) fun x hx _=>he x hx
theorem We.Js {α β:Type} (enc:α→Dat) (xs:List α) (f:α→β) (ic:β→Dat) {i:Nat} {k:Nat} {el:FE} {ρ:Env} {Q:Val→Env→Prop} {d:Dat}
  (q:Q (.new (.lst ((xs.map f).map ic))) ρ) (hi:ρ[i]?=some (.sh d)) (hd:B0 d=some (xs.map enc)) (hk:ρ.length=k) (hk0:k≠0) (hl:xs.length≤SZ)
  (he:∀ x∈xs,We el (ρ++[.sh (enc x)]) fun w ρ'=>Wk ρ' w fun d ρ''=>d=ic (f x)∧ρ''=ρ++[.sh (enc x)]):We (bQ i 1 (bN k) cT el) ρ Q:=
 We.GI enc xs (fun _=>true) (fun x=>ic (f x)) (by rw [List.filter_eq_self.mpr (fun _ _=>rfl)];rw [List.map_map] at q;exact q) hi hd hk hk0 hl (fun _ _=>Wt.T ⟨rfl,rfl⟩) fun x hx _=>he x hx
theorem We.LW {α β:Type} (enc:α→Dat) (xs:List α) (f:α→β) (ic:β→Dat) {i:Nat} {k:Nat} {el:FE} {ρ ρ1:Env} {Q:Val→Env→Prop}
  (q:Q (.new (.lst ((xs.map f).map ic))) ρ) (hi:ρ[i]?=some (.ow (.lst (xs.map enc)))) (h1:ρ.set i .un=ρ1) (hk:ρ.length=k) (hk0:k≠0) (hl:xs.length≤SZ)
  (he:∀ x∈xs,We el (ρ1++[.sh (enc x)]) fun w ρ'=>Wk ρ' w fun d ρ''=>d=ic (f x)∧ρ''=ρ1++[.sh (enc x)]):We (bQ i 1 (bN k) cT el) ρ Q:=
 We.LV enc xs (fun _=>true) (fun x=>ic (f x)) (by rw [List.filter_eq_self.mpr (fun _ _=>rfl)];rw [List.map_map] at q;exact q) hi h1 hk hk0 hl (fun _ _=>Wt.T ⟨rfl,rfl⟩) fun x hx _=>he x hx
theorem E7 (i j:Int):gEq (.int i) (.int j)=vB (decide (i=j)):=by
 have:(i == j)=decide (i=j):=by by_cases h:i=j<;>simp [h]
 show vB (i == j)=_
 rw [this]
theorem E8 (i j:Int):gNe (.int i) (.int j)=vB (!decide (i=j)):=by
 have:(i == j)=decide (i=j):=by by_cases h:i=j<;>simp [h]
 show vB (!(i == j))=_
 rw [this]
theorem Wg2.eq {i j:Int} {o p:Option Dat} {K:RV→Prop} (k:K (.val (.bl (decide (i=j))))) (ho:o=some (.int i)) (hp:p=some (.int j)):Wg2 gEq o p K:=⟨_,_,_,ho,hp,E7 i j,k⟩
theorem Wg2.ne {i j:Int} {o p:Option Dat} {K:RV→Prop} (k:K (.val (.bl (!decide (i=j))))) (ho:o=some (.int i)) (hp:p=some (.int j)):Wg2 gNe o p K:=⟨_,_,_,ho,hp,E8 i j,k⟩
theorem Wg2.neb {i j:Bool} {o p:Option Dat} {K:RV→Prop} (k:K (.val (.bl (!(i == j))))) (ho:o=some (.bl i)) (hp:p=some (.bl j)):Wg2 gNe o p K:=⟨_,_,_,ho,hp,rfl,k⟩
theorem Wg2.lt {i j:Int} {o p:Option Dat} {K:RV→Prop} (k:K (.val (.bl (decide (i<j))))) (ho:o=some (.int i)) (hp:p=some (.int j)):Wg2 gLt o p K:=⟨_,_,_,ho,hp,rfl,k⟩
theorem Wg2.gt {i j:Int} {o p:Option Dat} {K:RV→Prop} (k:K (.val (.bl (decide (j<i))))) (ho:o=some (.int i)) (hp:p=some (.int j)):Wg2 gGt o p K:=⟨_,_,_,ho,hp,rfl,k⟩
theorem Wg2.ge {i j:Int} {o p:Option Dat} {K:RV→Prop} (k:K (.val (.bl (decide (j≤i))))) (ho:o=some (.int i)) (hp:p=some (.int j)):Wg2 gGe o p K:=⟨_,_,_,ho,hp,rfl,k⟩
theorem Wg2.add {i j:Int} {o p:Option Dat} {K:RV→Prop} (k:K (.val (.int (i+j)))) (ho:o=some (.int i)) (hp:p=some (.int j)):Wg2 bH o p K:=⟨_,_,_,ho,hp,rfl,k⟩
theorem Wg2.tL {xs ys:List Dat} {o p:Option Dat} {K:RV→Prop} (k:K (.new (.lst (xs++ys)))) (ho:o=some (.lst xs)) (hp:p=some (.lst ys)) (h:xs.length+ys.length≤SZ):Wg2 bH o p K:=⟨_,_,_,ho,hp,by unfold bH;dsimp only;rw [if_pos h],k⟩
theorem Wg2.sub {i j:Int} {o p:Option Dat} {K:RV→Prop} (k:K (.val (.int (i-j)))) (ho:o=some (.int i)) (hp:p=some (.int j)):Wg2 gX o p K:=⟨_,_,_,ho,hp,rfl,k⟩
theorem Wg2.mul {i j:Int} {o p:Option Dat} {K:RV→Prop} (k:K (.val (.int (i*j)))) (ho:o=some (.int i)) (hp:p=some (.int j)) (h:(-B64<i∧i<B64)∨(-B64<j∧j<B64)):Wg2 fN o p K:=⟨_,_,_,ho,hp,by unfold fN;dsimp only;rw [if_pos h],k⟩
theorem Wg2.div {i j:Int} {o p:Option Dat} {K:RV→Prop} (k:K (.val (.int (i / j)))) (ho:o=some (.int i)) (hp:p=some (.int j)) (h:0<j∧j<jM):Wg2 mS o p K:=⟨_,_,_,ho,hp,by unfold mS;dsimp only;rw [if_pos h],k⟩
theorem Wg2.mod {i j:Int} {o p:Option Dat} {K:RV→Prop} (k:K (.val (.int (i % j)))) (ho:o=some (.int i)) (hp:p=some (.int j)) (h:0<j):Wg2 g7 o p K:=⟨_,_,_,ho,hp,by unfold g7;dsimp only;rw [if_pos h],k⟩
theorem Wg2.pow {i j z:Int} {o p:Option Dat} {K:RV→Prop} (k:K (.val (.int z))) (ho:o=some (.int i)) (hp:p=some (.int j)) (h:0≤j∧j≤1000000∧i.natAbs<1000000) (hz:i ^ j.toNat=z):Wg2 g8 o p K:=⟨_,_,_,ho,hp,by unfold g8;dsimp only;rw [if_pos h,hz],k⟩
theorem Wg2.ix {d e:Dat} {v:Dat} {o p:Option Dat} {K:RV→Prop} (k:K (.val v)) (ho:o=some d) (hp:p=some e) (h:gIx d e=some (.val v)):Wg2 gIx o p K:=⟨_,_,_,ho,hp,h,k⟩
theorem jK {α:Type} (enc:α→Dat) (xs:List α) (i:Int) (h0:0≤i) (h1:i<xs.length):atI (xs.map enc) i=some (enc (xs[i.toNat]'(by omega))):=by
 unfold atI ixN
 rw [List.length_map,if_pos h0,if_pos h1]
 show (xs.map enc)[i.toNat]?=_
 rw [List.getElem?_map,List.getElem?_eq_getElem (by omega)]
 rfl
theorem Wg2.ixL {α:Type} {enc:α→Dat} {xs:List α} {i:Int} {o p:Option Dat} {K:RV→Prop} (h0:0≤i) (h1:i<xs.length) (k:K (.val (enc (xs[i.toNat]'(by omega))))) (ho:o=some (.lst (xs.map enc))) (hp:p=some (.int i)):Wg2 gIx o p K:=
 ⟨_,_,_,ho,hp,by unfold gIx;dsimp only;rw [jK enc xs i h0 h1];rfl,k⟩
theorem tM (i:Int) (xs:List Int):inD (.int i) (xs.map Dat.int)=decide (i∈xs):=by
 induction xs with
 | nil=>rfl
 | cons x xs ih=>
  have ih':(xs.map Dat.int).any (fun y=>eqD y (.int i))=decide (i∈xs):=ih
  unfold inD
  rw [List.map_cons,List.any_cons,ih']
  show ((x == i)||_)=_
  by_cases h:x=i
  ·simp [h]
  ·have h':¬ i=x:=fun z=>h z.symm
   simp [h,h']
theorem wZ (xs:List Int):(xs.map Dat.int).all (okD 7)=true:=by
 rw [List.all_eq_true]
 intro d hd
 obtain ⟨x,_,rfl⟩:=List.mem_map.mp hd
 rfl
theorem Wg2.inL {i:Int} {xs:List Int} {o p:Option Dat} {K:RV→Prop} (k:K (.val (.bl (decide (i∈xs))))) (ho:o=some (.int i)) (hp:p=some (.lst (xs.map Dat.int))):Wg2 gIn o p K:=
 ⟨_,_,_,ho,hp,by unfold gIn;dsimp only;rw [show okD 8 (.int i)=true from rfl,wZ,tM];rfl,k⟩
theorem Wg2.Nh {i:Int} {xs:List Int} {o p:Option Dat} {K:RV→Prop} (k:K (.val (.bl (!decide (i∈xs))))) (ho:o=some (.int i)) (hp:p=some (.lst (xs.map Dat.int))):Wg2 mT o p K:=
 ⟨_,_,_,ho,hp,by unfold mT;dsimp only;rw [show okD 8 (.int i)=true from rfl,wZ,tM];rfl,k⟩
theorem Wg2.inT {i:Int} {xs:List Int} {o p:Option Dat} {K:RV→Prop} (k:K (.val (.bl (decide (i∈xs))))) (ho:o=some (.int i)) (hp:p=some (.tup (xs.map Dat.int))):Wg2 gIn o p K:=
 ⟨_,_,_,ho,hp,by unfold gIn;dsimp only;rw [show okD 8 (.int i)=true from rfl,wZ,tM];rfl,k⟩
theorem Wg2.inP {i a b:Int} {o p:Option Dat} {K:RV→Prop} (k:K (.val (.bl (decide (i=a∨i=b))))) (ho:o=some (.int i)) (hp:p=some (.tup [.int a,.int b])):Wg2 gIn o p K:=
 Wg2.inT (xs:=[a,b]) (by have:(i∈[a,b])=(i=a∨i=b):=(by simp);simp only [this];exact k) ho hp
theorem Wg2.din {i:Int} {ks:List Int} {vs:List Dat} {o p:Option Dat} {K:RV→Prop} (k:K (.val (.bl (dB ks vs i).isSome))) (ho:o=some (.int i)) (hp:p=some (.dct ks vs)):Wg2 Bu o p K:=⟨_,_,_,ho,hp,rfl,k⟩
theorem Wg2.Jt {i:Int} {ks:List Int} {vs:List Dat} {o p:Option Dat} {K:RV→Prop} (k:K (.val (.bl (!(dB ks vs i).isSome)))) (ho:o=some (.int i)) (hp:p=some (.dct ks vs)):Wg2 nQ o p K:=⟨_,_,_,ho,hp,rfl,k⟩
theorem Wg2.dx {i:Int} {ks:List Int} {vs:List Dat} {d:Dat} {o p:Option Dat} {K:RV→Prop} (h:dB ks vs i=some d) (k:K (.val d)) (ho:o=some (.dct ks vs)) (hp:p=some (.int i)):Wg2 gDx o p K:=⟨_,_,_,ho,hp,by unfold gDx;dsimp only;rw [h];rfl,k⟩
theorem WB.len {xs:List Dat} {o:Option (List Dat)} {K:RV→Prop} (k:K (.val (.int xs.length))) (ho:o=some [.lst xs]):WB d8 o K:=⟨_,_,ho,rfl,k⟩
theorem WB.Ju {xs:List Dat} {o:Option (List Dat)} {K:RV→Prop} (k:K (.val (.int xs.length))) (ho:o=some [.tup xs]):WB d8 o K:=⟨_,_,ho,rfl,k⟩
theorem WB.min2 {i j:Int} {o:Option (List Dat)} {K:RV→Prop} (k:K (.val (.int (if j<i then j else i)))) (ho:o=some [.int i,.int j]):WB gJ o K:=⟨_,_,ho,rfl,k⟩
theorem WB.max2 {i j:Int} {o:Option (List Dat)} {K:RV→Prop} (k:K (.val (.int (if j>i then j else i)))) (ho:o=some [.int i,.int j]):WB iJ o K:=⟨_,_,ho,rfl,k⟩
theorem WB.list {xs:List Dat} {o:Option (List Dat)} {K:RV→Prop} (k:K (.new (.lst xs))) (ho:o=some [.lst xs]):WB iW o K:=⟨_,_,ho,rfl,k⟩
theorem Wg1.mk {g:Dat→Option RV} {d:Dat} {v:RV} {o:Option Dat} {K:RV→Prop} (k:K v) (ho:o=some d) (h:g d=some v):Wg1 g o K:=⟨_,_,ho,h,k⟩
theorem yI {xs:List Dat} {Q:List Dat→Prop} (q:Q xs):∃ ds,B0 (.lst xs)=some ds∧Q ds:=⟨_,rfl,q⟩
theorem ndT {p:Prop} [Decidable p] (h:(!decide p)=true):¬ p:=by intro z;rw [decide_eq_true z] at h;cases h
theorem ndF {p:Prop} [Decidable p] (h:(!decide p)=false):p:=Decidable.byContradiction fun z=>by rw [decide_eq_false z] at h;cases h
theorem LX {α:Type} (enc:α→Dat) (xs:List α) (h:∀ x,okD 7 (enc x)=true):okD 8 (.lst (xs.map enc))=true:=by
 unfold okD
 rw [List.all_eq_true]
 intro d hd
 obtain ⟨x,_,rfl⟩:=List.mem_map.mp hd
 exact h x
theorem Wg2.LY {xs ys:List Int} {o p:Option Dat} {K:RV→Prop} (k:K (.new (.lst ((xs++ys).map Dat.int)))) (ho:o=some (.lst (xs.map Dat.int))) (hp:p=some (.lst (ys.map Dat.int))) (h:xs.length+ys.length≤SZ):Wg2 bH o p K:=⟨_,_,_,ho,hp,by unfold bH;dsimp only;rw [List.length_map,List.length_map,if_pos h,List.map_append],k⟩
theorem Wg2.GJ {xs:List Int} {y:Int} {o p:Option Dat} {K:RV→Prop} (k:K (.new (.lst ((xs++[y]).map Dat.int)))) (ho:o=some (.lst (xs.map Dat.int))) (hp:p=some (.lst [.int y])) (h:xs.length+1≤SZ):Wg2 bH o p K:=Wg2.LY (ys:=[y]) k ho hp h
theorem WB.B4 {α:Type} {enc:α→Dat} {xs:List α} {o:Option (List Dat)} {K:RV→Prop} (k:K (.val (.int xs.length))) (ho:o=some [.lst (xs.map enc)]):WB d8 o K:=⟨_,_,ho,by unfold d8;dsimp only;rw [List.length_map],k⟩
theorem Ws.mono {s:FS} {ρ:Env} {N N':Env→Prop} {R:RV→Env→Prop} {B C:Env→Prop} (h:Ws s ρ N' R B C) (k:∀ ρ',N' ρ'→N ρ'):Ws s ρ N R B C:=by
 obtain ⟨o,h1,h2⟩:=h
 cases o with
 | nx ρ1=>exact ⟨.nx ρ1,h1,k _ h2⟩
 | ret r ρ1=>exact ⟨.ret r ρ1,h1,h2⟩
 | bk ρ1=>exact ⟨.bk ρ1,h1,h2⟩
 | ct ρ1=>exact ⟨.ct ρ1,h1,h2⟩
theorem B5 {ρ:Env} {i:Nat} {d:Dat} {W:Prop} (h:ρ[i]?=some (.ow d)) (w:W):(∃ d0,ρ[i]?=some (.ow d0))∧W:=⟨⟨d,h⟩,w⟩
theorem We.Dn {ρ:Env} {Q:Val→Env→Prop} (q:Q (.new (.dct [] [])) ρ):We eDn ρ Q:=⟨_,_,rfl,q⟩
theorem We.D1 {a b:FE} {ρ:Env} {Q:Val→Env→Prop} (h:We a ρ fun v ρ1=>cB v fun i=>We b ρ1 fun x ρ2=>Wk ρ2 x fun d ρ3=>Q (.new (.dct [i] [d])) ρ3):We (eD1 a b) ρ Q:=by
 obtain ⟨v,ρ1,h1,i,rfl,x,ρ2,h2,d,ρ3,h3,q⟩:=h
 exact ⟨_,_,by unfold eD1;rw [h1];dsimp only;rw [h2];dsimp only;rw [h3],q⟩
theorem eu {bd:FB} {d:Dat} {ρ ρ1 ρ2:Env} {W:Env→Prop} (h:bd d ρ=some ρ1) (hn:ρ1=ρ2) (w:W ρ2):∃ ρ1,bd d ρ=some ρ1∧W ρ1:=⟨ρ1,h,hn▸w⟩
theorem B6 {α:Type} (enc:α→Dat) (p:α→Bool) (v:α→Dat) (bd:FB) (t:FT) (el:FE) (e0:Env) (env:α→Env) (h0:∀ x,bd (enc x) e0=some (env x)) (h1:∀ x y,bd (enc x) (env y)=some (env x)):∀ (xs:List α) (acc:List Dat) (e:Env),(e=e0∨∃ y,e=env y) →
  (∀ x∈xs,t (env x)=some (p x,env x))→(∀ x∈xs,p x=true→We el (env x) fun w ρ'=>Wk ρ' w fun d ρ''=>d=v x∧ρ''=env x) →
  ∃ e',(e'=e0∨∃ y,e'=env y)∧fX bd t el (xs.map enc) e acc=some (acc++(xs.filter p).map v,e')
 | [],acc,e,he,_,_=>⟨e,he,by simp [fX]⟩
 | x::xs,acc,e,he,ht,hel=>by
  have hb:bd (enc x) e=some (env x):=by
   rcases he with rfl | ⟨y,rfl⟩
   ·exact h0 x
   ·exact h1 x y
  rw [List.map_cons,fX,hb]
  dsimp only
  rw [ht x List.mem_cons_self]
  have ht':=fun y hy=>ht y (List.mem_cons_of_mem _ hy)
  have he':=fun y hy=>hel y (List.mem_cons_of_mem _ hy)
  by_cases h:p x=true
  ·obtain ⟨w,ρ',g1,d,ρ'',g2,rfl,rfl⟩:=hel x List.mem_cons_self h
   rw [h]
   dsimp only
   rw [g1]
   dsimp only
   rw [g2]
   obtain ⟨e',q,z⟩:=B6 enc p v bd t el e0 env h0 h1 xs (acc++[v x]) _ (.inr ⟨x,rfl⟩) ht' he'
   exact ⟨e',q,by dsimp only;rw [z,List.filter_cons_of_pos h];simp⟩
  ·rw [Bool.not_eq_true] at h
   rw [h]
   obtain ⟨e',q,z⟩:=B6 enc p v bd t el e0 env h0 h1 xs acc _ (.inr ⟨x,rfl⟩) ht' he'
   exact ⟨e',q,by dsimp only;rw [z,List.filter_cons_of_neg (by rw [h];decide)]⟩
theorem We.GK {α β:Type} (enc:α→Dat) (xs:List α) (p:α→Bool) (f:α→β) (ic:β→Dat) (env:α→Env) {it:FI} {own:Nat} {bd:FB} {t:FT} {el:FE} {ρ ρ1:Env} {Q:Val→Env→Prop}
  (q:Q (.new (.lst (((xs.filter p).map f).map ic))) ρ1) (hit:it ρ=some (xs.map enc,ρ1)) (h0:∀ x,bd (enc x) (ρ1++List.replicate own .un)=some (env x)) (h1:∀ x y,bd (enc x) (env y)=some (env x)) (h2:∀ x,(env x).take ρ1.length=ρ1) (hl:xs.length≤SZ)
  (ht:∀ x∈xs,Wt t (env x) fun c ρ'=>c=p x∧ρ'=env x)
  (he:∀ x∈xs,p x=true→We el (env x) fun w ρ'=>Wk ρ' w fun d ρ''=>d=ic (f x)∧ρ''=env x):We (cU it own bd t el) ρ Q:=by
 obtain ⟨e',q',e⟩:=B6 enc p (fun x=>ic (f x)) bd t el _ env h0 h1 xs [] _ (.inl rfl) (fun x hx=>Wt.get (ht x hx)) he
 refine ⟨_,_,?_,q⟩
 unfold cU
 rw [hit]
 dsimp only
 rw [if_pos (by rw [List.length_map];exact hl),e]
 dsimp only
 rw [List.nil_append,List.map_map]
 have:e'.take ρ1.length=ρ1:=by
  rcases q' with rfl | ⟨y,rfl⟩
  ·exact List.take_left
  ·exact h2 y
 rw [this]
 rfl
theorem We.GL {α β:Type} (enc:α→Dat) (xs:List α) (p:α→Bool) (f:α→β) (ic:β→Dat) (d1 d2 d3:α→Dat) (henc:∀ x,enc x=.tup [d1 x,d2 x,d3 x]) {i k:Nat} {t:FT} {el:FE} {ρ:Env} {Q:Val→Env→Prop} {d:Dat}
  (q:Q (.new (.lst (((xs.filter p).map f).map ic))) ρ) (hi:ρ[i]?=some (.sh d)) (hd:B0 d=some (xs.map enc)) (hk:ρ.length=k) (hk0:k≠0) (hl:xs.length≤SZ)
  (ht:∀ x∈xs,Wt t (ρ++[.sh (d1 x),.sh (d2 x),.sh (d3 x)]) fun c ρ'=>c=p x∧ρ'=ρ++[.sh (d1 x),.sh (d2 x),.sh (d3 x)])
  (he:∀ x∈xs,p x=true→We el (ρ++[.sh (d1 x),.sh (d2 x),.sh (d3 x)]) fun w ρ'=>Wk ρ' w fun d ρ''=>d=ic (f x)∧ρ''=ρ++[.sh (d1 x),.sh (d2 x),.sh (d3 x)]):We (bQ i 3 (bT [k,k+1,k+2]) t el) ρ Q:=by
 have hit:iS (eV i) ρ=some (xs.map enc,ρ):=by
  unfold iS eV
  rw [hi]
  cases d with
  | lst ys=>cases hd;rfl
  | tup ys=>cases hd;rfl
  | _=>cases hd
 have b:∀ (x:α) (c1 c2 c3:Cell),bT [k,k+1,k+2] (enc x) (ρ++[c1,c2,c3])=some (ρ++[.sh (d1 x),.sh (d2 x),.sh (d3 x)]):=fun x c1 c2 c3=>by
  rw [henc]
  show sets [k,k+1,k+2] [d1 x,d2 x,d3 x] _=_
  rw [sets,if_neg hk0,sets,if_neg (by omega),sets,if_neg (by omega),sets]
  rw [List.set_append_right _ _ (by omega),List.set_append_right _ _ (by omega),List.set_append_right _ _ (by omega)]
  subst hk
  rw [Nat.sub_self,show ρ.length+1-ρ.length=1 by omega,show ρ.length+2-ρ.length=2 by omega]
  rfl
 obtain ⟨a,ρ',g1,g2⟩:=We.GK enc xs p f ic (fun x=>(ρ++[Cell.sh (d1 x),Cell.sh (d2 x),Cell.sh (d3 x)]:Env)) (own:=3) (bd:=bT [k,k+1,k+2]) (Q:=Q) q hit (fun x=>b x .un .un .un) (fun x y=>b x (.sh (d1 y)) (.sh (d2 y)) (.sh (d3 y))) (fun x=>List.take_left) hl ht he
 refine ⟨a,ρ',?_,g2⟩
 unfold bQ
 rw [hi]
 exact g1
theorem WB.tuple {xs:List Dat} {o:Option (List Dat)} {K:RV→Prop} (k:K (.val (.tup xs))) (ho:o=some [.lst xs]):WB e7 o K:=⟨_,_,ho,rfl,k⟩
theorem ig (ns:List Int):jV (ns.map Dat.int)=some ns:=by
 induction ns with
 | nil=>rfl
 | cons m ms ih=>rw [List.map_cons,jV,ih];rfl
theorem Ws.Ext {i:Nat} {e:FE} {ρ:Env} {N:Env→Prop} {R:RV→Env→Prop} {B C:Env→Prop} {ds0:List Dat} (h:We e ρ fun x ρ1=>∃ es ds ρ3,pk ρ1 x=some (.lst es)∧ρ1[i]?=some (.ow (.lst ds))∧ρ1.set i (.ow (.lst (ds++es)))=ρ3∧N ρ3∧ds.length+es.length≤SZ) (h0:ρ[i]?=some (.ow (.lst ds0))):Ws (zX i e) ρ N R B C:=by
 obtain ⟨x,ρ1,h1,es,ds,ρ3,h2,h3,h5,n,h4⟩:=h
 exact ⟨.nx _,by unfold zX;rw [h0];dsimp only;rw [h1];dsimp only;rw [h2];dsimp only;rw [h3];dsimp only;rw [if_pos h4,h5],n⟩
theorem Ws.wh {t:FT} {body:FS} {N:Env→Prop} {R:RV→Env→Prop} {B C:Env→Prop} (I:Nat→Env→Prop)
  (hs:∀ k ρ,I k ρ→Wt t ρ fun c ρ1=>Wif c (Ws body ρ1 (fun ρ2=>∃ k',k'<k∧I k' ρ2) R N (fun ρ2=>∃ k',k'<k∧I k' ρ2)) (N ρ1)):∀ (n k:Nat) (ρ:Env),k<n→I k ρ→Ws (whD t body n) ρ N R B C
 | 0,k,_,h,_=>absurd h (Nat.not_lt_zero k)
 | n+1,k,ρ,h,i=>by
  obtain ⟨c,ρ1,h1,h2,h3⟩:=hs k ρ i
  cases c with
  | false=>exact ⟨.nx _,by rw [whD,h1],h3 rfl⟩
  | true=>
   obtain ⟨o,h4,h5⟩:=h2 rfl
   cases o with
   | nx ρ2=>
    obtain ⟨k',hk,i'⟩:=h5
    obtain ⟨o,h6,h7⟩:=Ws.wh (N:=N) (R:=R) (B:=B) (C:=C) I hs n k' ρ2 (by omega) i'
    exact ⟨o,by rw [whD,h1];dsimp only;rw [h4];exact h6,h7⟩
   | ct ρ2=>
    obtain ⟨k',hk,i'⟩:=h5
    obtain ⟨o,h6,h7⟩:=Ws.wh (N:=N) (R:=R) (B:=B) (C:=C) I hs n k' ρ2 (by omega) i'
    exact ⟨o,by rw [whD,h1];dsimp only;rw [h4];exact h6,h7⟩
   | bk ρ2=>exact ⟨.nx _,by rw [whD,h1];dsimp only;rw [h4],h5⟩
   | ret r ρ2=>exact ⟨.ret _ _,by rw [whD,h1];dsimp only;rw [h4],h5⟩
theorem Ad {α:Type} (p:α→Bool) (xs:List α):bools (xs.map fun x=>Dat.bl (p x))=some (xs.map p):=by
 induction xs with
 | nil=>rfl
 | cons x xs ih=>rw [List.map_cons,bools,ih];rfl
theorem WB.all {α:Type} (p:α→Bool) {xs:List α} {o:Option (List Dat)} {K:RV→Prop} (k:K (.val (.bl (xs.all p)))) (ho:o=some [.lst (xs.map fun x=>Dat.bl (p x))]):WB sP o K:=⟨_,_,ho,by
 unfold sP
 dsimp only
 rw [Ad]
 have:(xs.map p).all id=xs.all p:=by rw [List.all_map];rfl
 dsimp only
 rw [this],k⟩
theorem Wg2.E9 {d:Dat} {o p:Option Dat} {K:RV→Prop} (k:K (.val (.bl (!isN d)))) (ho:o=some d) (hp:p=some .non):Wg2 pG o p K:=⟨_,_,_,ho,hp,by cases d<;>rfl,k⟩
theorem WB.LZ {ns:List Int} {o:Option (List Dat)} {K:RV→Prop} (k:K (.val (.int (j6 ns)))) (ho:o=some [.lst (ns.map Dat.int)]):WB pK o K:=⟨_,_,ho,by unfold pK;dsimp only;rw [ig],k⟩
theorem WB.Ni {n:Int} {ns:List Int} {o:Option (List Dat)} {K:RV→Prop} (k:K (.val (.int (h_ n ns)))) (ho:o=some [.lst ((n::ns).map Dat.int)]):WB rN o K:=⟨_,_,ho,by unfold rN;dsimp only;rw [ig],k⟩
theorem Wg2.index {v:Int} {ns:List Int} {i:Nat} {o p:Option Dat} {K:RV→Prop} (h:n8 v ns=some i) (k:K (.val (.int (i:Nat)))) (ho:o=some (.lst (ns.map Dat.int))) (hp:p=some (.int v)):Wg2 pL o p K:=⟨_,_,_,ho,hp,by unfold pL;dsimp only;rw [ig];dsimp only;rw [h],k⟩
theorem We.Index {a b:FE} {ρ:Env} {Q:Val→Env→Prop} (h:We a ρ fun x ρ1=>(∃ ds,pk ρ1 x=some (.lst ds))∧We b ρ1 fun y ρ2=>Wg2 pL (pk ρ2 x) (pk ρ2 y) fun v=>Q v.bG ρ2):We (mZ a b) ρ Q:=by
 obtain ⟨x,ρ1,h1,⟨ds,h0⟩,y,ρ2,h2,d,e,v,h3,h4,h5,q⟩:=h
 exact ⟨_,_,by unfold mZ;rw [h1];dsimp only;rw [h0];dsimp only;rw [h2];dsimp only;rw [h3];dsimp only;rw [h4];dsimp only;rw [h5],q⟩
theorem WB.Nj {j:Int} {o:Option (List Dat)} {K:RV→Prop} (k:K (.new (.lst (ups 0 j.toNat)))) (ho:o=some [.int j]) (h:j≤1000000∧-1000000≤j):WB rJ o K:=⟨_,_,ho,by unfold rJ;dsimp only;rw [if_pos h],k⟩
theorem rS:∀ (ns:List Int) (a:Int),(h_ a ns=a∨h_ a ns∈ns)∧a≤h_ a ns∧∀ x∈ns,x≤h_ a ns
 | [],a=>⟨.inl rfl,Int.le_refl _,by simp⟩
 | y::ns,a=>by
  obtain ⟨h1,h2,h3⟩:=rS ns (if y>a then y else a)
  rw [h_]
  by_cases h:y>a
  ·rw [if_pos h] at h1 h2 h3 ⊢
   refine ⟨.inr ?_,by omega,fun x hx=>?_⟩
   ·rcases h1 with e | e
    ·rw [e];simp
    ·exact List.mem_cons_of_mem _ e
   ·rcases List.mem_cons.mp hx with rfl | hx
    ·exact h2
    ·exact h3 x hx
  ·rw [if_neg h] at h1 h2 h3 ⊢
   refine ⟨?_,h2,fun x hx=>?_⟩
   ·rcases h1 with e | e
    ·exact .inl e
    ·exact .inr (List.mem_cons_of_mem _ e)
   ·rcases List.mem_cons.mp hx with rfl | hx
    ·omega
    ·exact h3 x hx
theorem rT (v:Int):∀ (ns:List Int),v∈ns→∃ i,n8 v ns=some i∧∃ h:i<ns.length,ns[i]=v
 | [],h=>by cases h
 | x::ns,h=>by
  rw [n8]
  by_cases e:x=v
  ·exact ⟨0,by rw [if_pos e],by simp,e⟩
  ·rw [if_neg e]
   have:v∈ns:=by
    rcases List.mem_cons.mp h with h | h
    ·exact absurd h.symm e
    ·exact h
   obtain ⟨i,h1,h2,h3⟩:=rT v ns this
   exact ⟨i+1,by rw [h1];rfl,by simpa using h2,by simpa using h3⟩
theorem Ws.cut {s u:FS} {ρ:Env} {N:Env→Prop} {R:RV→Env→Prop} {B C:Env→Prop} (J:Env→Prop) (h1:Ws s ρ J R B C) (h2:∀ ρ',J ρ'→Ws u ρ' N R B C):Ws (aA s u) ρ N R B C:=Ws.seq (Ws.mono h1 h2)
noncomputable def WrM (o:Option (RV×Dat)) (P:RV→Dat→Prop):Prop:=∃ z d,o=some (z,d)∧P z d
theorem WrM.fn {n m:Nat} {body:FS} {d:Dat} {r:List Dat} {ρ:Env} {P:RV→Dat→Prop} (b:Ws body ρ (fun ρ'=>∃ d',ρ'[0]?=some (.ow d')∧P (.val .non) d') (fun z ρ'=>∃ d',ρ'[0]?=some (.ow d')∧P z d') (fun _=>False) (fun _=>False)) (hρ:Cell.ow d::(r.map Cell.sh++List.replicate m .un)=ρ) (h:(d::r).length=n):WrM (fnM n m body (d::r)) P:=by
 obtain ⟨o,h1,h2⟩:=b
 cases o with
 | nx ρ1=>obtain ⟨d',h3,h4⟩:=h2;exact ⟨_,_,by unfold fnM;rw [if_pos h];dsimp only;rw [hρ,h1];dsimp only;rw [h3],h4⟩
 | ret z ρ1=>obtain ⟨d',h3,h4⟩:=h2;exact ⟨_,_,by unfold fnM;rw [if_pos h];dsimp only;rw [hρ,h1];dsimp only;rw [h3],h4⟩
 | bk ρ1=>exact h2.elim
 | ct ρ1=>exact h2.elim
noncomputable def WFm (f:List Dat→Option (RV×Dat)) (j:Nat) (ρ1:Env) (xs:List Val) (Q:Val→Env→Prop):Prop:=
 ∃ d1 ds ρ2 d v d',ρ1[j]?=some (.ow d1)∧tks ρ1 xs=some (ds,ρ2)∧ρ2[j]?=some (.ow d)∧f (d::ds)=some (v,d')∧(if (flat v.dat&&wM d')=true then Q v.bG (ρ1.set j (.ow d')) else Q v.bG (ρ2.set j (.ow d')))
theorem We.Fm {f:List Dat→Option (RV×Dat)} {j:Nat} {as:List FE} {ρ:Env} {d0:Dat} {Q:Val→Env→Prop} (h:Was as ρ fun xs ρ1=>WFm f j ρ1 xs Q) (h0:ρ[j]?=some (.ow d0)):We (eFm f j as) ρ Q:=by
 obtain ⟨xs,ρ1,h1,d1,ds,ρ2,d,v,d',h2,h3,h4,h5,q⟩:=h
 by_cases c:(flat v.dat&&wM d')=true
 ·rw [if_pos c] at q
  exact ⟨_,_,by unfold eFm;rw [h0];dsimp only;rw [h1];dsimp only;rw [h2];dsimp only;rw [h3];dsimp only;rw [h4];dsimp only;rw [h5];dsimp only;rw [if_pos c],q⟩
 ·rw [if_neg c] at q
  exact ⟨_,_,by unfold eFm;rw [h0];dsimp only;rw [h1];dsimp only;rw [h2];dsimp only;rw [h3];dsimp only;rw [h4];dsimp only;rw [h5];dsimp only;rw [if_neg c],q⟩
theorem WFm.any {f:List Dat→Option (RV×Dat)} {j:Nat} {ρ1 ρ3:Env} {xs:List Val} {d d':Dat} {ds:List Dat} {v:RV} {Q:Val→Env→Prop} (h5:f (d::ds)=some (v,d')) (q:Q v.bG ρ3) (h2:ρ1[j]?=some (.ow d)) (h3:tks ρ1 xs=some (ds,ρ1)) (hn:ρ1.set j (.ow d')=ρ3):WFm f j ρ1 xs Q:=
 ⟨_,_,_,_,_,_,h2,h3,h2,h5,by rw [hn];split<;>exact q⟩
theorem Wi.get {it:FI} {ρ ρ1:Env} {ds:List Dat} (h:Wi it ρ fun x y=>x=ds∧y=ρ1):it ρ=some (ds,ρ1):=by
 obtain ⟨_,_,h1,rfl,rfl⟩:=h;exact h1
theorem We.get {e:FE} {ρ ρ':Env} {v:Val} (h:We e ρ fun x y=>x=v∧y=ρ'):e ρ=some (v,ρ'):=by
 obtain ⟨_,_,h1,rfl,rfl⟩:=h;exact h1
theorem We.Fk {k:Nat} {f:List Dat→Option RV} {as:List FE} {ρ:Env} {Q:Val→Env→Prop} (h:Was as ρ fun xs ρ1=>∃ ds ρ2 v,m6 k ρ1 xs=some (ds,ρ2)∧f ds=some v∧i9 k v.dat=true∧Q v.bG ρ2):We (eFk k f as) ρ Q:=by
 obtain ⟨xs,ρ1,e1,ds,ρ2,v,e2,e3,e4,q⟩:=h
 exact ⟨_,_,by unfold eFk;rw [e1];dsimp only;rw [e2];dsimp only;rw [e3];dsimp only;rw [if_pos e4],q⟩
theorem rV {α:Type} (k:Nat) (enc:α→Dat) (xs:List α) (h:∀ x,i9 k (enc x)=true):lO k (xs.map enc)=true:=by
 induction xs with
 | nil=>rfl
 | cons x xs ih=>rw [List.map_cons,lO,h x,ih];rfl
section
variable {N:Env→Prop} {R:RV→Env→Prop} {B C:Env→Prop} {ρ:Env} {p:Dp}
end
section
variable {ρ:Env} {P:Dp→Prop}
end
section
variable {N:Env→Dp→Prop} {R:Dat→Env→Prop} {ρ ρ':Env} {p:Dp}
end
section
variable {N:Env→Prop} {R:RV→Env→Prop} {B C:Env→Prop} {ρ:Env} {p:Dp}
end
section
variable {N:Env→Dp→Prop} {R:Dat→Env→Prop} {ρ ρ':Env} {p:Dp}
end
section
variable {ρ:Env} {P:Dp→Prop} {Q:Dp→Env→Prop}
end
end Dm
namespace Fl
structure Tie where
 m:Int
 a:Int
 b:Int
deriving Inhabited
noncomputable def one (b:Bool):Int:=if b then 1 else 0
noncomputable def Ends (t:Tie) (p q:Int):Prop:=t.a≠t.b∧((t.a=p∧t.b=q)∨(t.b=p∧t.a=q))
theorem uniq {r:List Tie} (nd:(r.map (·.m)).Nodup) {u t:Tie} (hu:u∈r) (ht:t∈r) (e:u.m=t.m):u=t:=by
 induction r with
 | nil=>cases hu
 | cons v r ih=>
  rw [List.map_cons,List.nodup_cons] at nd
  rcases List.mem_cons.mp hu with rfl | h1
  ·rcases List.mem_cons.mp ht with rfl | h2
   ·rfl
   ·exact absurd (List.mem_map.mpr ⟨t,h2,e.symm⟩) nd.1
  ·rcases List.mem_cons.mp ht with rfl | h2
   ·exact absurd (List.mem_map.mpr ⟨u,h1,e⟩) nd.1
   ·exact ih nd.2 h1 h2
noncomputable abbrev Step:=Int×Int
noncomputable def Way (R:Int→Step→Prop):Int→List Step→Int→Prop
 | x,[],y=>x=y
 | x,s::w,y=>R x s∧Way R s.2 w y
theorem Way.snoc {R:Int→Step→Prop}:∀ {w:List Step} {x y:Int} {s:Step},Way R x w y→R y s→Way R x (w++[s]) s.2
 | [],_,_,_,h,k=>by cases h;exact ⟨k,rfl⟩
 | _::_,_,_,_,h,k=>⟨h.1,Way.snoc h.2 k⟩
theorem Way.mono {R R':Int→Step→Prop} (h:∀ p s,R p s→R' p s):∀ {w:List Step} {x y:Int},Way R x w y→Way R' x w y
 | [],_,_,k=>k
 | _::_,_,_,k=>⟨h _ _ k.1,Way.mono h k.2⟩
noncomputable def yJ (r:List Tie) (p:Int) (s:Step):Prop:=∃ t∈r,t.m=s.1∧Ends t p s.2
theorem Ae {r:List Tie} (nd:(r.map (·.m)).Nodup) {R:Int→Step→Prop} (hR:∀ p s,R p s→yJ r p s) {x y:Int} {s:Step} {w:List Step} (h:Way R x (s::w) y) (hn:(x::(s::w).map (·.2)).Nodup):∀ u∈w,u.1≠s.1:=by
 obtain ⟨h1,h2⟩:=h
 obtain ⟨t,ht,hm,he⟩:=hR _ _ h1
 have main:∀ (w:List Step) (z:Int),Way R z w y→(∀ u∈w,u.2≠x∧u.2≠s.2)→∀ u∈w,u.1≠s.1:=fun w=>by
  induction w with
  | nil=>intro z _ _ u hu;cases hu
  | cons v w ih=>
   intro z hw hd u hu
   rcases List.mem_cons.mp hu with rfl | hu
   ·intro e
    obtain ⟨t',ht',hm',he'⟩:=hR _ _ hw.1
    have:=uniq nd ht' ht (by rw [hm',e,hm])
    subst this
    obtain ⟨d1,d2⟩:=hd u List.mem_cons_self
    obtain ⟨_,he⟩:=he
    obtain ⟨_,he'⟩:=he'
    omega
   ·exact ih v.2 hw.2 (fun u hu=>hd u (List.mem_cons_of_mem _ hu)) u hu
 rw [List.map_cons,List.nodup_cons,List.nodup_cons] at hn
 refine main w s.2 h2 fun u hu=>⟨fun e=>hn.1 ?_,fun e=>hn.2.1 ?_⟩
 ·exact List.mem_cons_of_mem _ (List.mem_map.mpr ⟨u,hu,e⟩)
 ·exact List.mem_map.mpr ⟨u,hu,e⟩
theorem nT {r:List Tie} (nd:(r.map (·.m)).Nodup) {R:Int→Step→Prop} (hR:∀ p s,R p s→yJ r p s) {y:Int}:∀ {w:List Step} {x:Int},Way R x w y→(x::w.map (·.2)).Nodup→(w.map (·.1)).Nodup
 | [],_,_,_=>by simp
 | s::w,x,h,hn=>by
  rw [List.map_cons,List.nodup_cons]
  refine ⟨fun e=>?_,nT nd hR h.2 (by rw [List.map_cons,List.nodup_cons] at hn;exact hn.2)⟩
  obtain ⟨u,hu,e⟩:=List.mem_map.mp e
  exact Ae nd hR h hn u hu e
noncomputable def sm (F:Nat→Int):Nat→Int
 | 0=>0
 | n+1=>sm F n+F n
theorem ja {F G:Nat→Int}:∀ {n:Nat},(∀ i<n,F i=G i)→sm F n=sm G n
 | 0,_=>rfl
 | n+1,h=>by rw [sm,sm,ja fun i hi=>h i (Nat.lt_succ_of_lt hi),h n (Nat.lt_succ_self n)]
theorem GN {F G:Nat→Int}:∀ {n:Nat},(∀ i<n,F i≤G i)→sm F n≤sm G n
 | 0,_=>Int.le_refl _
 | n+1,h=>by
  have h1:=GN (n:=n) fun i hi=>h i (Nat.lt_succ_of_lt hi)
  have h2:=h n (Nat.lt_succ_self n)
  rw [sm,sm];omega
theorem GO {F:Nat→Int} {k:Nat} {d:Int}:∀ {n:Nat},k<n→sm (fun i=>if i=k then F i+d else F i) n=sm F n+d
 | 0,h=>absurd h (Nat.not_lt_zero _)
 | n+1,h=>by
  rw [sm,sm]
  by_cases e:n=k
  ·subst e
   rw [if_pos rfl,ja (G:=F) fun i hi=>if_neg (by omega)]
   omega
  ·rw [if_neg e,GO (by omega)]
   omega
structure Web where
 N:Nat
 a:Nat→Int
 b:Nat→Int
 w:Nat→Int
noncomputable def Web.out (W:Web) (f:Nat→Int) (S:Int→Bool):Int:=sm (fun i=>f i*(one (S (W.a i))-one (S (W.b i)))) W.N
noncomputable def Web.cut (W:Web) (S:Int→Bool):Int:=sm (fun i=>if S (W.a i) != S (W.b i) then W.w i else 0) W.N
noncomputable def Web.Fits (W:Web) (f:Nat→Int):Prop:=∀ i<W.N,-W.w i≤f i∧f i≤W.w i
theorem Web.Jv {W:Web} {f:Nat→Int} (h:W.Fits f) (S:Int→Bool):W.out f S≤W.cut S:=by
 refine GN fun i hi=>?_
 have:=h i hi
 cases S (W.a i)<;>cases S (W.b i)<;>simp [one]<;>omega
theorem Web.Jw {W:Web} {f:Nat→Int} {S:Int→Bool} (h1:∀ i<W.N,S (W.a i)=true→S (W.b i)=false→f i=W.w i) (h2:∀ i<W.N,S (W.b i)=true→S (W.a i)=false→f i=-W.w i):W.out f S=W.cut S:=by
 refine ja fun i hi=>?_
 have h1:=h1 i hi
 have h2:=h2 i hi
 cases ha:S (W.a i)<;>cases hb:S (W.b i)<;>simp [one]
 ·rw [h2 hb ha];omega
 ·exact h1 ha hb
theorem Web.E_ (W:Web) (S:Int→Bool):W.cut (fun x=>!S x)=W.cut S:=by
 refine ja fun i _=>?_
 have e:∀ x y:Bool,((!x) != (!y))=(x != y):=by decide
 simp only [e]
noncomputable def sgn (m:Int):Int:=if m % 2=0 then 1 else -1
noncomputable def lP (f:Nat→Int) (m d:Int):Nat→Int:=fun i=>if (i:Int)=m / 2 then f i+sgn m*d else f i
noncomputable def gQ (f:Nat→Int) (d:Int):List Step→Nat→Int
 | []=>f
 | s::w=>gQ (lP f s.1 d) d w
noncomputable def Web.lQ (W:Web) (p:Int) (s:Step):Prop:=0≤s.1∧s.1 / 2<W.N∧(if s.1 % 2=0 then W.a (s.1 / 2).toNat=p∧W.b (s.1 / 2).toNat=s.2 else W.b (s.1 / 2).toNat=p∧W.a (s.1 / 2).toNat=s.2)
theorem Web.Af {W:Web} {f:Nat→Int} {p d:Int} {s:Step} (h:W.lQ p s) (S:Int→Bool):W.out (lP f s.1 d) S=W.out f S+d*(one (S p)-one (S s.2)):=by
 obtain ⟨h0,h1,h2⟩:=h
 have e:∀ i:Nat,((i:Int)=s.1 / 2)↔i=(s.1 / 2).toNat:=fun i=>by omega
 have:W.out (lP f s.1 d) S=sm (fun i=>if i=(s.1 / 2).toNat then f i*(one (S (W.a i))-one (S (W.b i)))+sgn s.1*d*(one (S (W.a (s.1 / 2).toNat))-one (S (W.b (s.1 / 2).toNat))) else f i*(one (S (W.a i))-one (S (W.b i)))) W.N:=by
  refine ja fun i _=>?_
  unfold lP
  by_cases q:(i:Int)=s.1 / 2
  ·have q':=(e i).mp q
   rw [if_pos q,if_pos q',← q',Int.add_mul]
  ·rw [if_neg q,if_neg fun z=>q ((e i).mpr z)]
 rw [this,GO (by omega)]
 unfold Web.out sgn
 congr 1
 split at h2
 ·rename_i hm
  rw [if_pos hm,h2.1,h2.2,Int.one_mul]
 ·rename_i hm
  rw [if_neg hm,h2.1,h2.2]
  rw [Int.neg_mul,Int.one_mul,Int.neg_mul,← Int.mul_neg]
  congr 1
  omega
theorem Web.vd {W:Web} {d:Int} (S:Int→Bool):∀ {w:List Step} {x y:Int} {f:Nat→Int},Way W.lQ x w y→W.out (gQ f d w) S=W.out f S+d*(one (S x)-one (S y))
 | [],x,y,f,h=>by
  cases h
  rw [gQ]
  simp
 | s::w,x,y,f,h=>by
  rw [gQ,Web.vd S h.2,Web.Af h.1 S,Int.mul_sub,Int.mul_sub,Int.mul_sub]
  omega
theorem Web.rW {W:Web} {d:Int} (d0:0≤d):∀ {w:List Step} {f:Nat→Int},W.Fits f→(w.map fun s=>s.1 / 2).Nodup→(∀ s∈w,∀ i:Nat,(i:Int)=s.1 / 2→d≤W.w i-sgn s.1*f i)→W.Fits (gQ f d w)
 | [],_,h,_,_=>h
 | s::w,f,h,nd,hr=>by
  rw [gQ]
  rw [List.map_cons,List.nodup_cons] at nd
  refine Web.rW d0 (fun i hi=>?_) nd.2 fun u hu i hi=>?_
  ·unfold lP
   have hf:=h i hi
   split
   ·rename_i e
    have:=hr s List.mem_cons_self i e
    unfold sgn at this ⊢
    split at this<;>rename_i hm
    ·rw [if_pos hm];omega
    ·rw [if_neg hm];omega
   ·exact hf
  ·have:=hr u (List.mem_cons_of_mem _ hu) i hi
   unfold lP
   rw [if_neg fun z=>nd.1 (List.mem_map.mpr ⟨u,hu,hi.symm.trans z⟩)]
   exact this
structure Web.Flow (W:Web) (f:Nat→Int) (a b T:Int):Prop where
 fits:W.Fits f
 out:∀ S:Int→Bool,W.out f S=T*(one (S a)-one (S b))
theorem Web.Flow.le {W:Web} {f:Nat→Int} {a b T:Int} (F:W.Flow f a b T) {S:Int→Bool} (ha:S a=true) (hb:S b=false):T≤W.cut S:=by
 have h1:=F.out S
 have h2:=Web.Jv F.fits S
 rw [ha,hb] at h1
 simp [one] at h1
 omega
theorem Web.Flow.more {W:Web} {f:Nat→Int} {a b T d:Int} (F:W.Flow f a b T) (d0:0≤d) {w:List Step} (hw:Way W.lQ a w b) (nd:(w.map fun s=>s.1 / 2).Nodup) (hr:∀ s∈w,∀ i:Nat,(i:Int)=s.1 / 2→d≤W.w i-sgn s.1*f i):W.Flow (gQ f d w) a b (T+d):=
 ⟨Web.rW d0 F.fits nd hr,fun S=>by rw [Web.vd S hw,F.out S,Int.add_mul]⟩
theorem Web.Flow.zero (W:Web) (h:∀ i<W.N,0≤W.w i) (a b:Int):W.Flow (fun _=>0) a b 0:=
 ⟨fun i hi=>by have:=h i hi;omega,fun S=>by
  rw [Int.zero_mul]
  unfold Web.out
  have:∀ n,sm (fun i=>(0:Int)*(one (S (W.a i))-one (S (W.b i)))) n=0:=fun n=>by
   induction n with
   | zero=>rfl
   | succ n ih=>rw [sm,ih];simp
  exact this _⟩
theorem Web.Flow.stop {W:Web} {f:Nat→Int} {a b T:Int} (F:W.Flow f a b T) {S:Int→Bool} (ha:S a=true) (hb:S b=false)
  (hc:∀ p s,S p=true→W.lQ p s→(∀ i:Nat,(i:Int)=s.1 / 2→0<W.w i-sgn s.1*f i)→S s.2=true):W.cut S=T:=by
 have h1:=F.out S
 rw [ha,hb] at h1
 simp [one] at h1
 rw [← h1]
 refine (Web.Jw (fun i hi p q=>?_) fun i hi p q=>?_).symm
 ·have hf:=F.fits i hi
  by_cases z:f i=W.w i
  ·exact z
  ·have e1:(2*(i:Int)) / 2=i:=by omega
   have e2:(2*(i:Int)) % 2=0:=by omega
   have:=hc _ (2*(i:Int),W.b i) p ⟨by omega,by dsimp only;rw [e1];omega,by dsimp only;rw [if_pos e2,e1,Int.toNat_natCast];exact ⟨rfl,rfl⟩⟩ fun j hj=>by
    dsimp only at hj ⊢
    rw [e1] at hj
    have:j=i:=by omega
    subst this
    unfold sgn
    rw [if_pos e2]
    omega
   rw [q] at this
   cases this
 ·have hf:=F.fits i hi
  by_cases z:f i=-W.w i
  ·exact z
  ·have e1:(2*(i:Int)+1) / 2=i:=by omega
   have e2:¬ (2*(i:Int)+1) % 2=0:=by omega
   have:=hc _ (2*(i:Int)+1,W.a i) p ⟨by omega,by dsimp only;rw [e1];omega,by dsimp only;rw [if_neg e2,e1,Int.toNat_natCast];exact ⟨rfl,rfl⟩⟩ fun j hj=>by
    dsimp only at hj ⊢
    rw [e1] at hj
    have:j=i:=by omega
    subst this
    unfold sgn
    rw [if_neg e2]
    omega
   rw [q] at this
   cases this
end Fl
local macro_rules | `(tactic| array_get_dec)=>`(tactic| first | with_reducible refine Dm.Ws.seq ?_ | with_reducible refine Dm.We.e2 ?_ | ((with_reducible apply Dm.We.v);(focus rfl)) | ((with_reducible apply Dm.We.w);(focus rfl)) | with_reducible refine Dm.We.c ?_ | (refine Dm.WA.val ?_ (by first | (dsimp only [List.set];first | done | rfl) | rfl)) | (refine Dm.WA.new ?_ (by first | (dsimp only [List.set];first | done | rfl) | rfl)) | (refine Dm.WA.slot ?_ rfl (by first | (dsimp only [List.set];first | done | rfl) | rfl)) | with_reducible refine Dm.Ws.A ?_ (by decide) | with_reducible refine Dm.Ws.If ?_ | with_reducible refine Dm.Wt.V ?_ | with_reducible refine Dm.Wt.Not ?_ | with_reducible refine Dm.Wt.And ?_ | with_reducible refine Dm.Wt.Or ?_ | with_reducible refine Dm.Wt.T ?_ | (refine Dm.Wb.mk ?_) | (refine Dm.cB.mk ?_) | with_reducible refine Dm.Wif.t ?_ | with_reducible refine Dm.Wif.f ?_ | with_reducible refine Dm.Was.nil ?_ | with_reducible refine Dm.Was.cons ?_ | with_reducible refine Dm.We.B ?_ | with_reducible refine Dm.We.F ?_ | with_reducible refine Dm.We.T ?_ | with_reducible refine Dm.We.L ?_ | with_reducible refine Dm.We.e1 ?_ | with_reducible refine Dm.We.If ?_ | with_reducible refine Dm.We.And ?_ | with_reducible refine Dm.We.Or ?_ | with_reducible refine Dm.We.Not ?_ | with_reducible refine Dm.We.Sl ?_ | with_reducible refine Dm.We.SlT ?_ | with_reducible refine Dm.Wp.none ?_ | with_reducible refine Dm.Wp.some ?_ | (refine Dm.Wsl.A (enc:=Dm.Dat.int) ?_ rfl) | (refine Dm.Wsl.mk ?_ rfl) | (refine Dm.WT.mk ?_ rfl (by first | (dsimp only [List.set];first | done | rfl) | rfl) (by exact Nat.le_of_ble_eq_true rfl)) | (refine Dm.Wk.val ?_) | (refine Dm.Wk.new ?_) | (refine Dm.Wk.slot ?_ rfl (by first | (dsimp only [List.set];first | done | rfl) | rfl)) | with_reducible refine Dm.We.Dn ?_ | with_reducible refine Dm.We.D1 ?_ | with_reducible refine Dm.Ws.LU ?_ | (refine Dm.NI ?_ rfl) | (refine Dm.B5 rfl ?_) | (refine Dm.yG ?_ rfl (by first | (dsimp only [List.set];first | done | rfl) | rfl) ?_) | (refine Dm.Ws.App ?_ rfl) | (refine Dm.B3 ?_ rfl (by first | (dsimp only [List.set];first | done | rfl) | rfl) ?_) | with_reducible refine Dm.Ws.U ?_ | (refine Dm.Nk ?_ rfl (by first | (dsimp only [List.set];first | done | rfl) | rfl)) | with_reducible refine Dm.Ws.R ?_ | (refine Dm.WR.new ?_) | (refine Dm.WR.val ?_) | (refine Dm.WR.slot ?_ rfl) | with_reducible refine Dm.Ws.nx ?_ | with_reducible refine Dm.Ws.bk ?_ | with_reducible refine Dm.Ws.ct ?_ | with_reducible refine Dm.Ws.E ?_ | with_reducible refine Dm.Ws.For ?_ | with_reducible refine Dm.Wi.S ?_ | with_reducible refine Dm.Wi.L ?_ | with_reducible refine Dm.Wi.R1 ?_ | with_reducible refine Dm.Wi.R2 ?_ | (refine Dm.yI ?_) | (refine Dm.MF ?_) | (refine Dm.Wg2.eq ?_ rfl rfl) | (refine Dm.Wg2.ne ?_ rfl rfl) | (refine Dm.Wg2.ND ?_ rfl rfl ?_) | (refine Dm.Wg2.NF ?_ rfl rfl ?_) | (refine Dm.Wg2.eqb ?_ rfl rfl) | (refine Dm.Wg2.neb ?_ rfl rfl) | (refine Dm.Wg2.Nl ?_ rfl rfl) | (refine Dm.Wg2.isb ?_ rfl rfl) | (refine Dm.Wg2.lt ?_ rfl rfl) | (refine Dm.Wg2.le ?_ rfl rfl) | (refine Dm.Wg2.gt ?_ rfl rfl) | (refine Dm.Wg2.ge ?_ rfl rfl) | (refine Dm.Wg2.add ?_ rfl rfl) | (refine Dm.Wg2.LY ?_ rfl rfl ?_) | (refine Dm.Wg2.GJ ?_ rfl rfl ?_) | (refine Dm.Wg2.tL ?_ rfl rfl ?_) | (refine Dm.Wg2.sub ?_ rfl rfl) | (refine Dm.Wg2.mul ?_ rfl rfl (by first | exact Or.inl (by decide) | exact Or.inr (by decide))) | (refine Dm.Wg2.mul ?_ rfl rfl ?_) | (refine Dm.Wg2.div ?_ rfl rfl (by decide)) | (refine Dm.Wg2.div ?_ rfl rfl ?_) | (refine Dm.Wg2.mod ?_ rfl rfl (by decide)) | (refine Dm.Wg2.mod ?_ rfl rfl ?_) | (refine Dm.Wg2.din ?_ rfl rfl) | (refine Dm.Wg2.Jt ?_ rfl rfl) | (refine Dm.Wg2.inP ?_ rfl rfl) | (refine Dm.Wg2.NJ ?_ rfl rfl) | (refine Dm.Wg2.ix ?_ rfl rfl rfl) | (refine Dm.WB.B4 (enc:=Dm.Dat.int) ?_ rfl) | (refine Dm.WB.len ?_ rfl) | (refine Dm.WB.Ju ?_ rfl) | (refine Dm.WB.min2 ?_ rfl) | (refine Dm.WB.max2 ?_ rfl) | (refine Dm.WB.list ?_ rfl) | (refine Dm.WB.int ?_ rfl) | (refine Dm.WB.sum2 ?_ rfl ?_) | (refine Dm.Wg1.NK (enc:=Dm.Dat.int) ?_ rfl) | (refine Dm.Wg1.mk ?_ rfl rfl))
namespace P
structure Hv where
 a:Int
 b:Int
 w:Int
noncomputable def wsum (p:Hv→Bool):List Hv→Int
 | []=>0
 | t::h=>(if p t then t.w else 0)+wsum p h
theorem yK {p:Hv→Bool}:∀ {h:List Hv},(∀ t∈h,0≤t.w)→0≤wsum p h
 | [],_=>Int.le_refl _
 | t::h,e=>by
  have ih:=yK (p:=p) fun u hu=>e u (List.mem_cons_of_mem _ hu)
  have:=e t List.mem_cons_self
  rw [wsum];split<;>omega
noncomputable def Jx (row:List Int) (x:Int):Bool:=decide (x∈row)
noncomputable def toB (row:List Int) (x:Int) (t:Hv):Bool:=(decide (t.a=x)&&Jx row t.b)||(decide (t.b=x)&&Jx row t.a)
noncomputable def wTo (h:List Hv) (row:List Int) (x:Int):Int:=wsum (toB row x) h
noncomputable def Web (n:Nat) (h:List Hv):Prop:=∀ t∈h,0≤t.w∧t.a≠t.b∧0≤t.a∧t.a<n∧0≤t.b∧t.b<n
instance:Inhabited Hv:=⟨⟨0,0,0⟩⟩
noncomputable def hd (N lo hi:Int):Int:=if (if N<hi then N else hi)-lo>0 then (if N<hi then N else hi)-lo else 0
noncomputable def hS (N:Int) (q:Nat→Bool) (w:Nat→Int):Int→List Nat→Int
 | _,[]=>0
 | l,i::is=>(if q i then hd N l (l+w i) else 0)+hS N q w (l+w i) is
noncomputable def sW (q:Nat→Bool) (w:Nat→Int):List Nat→Int
 | []=>0
 | i::is=>(if q i then w i else 0)+sW q w is
noncomputable def tt:Nat→Bool:=fun _=>true
section
variable {N:Int} {q:Nat→Bool} {w:Nat→Int}
theorem B7:∀ (is js:List Nat),sW q w (is++js)=sW q w is+sW q w js
 | [],js=>by rw [sW,List.nil_append,Int.zero_add]
 | i::is,js=>by rw [List.cons_append,sW,sW,B7 is js];omega
end
noncomputable abbrev En:=Nat×Int×Int
noncomputable def gT (h:List Hv) (i:Nat):Hv:=h.getD i default
noncomputable def wI (h:List Hv) (i:Nat):Int:=(gT h i).w
noncomputable def bt (x u:Int) (t:Hv):Bool:=decide (x=t.a∨x=t.b)&&decide (u=t.a∨u=t.b)
noncomputable def btw (h:List Hv) (x u:Int):List Nat:=(List.range h.length).filter fun i=>bt x u (gT h i)
noncomputable def stk (h:List Hv) (p:List Int) (x:Int):List Nat:=p.flatMap (btw h x)
theorem ve (h:List Hv) (p:List Int) (u x:Int):stk h (p++[u]) x=stk h p x++btw h x u:=by simp [stk]
noncomputable def ent (w:Nat→Int):Int→List Nat→List En
 | _,[]=>[]
 | l,i::is=>(i,l,l+w i)::ent w (l+w i) is
inductive BD (h:List Hv):List Int→List En→Prop
 | nil:BD h [] []
 | step (p:List Int) (D:List En) (v:Int):BD h p D→BD h (p++[v]) (D++ent (wI h) 0 (stk h p v))
theorem pQ {h:List Hv} {i:Nat} (hi:i<h.length):gT h i∈h:=by
 unfold gT
 rw [List.getD_eq_getElem?_getD,List.getElem?_eq_getElem hi]
 exact List.getElem_mem hi
theorem yL {h:List Hv} {x u:Int} {i:Nat} (hi:i∈btw h x u):i<h.length∧(x=(gT h i).a∨x=(gT h i).b)∧(u=(gT h i).a∨u=(gT h i).b):=by
 obtain ⟨h1,h2⟩:=List.mem_filter.mp hi
 unfold bt at h2
 rw [Bool.and_eq_true,decide_eq_true_eq,decide_eq_true_eq] at h2
 exact ⟨List.mem_range.mp h1,h2⟩
theorem Fb {h:List Hv} {p:List Int} {x:Int} {i:Nat} (hi:i∈stk h p x):∃ u∈p,i∈btw h x u:=List.mem_flatMap.mp hi
open Dm
noncomputable def w_:List Dat→Option RV:=fn 1 0
  (sR (gq (e1 (iO isI) (eV 0)) (qS (e1 (iO isB) (eV 0)))))
noncomputable def lR:List Dat→Option RV:=fn 3 0
  (sR (gq (eF w_ [(eV 0)]) (fG gLe gLe (eV 1) (eV 0) (eV 2))))
noncomputable def n_:List Dat→Option RV:=fn 1 0
  (sR (eF lR [(eV 0),(eC (.int 1)),(eC (.int 10))]))
noncomputable def gj:List Dat→Option RV:=fn 2 0
  (sR (eF lR [(eV 1),(eC (.int 0)),(e2 gX (eV 0) (eC (.int 1)))]))
noncomputable def lS:List Dat→Option RV:=fn 3 0
  (sR (gq (eF gj [(eV 0),(eV 1)]) (gq (eF gj [(eV 0),(eV 2)]) (e2 gNe (eV 1) (eV 2)))))
noncomputable def gb:List Dat→Option RV:=fn 2 0
  (aA (sIf (tOr (bY (tV (e1 (iO isT) (eV 1)))) (tV (e2 gNe (eB d8 [(eV 1)]) (eC (.int 3))))) (sR (eC (.bl false))) sNx)
  (sR (gq (eF lS [(eV 0),(e2 gIx (eV 1) (eC (.int 0))),(e2 gIx (eV 1) (eC (.int 1)))]) (gq (e2 gLt (e2 gIx (eV 1) (eC (.int 0))) (e2 gIx (eV 1) (eC (.int 1)))) (eF lR [(e2 gIx (eV 1) (eC (.int 2))),(eC (.int 1)),(e2 g8 (eC (.int 10)) (eC (.int 30)))])))))
noncomputable def vf:List Dat→Option RV:=fn 1 0
  (sIf (bY (tV (eF n_ [(eV 0)]))) (fun _=>none) sNx)
noncomputable def aS:List Dat→Bool:=fnX 1 0
  (rIf (bY (tV (eF n_ [(eV 0)]))) zY rNo)
noncomputable def lT:List Dat→Option RV:=fn 2 0
  (aA (sE (eF vf [(eV 0)]))
  (aA (sIf (tOr (bY (tV (e1 (iO isL) (eV 1)))) (tV (e2 gGt (eB d8 [(eV 1)]) (eC (.int 40))))) (fun _=>none) sNx)
  (sIf (bY (tV (eB sP [(bQ 1 1 (bN 2) cT (eF gb [(eV 0),(eV 2)]))]))) (fun _=>none) sNx)))
noncomputable def aD:List Dat→Bool:=fnX 2 0
  (a_ aS [(eV 0)])
noncomputable def aI:List Dat→Bool:=fnX 2 0
  (i_ (sE (eF vf [(eV 0)])) (rOr (rIf (tOr (bY (tV (e1 (iO isL) (eV 1)))) (tV (e2 gGt (eB d8 [(eV 1)]) (eC (.int 40))))) zY rNo) (i_ (sIf (tOr (bY (tV (e1 (iO isL) (eV 1)))) (tV (e2 gGt (eB d8 [(eV 1)]) (eC (.int 40))))) (fun _=>none) sNx) (rIf (bY (tV (eB sP [(bQ 1 1 (bN 2) cT (eF gb [(eV 0),(eV 2)]))]))) zY rNo))))
noncomputable def Fc:List Dat→Option RV:=fn 3 0
  (sR (eB pK [(bQ 0 3 (bT [3,4,5]) (tOr (fV (tV (e2 gEq (eV 3) (eV 1))) (tV (e2 gIn (eV 4) (eV 2)))) (fV (tV (e2 gEq (eV 4) (eV 1))) (tV (e2 gIn (eV 3) (eV 2))))) (eV 5))]))
noncomputable def GP:FS:=
  (aA (sA 4 (cU (iR1 (eV 0)) 1 (bN 6) (tV (e2 mT (eV 6) (eV 3))) (eV 6)))
  (aA (sA 5 (bQ 4 1 (bN 6) cT (eF Fc [(eV 1),(eV 6),(eV 3)])))
  (lz 3 (e2 gIx (eV 4) (mZ (eV 5) (eB rN [(eV 5)]))))))
noncomputable def tN:List Dat→Option RV:=fn 3 3
  (aA (sE (eF lT [(eV 0),(eV 1)]))
  (aA (sIf (bY (tV (eF gj [(eV 0),(eV 2)]))) (fun _=>none) sNx)
  (aA (sA 3 (cj [(eV 2)]))
  (aA (whD (tV (e2 gLt (eB d8 [(eV 3)]) (eV 0)))
  GP 100)
  (sR (eV 3))))))
noncomputable def bO:List Dat→Bool:=fnX 3 3
  (a_ aD [(eV 0),(eV 1)])
noncomputable def cg:List Dat→Bool:=fnX 3 3
  (a_ aI [(eV 0),(eV 1)])
noncomputable def dJ:List Dat→Bool:=fnX 3 3
  (i_ (sE (eF lT [(eV 0),(eV 1)])) (rIf (bY (tV (eF gj [(eV 0),(eV 2)]))) zY rNo))
noncomputable def B8:FS:=
  (zX 3 (cU (iEn (eV 0)) 2 (bT [5,6]) (fV (tV (e2 gIn (eV 1) (wO (eV 6) none (some (eC (.int 2)))))) (tV (e2 gIn (eV 4) (wO (eV 6) none (some (eC (.int 2))))))) (eV 5)))
noncomputable def yM:List Dat→Option RV:=fn 3 2
  (aA (sA 3 (cj []))
  (aA (gu (iS (eV 2)) (bN 4)
  B8)
  (sR (eV 3))))
noncomputable def B9:FS:=
  (aA (sA 8 (eV 6))
  (aA (sA 6 (e2 bH (eV 8) (e2 gIx (e2 gIx (eV 1) (eV 7)) (eC (.int 2)))))
  (pD 3 (eV 7) (bz [(eV 8),(eV 6)]))))
noncomputable def B_:FS:=
  (aA (sA 6 (eC (.int 0)))
  (gu (iS (eF yM [(eV 1),(eV 5),(eSl (eV 2) none (some (eV 4)))])) (bN 7)
  B9))
noncomputable def pR:List Dat→Option RV:=fn 3 6
  (aA (sE (eF lT [(eV 0),(eV 1)]))
  (aA (sA 3 eDn)
  (aA (gu (iEn (eV 2)) (bT [4,5])
  B_)
  (sR (cU (iR1 (eB d8 [(eV 1)])) 1 (bN 9) cT (e2 gDx (eV 3) (eV 9)))))))
noncomputable def cu:List Dat→Bool:=fnX 3 6
  (a_ aD [(eV 0),(eV 1)])
noncomputable def dM:List Dat→Bool:=fnX 3 6
  (a_ aI [(eV 0),(eV 1)])
noncomputable def Ca:FS:=
  (sIf (tV (e2 nQ (e2 gIx (eV 5) (eC (.int 1))) (eV 2))) (aA (pD 2 (e2 gIx (eV 5) (eC (.int 1))) (e2 bH (e2 gDx (eV 2) (eV 4)) (cj [(eV 5)])))
  (lz 3 (e2 gIx (eV 5) (eC (.int 1))))) sNx)
noncomputable def Cb:FS:=
  (aA (sA 4 (mY 3 (eC (.int 0))))
  (gu (iS (e2 gIx (eV 0) (eV 4))) (bN 5)
  Ca))
noncomputable def lU:List Dat→Option RV:=fn 2 4
  (aA (sA 2 (eD1 (eV 1) (cj [])))
  (aA (sA 3 (cj [(eV 1)]))
  (aA (whD (tTr (eV 3))
  Cb 100)
  (sR (eV 2)))))
noncomputable def yN:List Dat→Option RV:=fn 2 0
  (sR (eB pK [(bQ 0 3 (bT [2,3,4]) (tV (e2 gNe (e2 gIn (eV 2) (eV 1)) (e2 gIn (eV 3) (eV 1)))) (eV 4))]))
noncomputable def lV:List Dat→Option RV:=fn 3 0
  (sR (e2 gX (e2 gIx (e2 gIx (eV 0) (e2 gIx (eV 2) (eC (.int 0)))) (eC (.int 2))) (e2 fN (e2 gIx (eV 2) (eC (.int 1))) (e2 gIx (eV 1) (e2 gIx (eV 2) (eC (.int 0)))))))
noncomputable def j7:FN:=
  (BN (nIf (tV (e2 gGt (eF lV [(eV 1),(eV 2),(bz [(eV 4),(eC (.int 1))])]) (eC (.int 0)))) (tG (e2 gIx (eV 5) (eC (.int 0))) (bz [(bz [(eV 4),(eC (.int 1))]),(e2 gIx (eV 5) (eC (.int 1)))])) nNx)
  (nIf (tV (e2 gGt (eF lV [(eV 1),(eV 2),(bz [(eV 4),(e1 iP (eC (.int 1)))])]) (eC (.int 0)))) (tG (e2 gIx (eV 5) (eC (.int 1))) (bz [(bz [(eV 4),(e1 iP (eC (.int 1)))]),(e2 gIx (eV 5) (eC (.int 0)))])) nNx))
noncomputable def nU:List Dat→Option RV:=fn 3 3
  (aA (pN 3 (iR1 (eV 0)) 1 (bN 6) (u6 (iEn (eV 1)) (bT [4,5])
  j7))
  (sR (eV 3)))
noncomputable def xg:FS:=
  (mQ 4 (eV 9) (e2 bH (e2 gIx (eV 4) (eV 9)) (e2 fN (eV 10) (eV 8))))
noncomputable def Cc:FS:=
  (aA (sA 7 (cU (iS (e2 gDx (eV 6) (eV 2))) 1 (bN 11) cT (e2 gIx (eV 11) (eC (.int 0)))))
  (aA (sA 8 (eB rQ [(e2 bH (bQ 7 1 (bN 11) cT (eFk 1 lV [(eV 1),(eV 4),(eV 11)])) (cj [(e2 gX (eV 3) (eV 5))]))]))
  (aA (gu (iS (eV 7)) (bT [9,10])
  xg)
  (aA (sA 5 (e2 bH (eV 5) (eV 8)))
  (sA 6 (eF lU [(eFk 1 nU [(eV 0),(eV 1),(eV 4)]),(eC (.int 0))]))))))
noncomputable def pS:List Dat→Option RV:=fn 4 7
  (aA (sA 4 (bQ 1 1 (bN 11) cT (eC (.int 0))))
  (aA (sA 5 (eC (.int 0)))
  (aA (sA 6 (eF lU [(eFk 1 nU [(eV 0),(eV 1),(eV 4)]),(eC (.int 0))]))
  (aA (whD (fV (tV (e2 gLt (eV 5) (eV 3))) (tV (e2 Bu (eV 2) (eV 6))))
  Cc 10000000000000000000000000000000000000000)
  (sR (bz [(eV 5),(eV 4),(eB e7 [(cU (iR1 (eV 0)) 1 (bN 11) (tV (e2 nQ (eV 11) (eV 6))) (eV 11))])]))))))
noncomputable def Cd:FS:=
  (aA (sA 5 (eF pS [(eV 0),(eV 1),(eV 4),(eV 3)]))
  (sIf (tV (e2 gLt (e2 gIx (eV 5) (eC (.int 0))) (eV 3))) (aA (sA 3 (e2 gIx (eV 5) (eC (.int 0))))
  (sA 2 (e2 gIx (eV 5) (eC (.int 2))))) sNx))
noncomputable def lW:List Dat→Option RV:=fn 2 4
  (aA (sE (eF lT [(eV 0),(eV 1)]))
  (aA (sIf (tV (e2 gEq (eV 0) (eC (.int 1)))) (sR (eC .non)) sNx)
  (aA (sA 2 (eB rR [(eC (.int 1)),(eV 0)]))
  (aA (sA 3 (eF yN [(eV 1),(eV 2)]))
  (aA (gu (iR2 (eC (.int 1)) (eV 0)) (bN 4)
  Cd)
  (sR (bz [(eV 3),(eV 2),(cU (iR2 (eC (.int 1)) (eV 0)) 1 (bN 6) cT (e2 gIx (eF pS [(eV 0),(eV 1),(eV 6),(eV 3)]) (eC (.int 1))))])))))))
noncomputable def bP:List Dat→Bool:=fnX 2 4
  (a_ aD [(eV 0),(eV 1)])
noncomputable def bZ:List Dat→Bool:=fnX 2 4
  (a_ aI [(eV 0),(eV 1)])
noncomputable def vg:List Dat→Option RV:=fn 2 0
  (aA (sIf (tV (e2 gLt (eV 1) (eB d8 [(eV 0)]))) (sR (e2 gIx (eV 0) (eV 1))) sNx)
  (sR (eC (.int 0))))
noncomputable def Ce:FS:=
  (aA (sA 5 (e2 g7 (e2 fN (e2 bH (e2 bH (e2 bH (e2 g7 (eV 2) (eC (.int 998244353))) (e2 fN (e2 fN (eC (.int 89)) (eV 4)) (eV 4))) (e2 fN (eC (.int 7)) (eV 1))) (eC (.int 1))) (eC (.int 48271))) (eC (.int 2147483647))))
  (aA (sA 5 (e2 g7 (e2 fN (eV 5) (eV 5)) (eC (.int 1000000007))))
  (aA (sA 5 (e2 g7 (e2 fN (e2 bH (eV 5) (e2 fN (eC (.int 7919)) (eV 4))) (eC (.int 69621))) (eC (.int 2147483587))))
  (sA 3 (e2 bH (e2 fN (eV 3) (eC (.int 1000003))) (e2 g7 (e2 mS (eV 5) (eC (.int 8))) (eC (.int 1000003))))))))
noncomputable def vh:List Dat→Option RV:=fn 2 4
  (aA (sA 2 (eF vg [(eV 0),(eV 1)]))
  (aA (sIf (tV (e2 gGe (eV 2) (e2 g8 (eC (.int 10)) (eC (.int 18))))) (sR (cj [(eV 2)])) sNx)
  (aA (sA 3 (eC (.int 0)))
  (aA (gu (iR1 (eC (.int 48))) (bN 4)
  Ce)
  (sR (cj [(eV 3)]))))))
noncomputable def bW:List Dat→Option (RV×Dat):=fnM 2 1
  (aA (sA 2 (e2 g7 (e2 gIx (eV 0) (eC (.int 0))) (eV 1)))
  (aA (mQ 0 (eC (.int 0)) (e2 mS (e2 gIx (eV 0) (eC (.int 0))) (eV 1)))
  (sR (eV 2))))
noncomputable def Cf:FS:=
  (aA (sA 6 (eFm bW 0 [(eV 1)]))
  (aA (sA 7 (e2 g7 (e2 bH (e2 bH (eV 6) (eC (.int 1))) (eFm bW 0 [(e2 gX (eV 1) (eC (.int 1)))])) (eV 1)))
  (aA (sIf (fV (tV (e2 gEq (eV 3) (eC (.int 3)))) (tV (e2 gEq (eFm bW 0 [(eC (.int 2))]) (eC (.int 0))))) (sA 7 (e2 g7 (e2 bH (eV 6) (eC (.int 1))) (eV 1))) sNx)
  (aA (sA 8 (e2 bH (eC (.int 1)) (eFm bW 0 [(e2 gIx (cj [(eC (.int 1)),(eC (.int 3)),(eC (.int 9)),(eC (.int 1000))]) (eV 3))])))
  (aA (sIf (tV (e2 gEq (eV 3) (eC (.int 3)))) (sA 8 (e2 gX (e2 fN (eV 8) (e2 g8 (eC (.int 10)) (eC (.int 27)))) (eFm bW 0 [(eC (.int 3))]))) sNx)
  (lz 4 (bz [(eB gJ [(eV 6),(eV 7)]),(eB iJ [(eV 6),(eV 7)]),(eV 8)])))))))
noncomputable def vj:List Dat→Option (RV×Dat):=fnM 3 6
  (aA (sA 3 (eFm bW 0 [(eC (.int 4))]))
  (aA (sA 4 (cj []))
  (aA (sIf (tV (e2 gLt (eV 1) (eC (.int 2)))) (sR (eV 4)) sNx)
  (aA (gu (iR1 (eFm bW 0 [(e2 bH (eV 2) (eC (.int 1)))])) (bN 5)
  Cf)
  (sR (eV 4))))))
noncomputable def rX (av aF aG:Nat):List Dat→Option RV:=fn 2 1
  (aA (sA 2 (cj [(e1 (d_ [av,aF,aG] [true,false,false]) (eV 0)),(e1 (d_ [av,aF,aG] [false,true,false]) (eV 0)),(e1 (d_ [av,aF,aG] [false,false,false]) (eV 0))]))
  (aA (sA 2 (e2 bH (eV 2) (cj [(e1 (d_ [av,aF,aG] [false,false,true]) (eV 0)),(e1 (d_ [av,aF,aG] [false,false,false]) (eV 0)),(e1 (d_ [av,aF,aG] [false,false,false]) (eV 0))])))
  (aA (sA 2 (e2 bH (eV 2) (cj [(e1 (d_ [av,aF,aG] [false,false,false]) (eV 0)),(e1 (d_ [av,aF,aG] [false,false,false]) (eV 0)),(e1 (d_ [av,aF,aG] [false,false,false]) (eV 0))])))
  (aA (sA 2 (e2 bH (eV 2) (cj [(e1 (d_ [av,aF,aG] [false,false,false]) (eV 0)),(e1 (d_ [av,aF,aG] [false,false,false]) (eV 0))])))
  (sR (gq (e2 gEq (eV 2) (cU (iR1 (eC (.int 11))) 1 (bN 3) cT (e2 gEq (eV 3) (eV 1)))) (e1 (d_ [av,aF,aG] [true,true,true]) (eV 0))))))))
noncomputable def rY:List Dat→Option (RV×Dat):=fnM 2 3
  (aA (sA 2 (eFm bW 0 [(eV 1)]))
  (aA (sA 3 (eB gJ [(e2 bH (eV 2) (eC (.int 1))),(eV 1)]))
  (aA (sA 4 (cj [(bz [(eV 3),(eV 2),(eC (.int 1))]),(bz [(eV 2),(eV 2),(eC (.int 1))]),(bz [(eV 2),(eV 1),(eC (.int 1))]),(bz [(e1 iP (eC (.int 1))),(eV 2),(eC (.int 1))]),(bz [(eV 2),(e2 bH (eV 1) (eFm bW 0 [(e2 g8 (eC (.int 10)) (eC (.int 9)))])),(eC (.int 1))]),(bz [(eV 2),(eV 3),(eC (.int 0))]),(bz [(eV 2),(eV 3),(e1 iP (eC (.int 2)))])]))
  (aA (sA 4 (e2 bH (eV 4) (cj [(bz [(eV 2),(eV 3),(e2 bH (e2 g8 (eC (.int 10)) (eC (.int 30))) (eC (.int 1)))]),(bz [(eV 2),(eV 3),(eC (.bl true))]),(bz [(eC (.bl true)),(eC (.int 2)),(eC (.int 1))]),(bz [(eV 2),(eV 3),(eC (.str [49]))]),(bz [(eV 2),(eV 3)]),(bz [(eV 2),(eV 3),(eC (.int 1)),(eC (.int 1))]),(cj [(eV 2),(eV 3),(eC (.int 1))])])))
  (aA (sA 4 (e2 bH (eV 4) (cj [(eC .non),(eV 2),(bz []),(bz [(eC (.str [48])),(eV 3),(eC (.int 1))]),(bz [(eV 2),(eC .non),(eC (.int 1))]),(bz [(eV 2),(eV 3),(eC .non)]),(bz [(eC (.bl false)),(eV 3),(eC (.int 1))]),(bz [(eC (.int 0)),(eC (.bl true)),(eC (.int 1))])])))
  (sR (e2 gIx (eV 4) (eFm bW 0 [(eB d8 [(eV 4)])]))))))))
noncomputable def vm:List Dat→Option (RV×Dat):=fnM 3 2
  (aA (sA 3 (eFm bW 0 [(eC (.int 6))]))
  (aA (sA 4 (eFm bW 0 [(e2 bH (eB d8 [(eV 2)]) (eC (.int 1)))]))
  (aA (sIf (tV (e2 gEq (eV 3) (eC (.int 0)))) (sR (e2 gIx (cj [(eB e7 [(eV 2)]),(eC .non),(eC (.int 7)),eDn,(eC (.str [])),(eC (.str [48,32,49,32,49]))]) (eFm bW 0 [(eC (.int 6))]))) sNx)
  (aA (sIf (fV (tV (e2 gEq (eV 3) (eC (.int 1)))) (tV (e2 gGt (eV 1) (eC (.int 1))))) (sR (e2 fN (cj [(bz [(eC (.int 0)),(eC (.int 1)),(eC (.int 1))])]) (e2 bH (eC (.int 41)) (eFm bW 0 [(eC (.int 4))])))) sNx)
  (sR (e2 bH (e2 bH (eSl (eV 2) none (some (eV 4))) (cj [(eFm rY 0 [(eV 1)])])) (eSl (eV 2) (some (eV 4)) none)))))))
noncomputable def rZ (av aF aG:Nat):List Dat→Option RV:=fn 4 3
  (aA (sA 4 (eC .non))
  (aA (sA 5 (eC .non))
  (aA (sUn (sIf (tV (e2 gEq (eV 0) (eC (.int 0)))) (sA 5 (eF lT [(eV 1),(eV 2)])) (sIf (tV (e2 gEq (eV 0) (eC (.int 1)))) (sE (eF (fun ds=>tN (ds++[.int 0])) [(eV 1),(eV 2)])) (sIf (tV (e2 gEq (eV 0) (eC (.int 2)))) (sE (eF pR [(eV 1),(eV 2),(eV 3)])) (sE (eF lW [(eV 1),(eV 2)]))))) (sUn (gP (rIf (tV (e2 gEq (eV 0) (eC (.int 0)))) (a_ aD [(eV 1),(eV 2)]) (rIf (tV (e2 gEq (eV 0) (eC (.int 1)))) (a_ (fun ds=>bO (ds++[.int 0])) [(eV 1),(eV 2)]) (rIf (tV (e2 gEq (eV 0) (eC (.int 2)))) (a_ cu [(eV 1),(eV 2),(eV 3)]) (a_ bP [(eV 1),(eV 2)])))) av 6 (sA 4 (eV 6))) (sUn (gP (rIf (tV (e2 gEq (eV 0) (eC (.int 0)))) (a_ aI [(eV 1),(eV 2)]) (rIf (tV (e2 gEq (eV 0) (eC (.int 1)))) (a_ (fun ds=>cg (ds++[.int 0])) [(eV 1),(eV 2)]) (rIf (tV (e2 gEq (eV 0) (eC (.int 2)))) (a_ dM [(eV 1),(eV 2),(eV 3)]) (a_ bZ [(eV 1),(eV 2)])))) aF 6 (sA 4 (eV 6))) (gP (rIf (tV (e2 gEq (eV 0) (eC (.int 0)))) rNo (rIf (tV (e2 gEq (eV 0) (eC (.int 1)))) (a_ (fun ds=>dJ (ds++[.int 0])) [(eV 1),(eV 2)]) rNo)) aG 6 (sA 4 (eV 6))))))
  (sR (bz [(eV 4),(eV 5)])))))
noncomputable def jW (av aF aG:Nat):List Dat→Option RV:=fn 3 2
  (aA (sA 3 (eC .non))
  (aA (sUn (sE (eF tN [(eV 0),(eV 1),(eV 2)])) (sUn (gP (a_ bO [(eV 0),(eV 1),(eV 2)]) av 4 (sA 3 (eV 4))) (sUn (gP (a_ cg [(eV 0),(eV 1),(eV 2)]) aF 4 (sA 3 (eV 4))) (gP (a_ dJ [(eV 0),(eV 1),(eV 2)]) aG 4 (sA 3 (eV 4))))))
  (sR (eV 3))))
noncomputable def xh (av aF aG:Nat):FS:=
  (aA (sU [5,6] (eF (rZ av aF aG) [(eV 4),(eV 0),(eV 1),(eV 2)]))
  (sIf (tOr (tV (e2 pG (eV 6) (eC .non))) (tOr (fV (tV (e2 gLt (eV 3) (eC (.int 11)))) (bY (tV (eF (rX av aF aG) [(eV 5),(eV 3)])))) (fV (tV (e2 gEq (eV 3) (eC (.int 11)))) (tV (e2 pG (eV 5) (eC .non)))))) (sR (eC (.bl false))) sNx))
noncomputable def lX (av aF aG:Nat):List Dat→Option RV:=fn 4 3
  (aA (gu (iR1 (eC (.int 4))) (bN 4)
  (xh av aF aG))
  (sR (eC (.bl true))))
noncomputable def xj (av aF aG:Nat):FS:=
  (aA (sA 2 (eF vh [(eV 0),(eV 1)]))
  (aA (sA 3 (e2 bH (eC (.int 1)) (eFm bW 2 [(eC (.int 6))])))
  (aA (sA 4 (eFm vj 2 [(eV 3),(eC (.int 8))]))
  (aA (sA 5 (eB rJ [(eV 3)]))
  (aA (sA 6 (eB iW [(eV 4)]))
  (aA (sA 7 (cj [(eC (.int 0)),(eC (.int 11)),(e2 gX (e1 iP (eC (.int 1))) (eFm bW 2 [(eC (.int 9))])),(e2 bH (eC (.int 11)) (eFm bW 2 [(e2 g8 (eC (.int 10)) (eC (.int 59)))])),(eC (.bl true)),(eC (.bl false)),(eC .non),(eC (.str [51])),(cj [(eV 3)]),(bz [(eV 3)])]))
  (aA (sA 8 (e2 gIx (eV 7) (eFm bW 2 [(eC (.int 10))])))
  (aA (sA 9 (eFm vm 2 [(eV 3),(eV 4)]))
  (aA (sIf (tOr (bY (tV (eF (lX av aF aG) [(eV 3),(eV 6),(eV 5),(eC (.int 11))]))) (bY (tV (eF (lX av aF aG) [(eV 8),(eV 6),(eV 5),(eC (.int 0))])))) (sR (eC (.bl false))) sNx)
  (aA (sIf (tOr (bY (tV (eF (lX av aF aG) [(eV 8),(eV 9),(eV 5),(eC (.int 0))]))) (bY (tV (eF (lX av aF aG) [(eV 3),(eV 9),(eV 5),(eC (.int 1))])))) (sR (eC (.bl false))) sNx)
  (aA (sA 7 (cj [(eV 3),(e1 iP (eC (.int 1))),(e2 bH (eV 3) (eFm bW 2 [(e2 g8 (eC (.int 10)) (eC (.int 9)))])),(eC (.bl true)),(eC (.bl false)),(eC .non),(eC (.str [48])),(cj [(eC (.int 0))]),(bz [(eC (.int 0))])]))
  (aA (sA 8 (e2 gIx (eV 7) (eFm bW 2 [(eC (.int 9))])))
  (aA (sIf (tOr (bY (tV (eF (rX av aF aG) [(eF (jW av aF aG) [(eV 3),(eV 6),(eV 8)]),(eC (.int 3))]))) (bY (tV (eF (rX av aF aG) [(eF (jW av aF aG) [(eV 3),(eV 9),(eV 8)]),(eC (.int 1))])))) (sR (eC (.bl false))) sNx)
  (sIf (tOr (tV (e2 pG (eF (jW av aF aG) [(eV 3),(eV 6),(eFm bW 2 [(eV 3)])]) (eC .non))) (tV (e2 gNe (eV 6) (eV 4)))) (sR (eC (.bl false))) sNx))))))))))))))
noncomputable def pT (av aF aG:Nat):List Dat→Option RV:=fn 1 9
  (aA (gu (iR1 (eB iJ [(eC (.int 1)),(eB gJ [(eC (.int 8)),(eB d8 [(eV 0)])])])) (bN 1)
  (xj av aF aG))
  (sR (eC (.bl true))))
open Dm Fl
noncomputable def m9 (m:Int):Dat:=.tup [.int (m / 2),.int (if m % 2=0 then 1 else -1)]
noncomputable def cy (s:Step):Dat:=.tup [m9 s.1,.int s.2]
noncomputable def j8 (w:List Step):Dat:=.lst (w.map cy)
noncomputable def lY (n:Nat) (R:Int→List Step):Dat:=.lst ((List.range n).map fun i:Nat=>j8 (R i))
theorem Fd (ks:List Int) (i:Int):(ks.any fun k=>decide (k=i))=decide (i∈ks):=by
 induction ks with
 | nil=>rfl
 | cons k ks ih=>
  rw [List.any_cons,ih]
  by_cases h:k=i
  ·simp [h]
  ·have h':¬ i=k:=fun z=>h z.symm
   simp [h,h']
theorem yO {ks:List Int} {vs:List Dat} {i:Int} {d:Dat} (h:i∉ks):lK ks i=ks++[i]∧lM ks vs i d=vs++[d]:=by
 unfold lK lM
 rw [Fd,decide_eq_false h]
 exact ⟨rfl,rfl⟩
theorem Ag {α:Type} (key:α→Int) (val:α→Dat) (xs:List α) (i:Int):dB (xs.map key) (xs.map val) i=(xs.find? fun x=>decide (key x=i)).map val:=by
 induction xs with
 | nil=>rfl
 | cons x xs ih=>
  rw [List.map_cons,List.map_cons,dB,List.find?_cons]
  by_cases h:key x=i
  ·simp [h]
  ·simp [h,ih]
theorem ff {α:Type} [DecidableEq α]:∀ (l m:List α),l.Nodup→(∀ x∈l,x∈m)→l.length≤m.length
 | [],_,_,_=>Nat.zero_le _
 | x::l,m,h,k=>by
  obtain ⟨h1,h2⟩:=List.nodup_cons.mp h
  have hx:x∈m:=k x List.mem_cons_self
  have:=ff l (m.erase x) h2 fun y hy=>(List.mem_erase_of_ne (fun e:y=x=>h1 (by rw [← e];exact hy))).mpr (k y (List.mem_cons_of_mem _ hy))
  rw [List.length_erase_of_mem hx] at this
  have:=List.length_pos_of_mem hx
  simp
  omega
noncomputable def places (n:Nat):List Int:=(List.range n).map fun i:Nat=>(i:Int)
theorem places_len (n:Nat):(places n).length=n:=by simp [places]
theorem ir (n:Nat) (x:Int):x∈places n↔0≤x∧x<n:=by
 unfold places
 rw [List.mem_map]
 constructor
 ·rintro ⟨i,hi,rfl⟩
  have:=List.mem_range.mp hi
  omega
 ·rintro ⟨h0,h1⟩
  exact ⟨x.toNat,List.mem_range.mpr (by omega),by omega⟩
noncomputable abbrev Sr:=List (Int×List Step)
noncomputable def sk (s:Sr):List Int:=s.map (·.1)
noncomputable def sv (s:Sr):List Dat:=s.map fun e=>j8 e.2
noncomputable def InR (R:Int→List Step) (p:Int) (s:Step):Prop:=s∈R p
structure Jy (R:Int→Step→Prop) (a:Int) (w:List Step) (p:Int):Prop where
 way:Way R a w p
 nd:(a::w.map (·.2)).Nodup
structure Fnd (n:Nat) (R:Int→List Step) (a:Int) (s:Sr):Prop where
 nd:(sk s).Nodup
 pl:∀ x∈sk s,0≤x∧x<n
 st:a∈sk s
 way:∀ e∈s,Jy (InR R) a e.2 e.1∧∀ x∈a::e.2.map (·.2),x∈sk s
theorem Fnd.len {n:Nat} {R:Int→List Step} {a:Int} {s:Sr} (h:Fnd n R a s):s.length≤n:=by
 have:=ff (sk s) (places n) h.nd fun x hx=>(ir n x).mpr (h.pl x hx)
 rw [places_len] at this
 simpa [sk] using this
theorem Fnd.L5 {n:Nat} {R:Int→List Step} {a:Int} {s:Sr} (h:Fnd n R a s) {e:Int×List Step} (he:e∈s):e.2.length<s.length:=by
 obtain ⟨h1,h2⟩:=h.way e he
 have:=ff (a::e.2.map (·.2)) (sk s) h1.nd h2
 simp [sk] at this
 omega
theorem fQ (s:Sr) (x:Int) (w:List Step):sk (s++[(x,w)])=sk s++[x]:=by simp [sk]
theorem Fe (s:Sr) (x:Int) (w:List Step):sv (s++[(x,w)])=sv s++[j8 w]:=by simp [sv]
theorem xm (s:Sr) (x:Int):(∃ w,(x,w)∈s∧dB (sk s) (sv s) x=some (j8 w))∨(x∉sk s∧dB (sk s) (sv s) x=none):=by
 unfold sk sv
 rw [Ag (fun e:Int×List Step=>e.1) (fun e=>j8 e.2) s x]
 cases hf:s.find? fun e=>decide (e.1=x) with
 | none=>
  refine Or.inr ⟨fun h=>?_,rfl⟩
  obtain ⟨e,he,hx⟩:=List.mem_map.mp h
  have:=List.find?_eq_none.mp hf e he
  simp [hx] at this
 | some e=>
  have h1:=List.mem_of_find?_eq_some hf
  have h2:=List.find?_some hf
  have h2:e.1=x:=by simpa using h2
  exact Or.inl ⟨e.2,by rw [← h2];exact h1,rfl⟩
theorem nV (s:Sr) (x:Int):(dB (sk s) (sv s) x).isSome=decide (x∈sk s):=by
 rcases xm s x with ⟨ts,h1,h2⟩ | ⟨h1,h2⟩
 ·have:x∈sk s:=List.mem_map.mpr ⟨_,h1,rfl⟩
  rw [h2,decide_eq_true this];rfl
 ·rw [h2,decide_eq_false h1];rfl
theorem Fnd.start {n:Nat} {R:Int→List Step} {a:Int} (a0:0≤a) (a1:a<n):Fnd n R a [(a,[])] where
 nd:=by simp [sk]
 pl:=by intro x hx;simp [sk] at hx;subst hx;exact ⟨a0,a1⟩
 st:=by simp [sk]
 way:=by
  intro e he
  simp at he
  subst he
  exact ⟨⟨rfl,by simp⟩,by simp [sk]⟩
theorem Fnd.step {n:Nat} {R:Int→List Step} {a:Int} {s:Sr} (h:Fnd n R a s) {p:Int} {w:List Step} (hp:(p,w)∈s) {u:Step} (hu:u∈R p) (hn:u.2∉sk s) (u0:0≤u.2) (u1:u.2<n):Fnd n R a (s++[(u.2,w++[u])]) where
 nd:=by
  rw [fQ]
  exact List.nodup_append.mpr ⟨h.nd,by simp,fun x hx y hy=>by rw [List.mem_singleton.mp hy];exact fun e=>hn (e▸hx)⟩
 pl:=by
  intro x hx
  rw [fQ] at hx
  rcases List.mem_append.mp hx with hx | hx
  ·exact h.pl x hx
  ·rw [List.mem_singleton.mp hx];exact ⟨u0,u1⟩
 st:=by rw [fQ];exact List.mem_append_left _ h.st
 way:=by
  intro e he
  rw [fQ]
  rcases List.mem_append.mp he with he | he
  ·obtain ⟨k1,k2⟩:=h.way e he
   exact ⟨k1,fun x hx=>List.mem_append_left _ (k2 x hx)⟩
  ·rw [List.mem_singleton.mp he]
   obtain ⟨k1,k2⟩:=h.way _ hp
   refine ⟨⟨k1.way.snoc hu,?_⟩,fun x hx=>?_⟩
   ·dsimp only at k1 k2 ⊢
    rw [List.map_append,← List.cons_append]
    exact List.nodup_append.mpr ⟨k1.nd,by simp,fun x hx y hy=>by rw [List.mem_singleton.mp hy];exact fun e:x=u.2=>hn (by rw [← e];exact k2 x hx)⟩
   ·dsimp only at k1 k2 hx ⊢
    rw [List.map_append,← List.cons_append] at hx
    rcases List.mem_append.mp hx with hx | hx
    ·exact List.mem_append_left _ (k2 x hx)
    ·exact List.mem_append_right _ (by simpa using hx)
noncomputable def Done (R:Int→List Step) (K:List Int) (x:Int):Prop:=∀ u∈R x,u.2∈K
noncomputable def Ff (n:Nat) (R:Int→List Step) (a:Int) (s:Sr) (ps:List Int) (c4 c5:Cell):Env:=[.sh (lY n R),.sh (.int a),.ow (.dct (sk s) (sv s)),.ow (.lst (ps.map Dat.int)),c4,c5]
theorem Jz {ps:List Int} {p0:Int} {i:Nat} {e:FE} {ρ ρ2:Env} {Q:Val→Env→Prop} (q:Q (.val (.int p0)) ρ2) (h:ρ[i]?=some (.ow (.lst ((p0::ps).map Dat.int)))) (he:e ρ=some (.val (.int 0),ρ)) (hs:ρ.set i (.ow (.lst (ps.map Dat.int)))=ρ2):We (mY i e) ρ Q:=
 ⟨_,_,by
  unfold mY
  rw [h]
  dsimp only
  rw [he]
  dsimp only
  rw [h]
  dsimp only
  rw [if_pos (by unfold BIG;omega)]
  show some (Val.val (.int p0),ρ.set i (.ow (.lst (ps.map Dat.int))))=_
  rw [hs],q⟩
theorem Fg (n:Nat) (R:Int→List Step) (x:Int) (h0:0≤x) (h1:x<n):gIx (lY n R) (.int x)=some (.val (j8 (R x))):=by
 unfold lY gIx
 dsimp only
 rw [jK (fun i:Nat=>j8 (R i)) (List.range n) x h0 (by rw [List.length_range];exact h1)]
 have e:(((List.range n)[x.toNat]'(by rw [List.length_range];omega):Nat):Int)=x:=by rw [List.getElem_range];omega
 rw [e]
 rfl
theorem vn (n:Nat) (hn:n≤40) (R:Int→List Step) (hR:∀ i:Int,0≤i→i<n→∀ u∈R i,0≤u.2∧u.2<n) (a:Int) (a0:0≤a) (a1:a<n) :
  ∃ s:Sr,lU [lY n R,.int a]=some (.new (.dct (sk s) (sv s)))∧Fnd n R a s∧∀ x∈sk s,Done R (sk s) x:=by
 suffices h:Wr (lU [lY n R,.int a]) fun v=>∃ s:Sr,v=.new (.dct (sk s) (sv s))∧Fnd n R a s∧∀ x∈sk s,Done R (sk s) x by
  obtain ⟨v,h1,s,rfl,h2⟩:=h
  exact ⟨s,h1,h2⟩
 unfold lU
 (refine Dm.Wr.fn ?_ rfl rfl;dsimp only [List.map,List.replicate,List.cons_append,List.nil_append])
 repeat array_get_dec
 refine Ws.wh (fun k ρ=>∃ (s:Sr) (ps:List Int) (c4 c5:Cell),ρ=Ff n R a s ps c4 c5∧Fnd n R a s∧(∀ x∈ps,x∈sk s)∧(∀ x∈sk s,x∈ps∨Done R (sk s) x)∧k=ps.length+(n-s.length)∧k≤40) ?_ 100 n _ (by omega) ⟨[(a,[])],[a],_,_,rfl,Fnd.start a0 a1,by simp [sk],by simp [sk],by simp;omega,hn⟩
 rintro k ρ ⟨s,ps,c4,c5,rfl,F,hps,hd,hk,NL⟩
 unfold Ff
 refine Wt.Tr ?_
 refine We.w rfl ?_
 refine ⟨_,!(ps.map Dat.int).isEmpty,rfl,rfl,?_⟩
 have len:=F.len
 cases ps with
 | nil=>
  refine Wif.no rfl ?_
  refine Ws.R (We.w rfl (WR.slot ?_ rfl))
  exact ⟨s,rfl,F,fun x hx=>(hd x hx).resolve_left (by simp)⟩
 | cons p0 ps0=>
  refine Wif.yes rfl ?_
  unfold Cb
  refine Ws.seq (Ws.A ?_ (by decide))
  refine Jz (ps:=ps0) (p0:=p0) ?_ rfl rfl rfl
  refine WA.val ?_ (by first | (dsimp only [List.set];first | done | rfl) | rfl)
  have hp0:p0∈sk s:=hps p0 (by simp)
  obtain ⟨q0,q1⟩:=F.pl p0 hp0
  refine Ws.For (Wi.S (We.e2 (We.v rfl (We.v rfl (Wg2.ix ?_ rfl rfl (Fg n R p0 q0 q1))))))
  refine Wk.val (yI ?_)
  refine Ws.inv cy _ _ (R p0) _ _ _ _ _ (fun p q ρ=>∃ (s:Sr) (ps:List Int) (c5:Cell),ρ=Ff n R a s ps (.sh (.int p0)) c5∧Fnd n R a s∧(∀ x∈ps,x∈sk s)∧p0∈sk s∧(∀ x∈sk s,x∈ps∨x=p0∨Done R (sk s) x)∧(∀ u∈p,u.2∈sk s)∧k=ps.length+1+(n-s.length)) ⟨s,ps0,_,rfl,F,fun x hx=>hps x (by simp [hx]),hp0,?_,by simp,by rw [hk];simp⟩ ?_ ?_
  ·intro x hx
   rcases hd x hx with h | h
   ·rcases List.mem_cons.mp h with h | h
    ·exact .inr (.inl h)
    ·exact .inl h
   ·exact .inr (.inr h)
  ·rintro p u q ρ e' ⟨s,ps,c5,rfl,F,hps,hp0,hd,hp,hk⟩
   have len:=F.len
   have hu:u∈R p0:=by rw [e'];simp
   obtain ⟨u0,u1⟩:=hR p0 q0 q1 u hu
   unfold Ff
   refine Dm.eu rfl (by first | (dsimp only [List.set];first | done | rfl) | rfl) ?_
   unfold Ca
   refine Ws.If (Wt.V (We.e2 (We.e2 (We.v rfl (We.c (Wg2.ix ?_ rfl rfl rfl))))))
   refine We.w rfl (Wg2.Jt ?_ rfl rfl)
   refine Wb.mk ?_
   rw [nV]
   refine ⟨fun h=>?_,fun h=>?_⟩
   ·have hnew:=ndT h
    obtain ⟨w,t1,t2⟩:∃ w,(p0,w)∈s∧dB (sk s) (sv s) p0=some (j8 w):=by
     rcases xm s p0 with h | h
     ·exact h
     ·exact absurd hp0 h.1
    have wl:=F.L5 t1
    refine Ws.seq (Ws.LU (We.e2 (We.e2 (We.w rfl (We.v rfl (Wg2.dx t2 ?_ rfl rfl))))))
    refine We.L (Was.cons (We.v rfl (Was.nil (WT.mk ?_ rfl rfl (by exact Nat.le_of_ble_eq_true rfl)))))
    refine Wg2.tL ?_ rfl rfl (by rw [List.length_map];dsimp only at wl;simp;unfold SZ;omega)
    refine Wk.new (B5 rfl (We.e2 (We.v rfl (We.c (Wg2.ix ?_ rfl rfl rfl)))))
    refine cB.mk (yG ?_ rfl (by first | (dsimp only [List.set];first | done | rfl) | rfl) (by simp only [sk,List.length_map];unfold SZ;omega))
    refine Ws.App (We.e2 (We.v rfl (We.c (Wg2.ix ?_ rfl rfl rfl)))) rfl
    refine Wk.val (B3 ?_ rfl (by first | (dsimp only [List.set];first | done | rfl) | rfl) (by rw [List.length_map];unfold SZ;omega))
    have F':=F.step t1 hu hnew u0 u1
    have len':=F'.len
    have em:Dat.lst (w.map cy++[cy u])=j8 (w++[u]):=by simp [j8]
    obtain ⟨p1,p2⟩:=yO (ks:=sk s) (vs:=sv s) (i:=u.2) (d:=j8 (w++[u])) hnew
    refine ⟨s++[(u.2,w++[u])],ps++[u.2],.sh (cy u),?_,F',?_,?_,?_,?_,?_⟩
    ·rw [em,p1,p2,fQ,Fe,List.map_append]
     rfl
    ·intro x hx
     rw [fQ]
     rcases List.mem_append.mp hx with hx | hx
     ·exact List.mem_append_left _ (hps x hx)
     ·exact List.mem_append_right _ hx
    ·rw [fQ];exact List.mem_append_left _ hp0
    ·intro x hx
     rw [fQ] at hx ⊢
     rcases List.mem_append.mp hx with hx | hx
     ·rcases hd x hx with h | h | h
      ·exact .inl (List.mem_append_left _ h)
      ·exact .inr (.inl h)
      ·exact .inr (.inr fun y hy=>List.mem_append_left _ (h y hy))
     ·exact .inl (List.mem_append_right _ hx)
    ·intro v hv
     rw [fQ]
     rcases List.mem_append.mp hv with hv | hv
     ·exact List.mem_append_left _ (hp v hv)
     ·rw [List.mem_singleton.mp hv];simp
    ·rw [hk];simp at len' ⊢;omega
   ·have hold:=ndF h
    refine Ws.nx ?_
    refine ⟨s,ps,.sh (cy u),rfl,F,hps,hp0,hd,fun v hv=>?_,hk⟩
    rcases List.mem_append.mp hv with hv | hv
    ·exact hp v hv
    ·rw [List.mem_singleton.mp hv];exact hold
  ·rintro ρ ⟨s,ps,c5,rfl,F,hps,hp0,hd,hp,hk⟩
   refine ⟨ps.length+(n-s.length),by omega,s,ps,_,_,rfl,F,hps,fun x hx=>?_,rfl,by omega⟩
   rcases hd x hx with h | rfl | h
   ·exact .inl h
   ·exact .inr hp
   ·exact .inr h
noncomputable def hvD (t:Hv):Dat:=.tup [.int t.a,.int t.b,.int t.w]
noncomputable def hsD (h:List Hv):Dat:=.lst (h.map hvD)
noncomputable def cR (xs:List Int):Dat:=.lst (xs.map Dat.int)
noncomputable def fA (F:List Int) (i:Nat):Int:=F.getD i 0
noncomputable def cV (n:Nat) (R:Int→List Step):List (List Dat):=(List.range n).map fun i:Nat=>(R i).map cy
noncomputable def jN (R:Int→List Step) (k:Int) (s:Step):Int→List Step:=fun x=>if x=k then R x++[s] else R x
theorem nh (n:Nat) (R:Int→List Step):(cV n R).length=n:=by simp [cV]
theorem ni (n:Nat) (R:Int→List Step) {k:Int} (h0:0≤k) (h1:k<n):(cV n R)[k.toNat]?=some ((R k).map cy):=by
 unfold cV
 rw [List.getElem?_map,List.getElem?_range (by omega)]
 have:((k.toNat:Nat):Int)=k:=by omega
 show some ((R ((k.toNat:Nat):Int)).map cy)=_
 rw [this]
theorem r8 (n:Nat) (R:Int→List Step) {k:Int} (s:Step) (h0:0≤k) (h1:k<n):(cV n R).set k.toNat ((R k).map cy++[cy s])=cV n (jN R k s):=by
 apply List.ext_getElem?
 intro i
 by_cases e:k.toNat=i
 ·subst e
  rw [List.getElem?_set_self (by rw [nh];omega),ni n _ h0 h1]
  unfold jN
  rw [if_pos rfl,List.map_append]
  rfl
 ·rw [List.getElem?_set_ne e]
  unfold cV
  rw [List.getElem?_map,List.getElem?_map]
  by_cases hi:i<n
  ·rw [List.getElem?_range hi]
   show some ((R (i:Nat)).map cy)=some ((jN R k s (i:Nat)).map cy)
   unfold jN
   rw [if_neg (by omega)]
  ·rw [List.getElem?_eq_none (by simp;omega)]
   rfl
theorem yP {i e:FE} {ρ ρ1 ρ2 ρ3:Env} {rows:List (List Dat)} {k:Int} {m:Nat} {row:List Dat} {x:Val} {d:Dat} (h1:i ρ=some (.val (.int k),ρ1)) (h2:ixN rows.length k=some m) (h3:rows[m]?=some row) (h4:e ρ1=some (x,ρ2)) (h5:tk ρ2 x=some (d,ρ3)) (h6:row.length<SZ) :
  tG i e ρ rows=some (ρ3,rows.set m (row++[d])):=by
 unfold tG
 rw [h1]
 dsimp only
 rw [h2]
 dsimp only
 rw [h3]
 dsimp only
 rw [h4]
 dsimp only
 rw [h5]
 dsimp only
 rw [if_pos h6]
theorem Cg {n:Nat} {k:Int} (h0:0≤k) (h1:k<n):ixN n k=some k.toNat:=by
 unfold ixN
 rw [if_pos h0,if_pos h1]
theorem JA (h:List Hv) {i:Nat} (hi:i<h.length):gIx (hsD h) (.int (i:Nat))=some (.val (hvD (gT h i))):=by
 unfold hsD gIx
 dsimp only
 rw [jK hvD h _ (by omega) (by omega)]
 unfold gT
 rw [List.getD_eq_getElem?_getD,List.getElem?_eq_getElem hi]
 rfl
theorem GQ (F:List Int) {i:Nat} (hi:i<F.length):gIx (cR F) (.int (i:Nat))=some (.val (.int (fA F i))):=by
 unfold cR gIx fA
 dsimp only
 rw [jK Dat.int F _ (by omega) (by omega)]
 rw [List.getD_eq_getElem?_getD,List.getElem?_eq_getElem hi]
 rfl
theorem tO (h:List Hv) (F:List Int) (hl:F.length=h.length) {i:Nat} (hi:i<h.length) (s:Int) (hs:s=1∨s=-1):lV [hsD h,cR F,.tup [.int (i:Nat),.int s]]=some (.val (.int (wI h i-s*fA F i))):=by
 apply Wr.eq
 unfold lV
 (refine Dm.Wr.fn ?_ rfl rfl;dsimp only [List.map,List.replicate,List.cons_append,List.nil_append])
 refine Ws.R (We.e2 (We.e2 (We.e2 (We.v rfl (We.e2 (We.v rfl (We.c (Wg2.ix ?_ rfl rfl rfl))))))))
 refine Wg2.ix ?_ rfl rfl (JA h hi)
 refine We.c (Wg2.ix ?_ rfl rfl rfl)
 refine We.e2 (We.e2 (We.v rfl (We.c (Wg2.ix ?_ rfl rfl rfl))))
 refine We.e2 (We.v rfl (We.e2 (We.v rfl (We.c (Wg2.ix ?_ rfl rfl rfl)))))
 refine Wg2.ix ?_ rfl rfl (GQ F (by omega))
 refine Wg2.mul ?_ rfl rfl (.inl (by unfold B64;omega))
 exact Wg2.sub rfl rfl rfl
noncomputable def xo (h:List Hv) (F:List Int) (R:Int→List Step) (i:Nat):Int→List Step:=
 let R1:=if 0<wI h i-1*fA F i then jN R (gT h i).a (2*(i:Int),(gT h i).b) else R
 if 0<wI h i - -1*fA F i then jN R1 (gT h i).b (2*(i:Int)+1,(gT h i).a) else R1
noncomputable def br (h:List Hv) (F:List Int):Nat→Int→List Step
 | 0=>fun _=>[]
 | m+1=>xo h F (br h F m) m
theorem oH {R:Int→List Step} {k:Int} {s u:Step} {x:Int}:u∈jN R k s x↔u∈R x∨(x=k∧u=s):=by
 unfold jN
 by_cases e:x=k
 ·rw [if_pos e,List.mem_append,List.mem_singleton];simp [e]
 ·rw [if_neg e];simp [e]
theorem pU (h:List Hv) (F:List Int):∀ (m:Nat) (x:Int) (u:Step),u∈br h F m x↔∃ i,i<m∧((0<wI h i-1*fA F i∧x=(gT h i).a∧u=(2*(i:Int),(gT h i).b))∨(0<wI h i - -1*fA F i∧x=(gT h i).b∧u=(2*(i:Int)+1,(gT h i).a)))
 | 0,x,u=>by simp [br]
 | m+1,x,u=>by
  have ih:=pU h F m x u
  have key:u∈br h F (m+1) x↔u∈br h F m x∨((0<wI h m-1*fA F m∧x=(gT h m).a∧u=(2*(m:Int),(gT h m).b))∨(0<wI h m - -1*fA F m∧x=(gT h m).b∧u=(2*(m:Int)+1,(gT h m).a))):=by
   show u∈xo h F (br h F m) m x↔_
   unfold xo
   by_cases h1:0<wI h m-1*fA F m<;>by_cases h2:0<wI h m - -1*fA F m
   ·rw [if_pos h1,if_pos h2,oH,oH];simp only [h1,h2,true_and];exact or_assoc
   ·rw [if_pos h1,if_neg h2,oH];simp only [h1,h2,true_and,false_and,or_false]
   ·rw [if_neg h1,if_pos h2,oH];simp only [h1,h2,true_and,false_and,false_or]
   ·rw [if_neg h1,if_neg h2];simp only [h1,h2,false_and,or_false]
  rw [key,ih]
  constructor
  ·rintro (⟨i,hi,hh⟩ | hh)
   ·exact ⟨i,by omega,hh⟩
   ·exact ⟨m,by omega,hh⟩
  ·rintro ⟨i,hi,hh⟩
   by_cases e:i=m
   ·subst e;exact .inr hh
   ·exact .inl ⟨i,by omega,hh⟩
theorem pV (h:List Hv) (F:List Int):∀ (m:Nat) (x:Int),(br h F m x).length≤2*m
 | 0,x=>by simp [br]
 | m+1,x=>by
  have ih:=pV h F m x
  have hp:∀ (R:Int→List Step) (k:Int) (s:Step),(jN R k s x).length≤(R x).length+1:=fun R k s=>by unfold jN;split<;>simp
  show (xo h F (br h F m) m x).length≤_
  unfold xo
  split
  ·have a1:=hp (if 0<wI h m-1*fA F m then jN (br h F m) (gT h m).a (2*(m:Int),(gT h m).b) else br h F m) (gT h m).b (2*(m:Int)+1,(gT h m).a)
   have a2:((if 0<wI h m-1*fA F m then jN (br h F m) (gT h m).a (2*(m:Int),(gT h m).b) else br h F m) x).length≤(br h F m x).length+1:=by
    split
    ·exact hp _ _ _
    ·omega
   omega
  ·split
   ·have:=hp (br h F m) (gT h m).a (2*(m:Int),(gT h m).b);omega
   ·omega
theorem xq:∀ (k:Nat) (l:List Hv),gO k (l.map hvD)=(List.range l.length).map fun i=>.tup [.int ((k+i:Nat):Int),hvD (l.getD i default)]
 | _,[]=>rfl
 | k,t::l=>by
  rw [List.map_cons,gO,xq (k+1) l,List.length_cons,List.range_succ_eq_map,List.map_cons,List.map_map]
  congr 1
  apply List.map_congr_left
  intro i _
  show Dat.tup [.int ((k+1+i:Nat):Int),_]=Dat.tup [.int ((k+(i+1):Nat):Int),_]
  have:k+1+i=k+(i+1):=by omega
  rw [this]
  rfl
theorem Ci (pre:Env) (k:Nat) (hk:pre.length=k) (h0:k≠0):∀ (ds:List Dat) (c:Cell),∃ c',nMk (bN k) ds (pre++[c])=some (pre++[c'])
 | [],c=>⟨c,rfl⟩
 | d::ds,c=>by
  obtain ⟨c',e⟩:=Ci pre k hk h0 ds (.sh d)
  refine ⟨c',?_⟩
  rw [nMk]
  have:bN k d (pre++[c])=some (pre++[.sh d]):=by
   unfold bN
   rw [if_neg h0,List.set_append_right _ _ (by omega)]
   simp [hk]
  rw [this]
  exact e
theorem Cj (i:Nat):m9 (2*(i:Int))=.tup [.int (i:Nat),.int 1]:=by
 unfold m9
 have e1:(2*(i:Int)) / 2=i:=by omega
 have e2:(2*(i:Int)) % 2=0:=by omega
 rw [e1,if_pos e2]
theorem Fi (i:Nat):m9 (2*(i:Int)+1)=.tup [.int (i:Nat),.int (-1)]:=by
 unfold m9
 have e1:(2*(i:Int)+1) / 2=i:=by omega
 have e2:¬ (2*(i:Int)+1) % 2=0:=by omega
 rw [e1,if_neg e2]
noncomputable def HP (n:Nat) (h:List Hv):Prop:=∀ i<h.length,0≤(gT h i).a∧(gT h i).a<n∧0≤(gT h i).b∧(gT h i).b<n
noncomputable def OE (n:Nat) (h:List Hv) (F:List Int) (c4 c5:Cell):Env:=[.sh (.int (n:Nat)),.sh (hsD h),.sh (cR F),.un,c4,c5]
theorem Ck (n:Nat) (h:List Hv) (hp:HP n h) (hl:h.length≤100) (F:List Int) (fl:F.length=h.length) {i:Nat} (hi:i<h.length) :
  j7 (OE n h F (.sh (.int (i:Nat))) (.sh (hvD (gT h i)))) (cV n (br h F i))=some (OE n h F (.sh (.int (i:Nat))) (.sh (hvD (gT h i))),cV n (br h F (i+1))):=by
 obtain ⟨a0,a1,b0,b1⟩:=hp i hi
 have t1:tV (e2 gGt (eF lV [(eV 1),(eV 2),(bz [(eV 4),(eC (.int 1))])]) (eC (.int 0))) (OE n h F (.sh (.int (i:Nat))) (.sh (hvD (gT h i))))=some (decide (0<wI h i-1*fA F i),OE n h F (.sh (.int (i:Nat))) (.sh (hvD (gT h i)))):=by
  apply Wt.get
  refine Wt.V (We.e2 (We.F (Was.cons (We.v rfl (Was.cons (We.v rfl (Was.cons (We.T (Was.cons (We.v rfl (Was.cons (We.c (Was.nil (WT.mk ?_ rfl rfl (by exact Nat.le_of_ble_eq_true rfl)))))))))))))))
  refine Was.nil (WF.val (tO h F fl hi 1 (.inl rfl)) ?_ rfl rfl)
  exact We.c (Wg2.gt (Wb.mk ⟨rfl,rfl⟩) rfl rfl)
 have t2:tV (e2 gGt (eF lV [(eV 1),(eV 2),(bz [(eV 4),(e1 iP (eC (.int 1)))])]) (eC (.int 0))) (OE n h F (.sh (.int (i:Nat))) (.sh (hvD (gT h i))))=some (decide (0<wI h i - -1*fA F i),OE n h F (.sh (.int (i:Nat))) (.sh (hvD (gT h i)))):=by
  apply Wt.get
  refine Wt.V (We.e2 (We.F (Was.cons (We.v rfl (Was.cons (We.v rfl (Was.cons (We.T (Was.cons (We.v rfl (Was.cons (We.e1 (We.c (Wg1.mk (Was.nil (WT.mk ?_ rfl rfl (by exact Nat.le_of_ble_eq_true rfl))) rfl rfl))))))))))))))
  refine Was.nil (WF.val (tO h F fl hi (-1) (.inr rfl)) ?_ rfl rfl)
  exact We.c (Wg2.gt (Wb.mk ⟨rfl,rfl⟩) rfl rfl)
 have Nm:∀ R:Int→List Step,(R (gT h i).a).length<SZ→tG (e2 gIx (eV 5) (eC (.int 0))) (bz [(bz [(eV 4),(eC (.int 1))]),(e2 gIx (eV 5) (eC (.int 1)))]) (OE n h F (.sh (.int (i:Nat))) (.sh (hvD (gT h i)))) (cV n R)=some (OE n h F (.sh (.int (i:Nat))) (.sh (hvD (gT h i))),cV n (jN R (gT h i).a (2*(i:Int),(gT h i).b))):=fun R hR=>by
  rw [yP (k:=(gT h i).a) (m:=(gT h i).a.toNat) (row:=(R (gT h i).a).map cy) (d:=cy (2*(i:Int),(gT h i).b)) (ρ1:=OE n h F (.sh (.int (i:Nat))) (.sh (hvD (gT h i)))) (ρ3:=OE n h F (.sh (.int (i:Nat))) (.sh (hvD (gT h i)))) (x:=.val (cy (2*(i:Int),(gT h i).b))) rfl (by rw [nh];exact Cg a0 a1) (ni n R a0 a1) (by unfold cy;rw [Cj];rfl) rfl (by rw [List.length_map];exact hR)]
  rw [r8 n R _ a0 a1]
 have L6:∀ R:Int→List Step,(R (gT h i).b).length<SZ→tG (e2 gIx (eV 5) (eC (.int 1))) (bz [(bz [(eV 4),(e1 iP (eC (.int 1)))]),(e2 gIx (eV 5) (eC (.int 0)))]) (OE n h F (.sh (.int (i:Nat))) (.sh (hvD (gT h i)))) (cV n R)=some (OE n h F (.sh (.int (i:Nat))) (.sh (hvD (gT h i))),cV n (jN R (gT h i).b (2*(i:Int)+1,(gT h i).a))):=fun R hR=>by
  rw [yP (k:=(gT h i).b) (m:=(gT h i).b.toNat) (row:=(R (gT h i).b).map cy) (d:=cy (2*(i:Int)+1,(gT h i).a)) (ρ1:=OE n h F (.sh (.int (i:Nat))) (.sh (hvD (gT h i)))) (ρ3:=OE n h F (.sh (.int (i:Nat))) (.sh (hvD (gT h i)))) (x:=.val (cy (2*(i:Int)+1,(gT h i).a))) rfl (by rw [nh];exact Cg b0 b1) (ni n R b0 b1) (by unfold cy;rw [Fi];rfl) rfl (by rw [List.length_map];exact hR)]
  rw [r8 n R _ b0 b1]
 have la:=pV h F i (gT h i).a
 have lb:=pV h F i (gT h i).b
 have hz:SZ=100000:=rfl
 have hp1:∀ (R:Int→List Step) (k:Int) (s:Step) (x:Int),(jN R k s x).length≤(R x).length+1:=fun R k s x=>by unfold jN;split<;>simp
 show _=some (_,cV n (xo h F (br h F i) i))
 unfold j7 BN nIf xo
 rw [t1]
 by_cases h1:0<wI h i-1*fA F i
 ·rw [decide_eq_true h1,if_pos h1]
  dsimp only
  rw [Nm _ (by omega)]
  dsimp only
  rw [t2]
  by_cases h2:0<wI h i - -1*fA F i
  ·rw [decide_eq_true h2,if_pos h2]
   exact L6 _ (by have:=hp1 (br h F i) (gT h i).a (2*(i:Int),(gT h i).b) (gT h i).b;omega)
  ·rw [decide_eq_false h2,if_neg h2];rfl
 ·rw [decide_eq_false h1,if_neg h1]
  dsimp only [nNx]
  rw [t2]
  by_cases h2:0<wI h i - -1*fA F i
  ·rw [decide_eq_true h2,if_pos h2]
   exact L6 _ (by omega)
  ·rw [decide_eq_false h2,if_neg h2]
noncomputable def enH (h:List Hv) (i:Nat):Dat:=.tup [.int ((0+i:Nat):Int),hvD (gT h i)]
theorem r9 (n:Nat) (h:List Hv) (hp:HP n h) (hl:h.length≤100) (F:List Int) (fl:F.length=h.length):∀ (k m:Nat) (c4 c5:Cell),m+k≤h.length →
  ∃ c4' c5',pM (bT [4,5]) j7 ((List.range' m k).map (enH h)) (OE n h F c4 c5) (cV n (br h F m))=some (OE n h F c4' c5',cV n (br h F (m+k)))
 | 0,m,c4,c5,_=>⟨c4,c5,rfl⟩
 | k+1,m,c4,c5,hm=>by
  obtain ⟨c4',c5',e⟩:=r9 n h hp hl F fl k (m+1) (.sh (.int (m:Nat))) (.sh (hvD (gT h m))) (by omega)
  refine ⟨c4',c5',?_⟩
  rw [List.range'_succ,List.map_cons,pM]
  have eb:bT [4,5] (enH h m) (OE n h F c4 c5)=some (OE n h F (.sh (.int (m:Nat))) (.sh (hvD (gT h m)))):=by
   unfold enH
   rw [Nat.zero_add]
   rfl
  rw [eb]
  dsimp only
  rw [Ck n h hp hl F fl (by omega)]
  dsimp only
  rw [e]
  have:m+1+k=m+(k+1):=by omega
  rw [this]
theorem qW (n:Nat) (hn:n≤1000) (h:List Hv) (hp:HP n h) (hl:h.length≤100) (F:List Int) (fl:F.length=h.length):nU [.int (n:Nat),hsD h,cR F]=some (.new (lY n (br h F h.length))):=by
 obtain ⟨c4,c5,e⟩:=r9 n h hp hl F fl h.length 0 .un .un (by omega)
 obtain ⟨c',e2⟩:=Ci [.sh (.int (n:Nat)),.sh (hsD h),.sh (cR F),.un,.un,.un] 6 rfl (by decide) (ups 0 n) .un
 have h0:cV n (br h F 0)=List.replicate n []:=by
  unfold cV
  apply List.ext_getElem?
  intro i
  by_cases hi:i<n
  ·rw [List.getElem?_map,List.getElem?_range hi,List.getElem?_replicate,if_pos hi]
   rfl
  ·rw [List.getElem?_eq_none (by simp;omega),List.getElem?_eq_none (by simp;omega)]
 have hu:(ups 0 n).length=n:=by simp [ups]
 have e1:iR1 (eV 0) (OE n h F .un .un)=some (ups 0 n,OE n h F .un .un):=by
  show (if (n:Int)≤BIG∧-BIG≤(n:Int) then some (ups 0 (n:Int).toNat,_) else none)=_
  rw [if_pos (by unfold BIG;omega)]
  rfl
 rw [h0,Nat.zero_add,← List.range_eq_range'] at e
 have ei:iEn (eV 1) (OE n h F .un .un)=some ((List.range h.length).map (enH h),OE n h F .un .un):=by
  show some (gO 0 (h.map hvD),_)=_
  rw [xq 0 h]
  rfl
 have en:pN 3 (iR1 (eV 0)) 1 (bN 6) (u6 (iEn (eV 1)) (bT [4,5]) j7) (OE n h F .un .un)=some (.nx [.sh (.int (n:Nat)),.sh (hsD h),.sh (cR F),.ow (lY n (br h F h.length)),c4,c5]):=by
  unfold pN
  rw [if_neg (by decide),e1]
  dsimp only
  rw [if_pos (by rw [hu];unfold SZ;omega)]
  show (match nMk (bN 6) (ups 0 n) ([.sh (.int (n:Nat)),.sh (hsD h),.sh (cR F),.un,.un,.un]++[.un]) with | none=>none | some ρ2=>_)=_
  rw [e2]
  dsimp only
  rw [hu]
  show (match u6 (iEn (eV 1)) (bT [4,5]) j7 (OE n h F .un .un) (List.replicate n []) with | none=>none | some (ρ3,r3)=>_)=_
  have:u6 (iEn (eV 1)) (bT [4,5]) j7 (OE n h F .un .un) (List.replicate n [])=some (OE n h F c4 c5,cV n (br h F h.length)):=by
   unfold u6
   rw [ei]
   exact e
  rw [this]
  have e3:(cV n (br h F h.length)).map Dat.lst=(List.range n).map fun i:Nat=>j8 (br h F h.length i):=by
   unfold cV
   rw [List.map_map]
   rfl
  show some (Out.nx [.sh (.int (n:Nat)),.sh (hsD h),.sh (cR F),.ow (.lst ((cV n (br h F h.length)).map Dat.lst)),c4,c5])=_
  rw [e3]
  rfl
 apply Wr.eq
 unfold nU
 (refine Dm.Wr.fn ?_ rfl rfl;dsimp only [List.map,List.replicate,List.cons_append,List.nil_append])
 refine Ws.seq ⟨_,en,?_⟩
 refine Ws.R (We.w rfl (WR.slot ?_ rfl))
 rfl
noncomputable def jb (h:List Hv):Fl.Web:=⟨h.length,fun i=>(gT h i).a,fun i=>(gT h i).b,fun i=>wI h i⟩
theorem j9 (h:List Hv) (F:List Int) (p:Int) (s:Step):s∈br h F h.length p↔(jb h).lQ p s∧∀ i:Nat,(i:Int)=s.1 / 2→0<wI h i-sgn s.1*fA F i:=by
 rw [pU]
 unfold Fl.Web.lQ sgn
 constructor
 ·rintro ⟨i,hi,⟨h1,h2,h3⟩ | ⟨h1,h2,h3⟩⟩
  ·subst h3
   have e1:(2*(i:Int)) / 2=i:=by omega
   have e2:(2*(i:Int)) % 2=0:=by omega
   dsimp only
   rw [e1,if_pos e2]
   refine ⟨⟨by omega,by show (i:Int)<((h.length:Nat):Int);omega,by rw [Int.toNat_natCast];exact ⟨h2.symm,rfl⟩⟩,fun j hj=>?_⟩
   have:j=i:=by omega
   subst this
   rw [if_pos e2];exact h1
  ·subst h3
   have e1:(2*(i:Int)+1) / 2=i:=by omega
   have e2:¬ (2*(i:Int)+1) % 2=0:=by omega
   dsimp only
   rw [e1,if_neg e2]
   refine ⟨⟨by omega,by show (i:Int)<((h.length:Nat):Int);omega,by rw [Int.toNat_natCast];exact ⟨h2.symm,rfl⟩⟩,fun j hj=>?_⟩
   have:j=i:=by omega
   subst this
   rw [if_neg e2];exact h1
 ·rintro ⟨⟨h0,h1,h2⟩,h3⟩
  have h1:s.1 / 2<((h.length:Nat):Int):=h1
  have h3:=h3 (s.1 / 2).toNat (by omega)
  refine ⟨(s.1 / 2).toNat,by omega,?_⟩
  split at h2
  ·rename_i hm
   rw [if_pos hm] at h3
   refine .inl ⟨h3,h2.1.symm,?_⟩
   have:s.1=2*(((s.1 / 2).toNat:Nat):Int):=by omega
   exact Prod.ext this h2.2.symm
  ·rename_i hm
   rw [if_neg hm] at h3
   refine .inr ⟨h3,h2.1.symm,?_⟩
   have:s.1=2*(((s.1 / 2).toNat:Nat):Int)+1:=by omega
   exact Prod.ext this h2.2.symm
noncomputable def tP (h:List Hv):List Tie:=(List.range h.length).map fun i:Nat=>⟨(i:Int),(gT h i).a,(gT h i).b⟩
theorem Fj (h:List Hv):((tP h).map (·.m)).Nodup:=by
 unfold tP
 rw [List.map_map,List.Nodup,List.pairwise_map]
 exact List.Pairwise.imp (R:=fun a b=>a<b) (fun {a b} z=>by show (a:Int)≠(b:Int);omega) List.pairwise_lt_range
theorem vo {h:List Hv} (hne:∀ i<h.length,(gT h i).a≠(gT h i).b) {p:Int} {s:Step} (l:(jb h).lQ p s):yJ (tP h) p (s.1 / 2,s.2):=by
 obtain ⟨h0,h1,h2⟩:=l
 have h1:s.1 / 2<((h.length:Nat):Int):=h1
 have hi:(s.1 / 2).toNat<h.length:=by omega
 have hn:=hne _ hi
 refine ⟨⟨((s.1 / 2).toNat:Nat),(gT h (s.1 / 2).toNat).a,(gT h (s.1 / 2).toNat).b⟩,List.mem_map.mpr ⟨(s.1 / 2).toNat,List.mem_range.mpr hi,rfl⟩,by show (((s.1 / 2).toNat:Nat):Int)=s.1 / 2;omega,hn,?_⟩
 split at h2
 ·exact .inl ⟨h2.1,h2.2⟩
 ·exact .inr ⟨h2.1,h2.2⟩
theorem yQ {R R':Int→Step→Prop} (g:Step→Step) (hg:∀ s,(g s).2=s.2) (hR:∀ p s,R p s→R' p (g s)):∀ {w:List Step} {x y:Int},Way R x w y→Way R' x (w.map g) y
 | [],_,_,h=>h
 | s::w,x,y,h=>⟨hR _ _ h.1,by
   show Way R' (g s).2 (w.map g) y
   rw [hg s]
   exact yQ g hg hR h.2⟩
theorem once {h:List Hv} (hne:∀ i<h.length,(gT h i).a≠(gT h i).b) {w:List Step} {x y:Int} (hw:Way (jb h).lQ x w y) (nd:(x::w.map (·.2)).Nodup):(w.map fun s=>s.1 / 2).Nodup:=by
 have h1:=yQ (R':=yJ (tP h)) (fun s=>(s.1 / 2,s.2)) (fun _=>rfl) (fun p s l=>vo hne l) hw
 have h2:=nT (Fj h) (fun p s z=>z) h1 (by rw [List.map_map];exact nd)
 rw [List.map_map] at h2
 exact h2
noncomputable def fc (h:List Hv) (F:List Int):Cell:=if h=[] then .sh (cR F) else .ow (cR F)
theorem Cm (w:List Step):lO 1 (w.map cy)=true:=rV 1 cy w fun s=>rfl
theorem JB (w:List Step):i9 1 (j8 w)=true:=by
 unfold j8 i9
 rw [Cm]
 cases w<;>rfl
theorem Fo (n:Nat) (n1:1≤n) (R:Int→List Step):i9 1 (lY n R)=true:=by
 unfold lY i9
 rw [rV 1 _ _ fun i=>JB _]
 obtain ⟨m,rfl⟩:∃ m,n=m+1:=⟨n-1,by omega⟩
 rw [List.range_succ_eq_map,List.map_cons]
 rfl
theorem Fp {n:Nat} {h:List Hv} (hp:HP n h) (F:List Int):∀ i:Int,0≤i→i<n→∀ u∈br h F h.length i,0≤u.2∧u.2<n:=fun x _ _ u hu=>by
 obtain ⟨i,hi,⟨_,_,e⟩ | ⟨_,_,e⟩⟩:=(pU h F h.length x u).mp hu
 ·have:=hp i hi;rw [e];exact ⟨this.2.2.1,this.2.2.2⟩
 ·have:=hp i hi;rw [e];exact ⟨this.1,this.2.1⟩
theorem search (n:Nat) (n1:1≤n) (n40:n≤40) (h:List Hv) (hp:HP n h) (hl:h.length≤100) (F:List Int) (fl:F.length=h.length) {c4:Cell} (hc:c4=.ow (cR F)∨c4=fc h F) (pl most:Int) (c5 c6 c7 c8 c9 c10:Cell)
  {Nx:Env→Prop} {R:RV→Env→Prop} {B C:Env→Prop} (nx:∀ s:Sr,Fnd n (br h F h.length) 0 s→(∀ x∈sk s,Done (br h F h.length) (sk s) x)→Nx [.sh (.int (n:Nat)),.sh (hsD h),.sh (.int pl),.sh (.int most),fc h F,c5,.ow (.dct (sk s) (sv s)),c7,c8,c9,c10]) :
  Ws (sA 6 (eF lU [(eFk 1 nU [(eV 0),(eV 1),(eV 4)]),(eC (.int 0))])) [.sh (.int (n:Nat)),.sh (hsD h),.sh (.int pl),.sh (.int most),c4,c5,c6,c7,c8,c9,c10] Nx R B C:=by
 obtain ⟨s,es,F1,dn⟩:=vn n n40 (br h F h.length) (Fp hp F) 0 (by omega) (by omega)
 have eo:=qW n (by omega) h hp hl F fl
 have fin:Ws (sA 6 (eF lU [(eFk 1 nU [(eV 0),(eV 1),(eV 4)]),(eC (.int 0))])) [.sh (.int (n:Nat)),.sh (hsD h),.sh (.int pl),.sh (.int most),c4,c5,c6,c7,c8,c9,c10] Nx R B C:=by
  refine Ws.A (We.F (Was.cons (We.Fk ?_))) (by decide)
  have go:∀ x:Val,eV 4 [.sh (.int (n:Nat)),.sh (hsD h),.sh (.int pl),.sh (.int most),c4,c5,c6,c7,c8,c9,c10]=some (x,[.sh (.int (n:Nat)),.sh (hsD h),.sh (.int pl),.sh (.int most),c4,c5,c6,c7,c8,c9,c10]) →
    tkk 1 [.sh (.int (n:Nat)),.sh (hsD h),.sh (.int pl),.sh (.int most),c4,c5,c6,c7,c8,c9,c10] x=some (cR F,[.sh (.int (n:Nat)),.sh (hsD h),.sh (.int pl),.sh (.int most),fc h F,c5,c6,c7,c8,c9,c10]) →
    Was [(eV 0),(eV 1),(eV 4)] [.sh (.int (n:Nat)),.sh (hsD h),.sh (.int pl),.sh (.int most),c4,c5,c6,c7,c8,c9,c10] fun xs ρ1=>∃ ds ρ2 v,m6 1 ρ1 xs=some (ds,ρ2)∧nU ds=some v∧i9 1 v.dat=true∧(fun v ρ=>Was [eC (.int 0)] ρ fun xs ρ2=>WF lU ρ2 (v::xs) fun v ρ1=>WA 6 v ρ1 Nx) v.bG ρ2:=fun x h1 h2=>by
   refine Was.cons (We.v rfl (Was.cons (We.v rfl (Was.cons ⟨_,_,h1,Was.nil ⟨[.int (n:Nat),hsD h,cR F],[.sh (.int (n:Nat)),.sh (hsD h),.sh (.int pl),.sh (.int most),fc h F,c5,c6,c7,c8,c9,c10],_,?_,eo,Fo n n1 _,?_⟩⟩))))
   ·unfold m6
    dsimp only [tkk]
    unfold m6
    dsimp only [tkk]
    unfold m6
    rw [h2]
    rfl
   ·refine Was.cons (We.c (Was.nil (WF.box es ?_ rfl rfl rfl rfl)))
    exact WA.new (nx s F1 dn) (by first | (dsimp only [List.set];first | done | rfl) | rfl)
  by_cases hn:h=[]
  ·have hF:F=[]:=List.eq_nil_of_length_eq_zero (by rw [fl,hn];rfl)
   have ef:fc h F=.sh (cR F):=by unfold fc;rw [if_pos hn]
   rcases hc with e | e
   ·subst e
    refine go (.slot 4) rfl ?_
    rw [ef,hF];rfl
   ·rw [ef] at e
    subst e
    refine go (.val (cR F)) rfl ?_
    rw [ef];rfl
  ·have ef:fc h F=.ow (cR F):=by unfold fc;rw [if_neg hn]
   have hF:dZ (cR F)=some 1:=by
    cases F with
    | nil=>exact absurd (List.eq_nil_of_length_eq_zero (by simpa using fl.symm)) hn
    | cons x F=>rfl
   have e:c4=.ow (cR F):=hc.elim id fun e=>e.trans ef
   subst e
   refine go (.slot 4) rfl ?_
   show (if dZ (cR F)=some 1 then _ else _)=_
   rw [if_pos hF,ef]
 exact fin
theorem r_:∀ (ns:List Int) (a:Int),(ia a ns=a∨ia a ns∈ns)∧ia a ns≤a∧∀ x∈ns,ia a ns≤x
 | [],a=>⟨.inl rfl,Int.le_refl _,by simp⟩
 | y::ns,a=>by
  obtain ⟨h1,h2,h3⟩:=r_ ns (if y<a then y else a)
  rw [ia]
  by_cases h:y<a
  ·rw [if_pos h] at h1 h2 h3 ⊢
   refine ⟨.inr ?_,by omega,fun x hx=>?_⟩
   ·rcases h1 with e | e
    ·rw [e];simp
    ·exact List.mem_cons_of_mem _ e
   ·rcases List.mem_cons.mp hx with rfl | hx
    ·exact h2
    ·exact h3 x hx
  ·rw [if_neg h] at h1 h2 h3 ⊢
   refine ⟨h1.imp id fun e=>List.mem_cons_of_mem _ e,h2,fun x hx=>?_⟩
   rcases List.mem_cons.mp hx with rfl | hx
   ·omega
   ·exact h3 x hx
theorem WB.Nn {n:Int} {ns:List Int} {o:Option (List Dat)} {K:RV→Prop} (k:K (.val (.int (ia n ns)))) (ho:o=some [.lst ((n::ns).map Dat.int)]):WB rQ o K:=by
 refine ⟨_,_,ho,?_,k⟩
 unfold rQ
 dsimp only
 rw [ig]
noncomputable def iN (h:List Hv) (F:List Int) (m:Int):Int:=wI h (m / 2).toNat-sgn m*fA F (m / 2).toNat
theorem Cn (h:List Hv) (F:List Int) (fl:F.length=h.length) {m:Int} (h0:0≤m) (h1:m / 2<(h.length:Nat)):lV [hsD h,cR F,m9 m]=some (.val (.int (iN h F m))):=by
 have e:m9 m=.tup [.int (((m / 2).toNat:Nat):Int),.int (sgn m)]:=by
  unfold m9 sgn
  have:(((m / 2).toNat:Nat):Int)=m / 2:=by omega
  rw [this]
 rw [e,tO h F fl (by omega) (sgn m) (by unfold sgn;split;exact .inl rfl;exact .inr rfl)]
 rfl
noncomputable def sd (F:List Int) (m d:Int):List Int:=F.set (m / 2).toNat (fA F (m / 2).toNat+sgn m*d)
theorem Ah (F:List Int) (m d:Int):(sd F m d).length=F.length:=by unfold sd;simp
theorem Fq {F:List Int} {m d:Int} (h0:0≤m) (h1:m / 2<(F.length:Nat)):fA (sd F m d)=lP (fA F) m d:=by
 funext i
 unfold sd lP
 by_cases e:(i:Int)=m / 2
 ·have e':(m / 2).toNat=i:=by omega
  rw [if_pos e,e']
  unfold fA
  rw [List.getD_eq_getElem?_getD,List.getElem?_set_self (by omega)]
  rfl
 ·rw [if_neg e]
  unfold fA
  rw [List.getD_eq_getElem?_getD,List.getElem?_set_ne (by omega),← List.getD_eq_getElem?_getD]
theorem pW (d:Int) (u:Step):∀ (p:List Step) (f:Nat→Int),gQ f d (p++[u])=lP (gQ f d p) u.1 d
 | [],f=>rfl
 | s::p,f=>by rw [List.cons_append,gQ,gQ,pW d u p]
theorem JC (F:List Int) {m:Int} (h0:0≤m) (h1:m / 2<(F.length:Nat)):gIx (cR F) (.int (m / 2))=some (.val (.int (fA F (m / 2).toNat))):=by
 have:m / 2=(((m / 2).toNat:Nat):Int):=by omega
 rw [this,Int.toNat_natCast]
 exact GQ F (by omega)
theorem Ft (n:Nat) (h:List Hv) (pl most T d:Int) (F:List Int) (w:List Step) (hw:∀ u∈w,0≤u.1∧u.1 / 2<(F.length:Nat)) (c6 c7 c9 c10:Cell) {Nx:Env→Prop} {R:RV→Env→Prop} {B C:Env→Prop}
  (nx:∀ F' c9 c10,F'.length=F.length→fA F'=gQ (fA F) d w→Nx [.sh (.int (n:Nat)),.sh (hsD h),.sh (.int pl),.sh (.int most),.ow (cR F'),.sh (.int T),c6,c7,.sh (.int d),c9,c10]) :
  Ws (lC (bT [9,10]) xg (w.map fun u=>m9 u.1)) [.sh (.int (n:Nat)),.sh (hsD h),.sh (.int pl),.sh (.int most),.ow (cR F),.sh (.int T),c6,c7,.sh (.int d),c9,c10] Nx R B C:=by
 refine Ws.inv (fun u:Step=>m9 u.1) _ _ w _ _ _ _ _ (fun p q ρ=>∃ (F':List Int) (c9 c10:Cell),ρ=[.sh (.int (n:Nat)),.sh (hsD h),.sh (.int pl),.sh (.int most),.ow (cR F'),.sh (.int T),c6,c7,.sh (.int d),c9,c10]∧F'.length=F.length∧fA F'=gQ (fA F) d p) ⟨F,_,_,rfl,rfl,rfl⟩ ?_ ?_
 ·rintro p u q ρ e ⟨F',c9,c10,rfl,l,ef⟩
  obtain ⟨u0,u1⟩:=hw u (by rw [e];simp)
  refine Dm.eu rfl (by first | (dsimp only [List.set];first | done | rfl) | rfl) ?_
  unfold xg
  refine Ws.Set (We.e2 (We.e2 (We.w rfl (We.v rfl (Wg2.ix ?_ rfl rfl (JC F' u0 (by omega)))))))
  refine We.e2 (We.v rfl (We.v rfl (Wg2.mul ?_ rfl rfl (.inl (by unfold B64;split<;>omega)))))
  refine Wg2.add ?_ rfl rfl
  refine Wk.val ⟨⟨_,rfl⟩,We.v rfl (cB.mk ⟨F'.map Dat.int,(u.1 / 2).toNat,_,rfl,?_,rfl,?_⟩)⟩
  ·rw [List.length_map]
   unfold ixN
   rw [if_pos (by omega),if_pos (by omega)]
  ·refine ⟨sd F' u.1 d,.sh (.int (u.1 / 2)),.sh (.int (if u.1 % 2=0 then 1 else -1)),?_,by rw [Ah];exact l,by rw [Fq u0 (by omega),ef,pW]⟩
   unfold sd cR
   rw [List.map_set]
   rfl
 ·rintro ρ ⟨F',c9,c10,rfl,l,ef⟩
  exact nx F' c9 c10 l ef
structure IsT (W:Fl.Web) (pl most T:Int):Prop where
 nn:0≤T
 le:T≤most
 low:∀ S:Int→Bool,S 0=true→S pl=false→T≤W.cut S
 ex:T=most∨∃ S:Int→Bool,S 0=true∧S pl=false∧W.cut S=T
theorem yR {R:Int→Step→Prop}:∀ {w:List Step} {x y:Int},Way R x w y→∀ u∈w,∃ p,R p u
 | [],_,_,_,u,hu=>by cases hu
 | s::w,x,y,h,u,hu=>by
  rcases List.mem_cons.mp hu with rfl | hu
  ·exact ⟨x,h.1⟩
  ·exact yR h.2 u hu
theorem xr (n:Nat) (n1:1≤n) (n40:n≤40) (h:List Hv) (hp:HP n h) (hl:h.length≤100) (hw0:∀ i<h.length,0≤wI h i) (hne:∀ i<h.length,(gT h i).a≠(gT h i).b) (pl:Int) (p1:1≤pl) (p2:pl<n) (most:Int) (m0:0≤most) (m1:most≤1000000000000000000000000000000000000000) :
  ∃ T d1 d2,pS [.int (n:Nat),hsD h,.int pl,.int most]=some (.val (.tup [.int T,d1,d2]))∧IsT (jb h) pl most T:=by
 suffices hh:Wr (pS [.int (n:Nat),hsD h,.int pl,.int most]) fun v=>∃ T d1 d2,v=.val (.tup [.int T,d1,d2])∧IsT (jb h) pl most T by
  obtain ⟨v,h1,T,d1,d2,rfl,h2⟩:=hh
  exact ⟨T,d1,d2,h1,h2⟩
 unfold pS
 (refine Dm.Wr.fn ?_ rfl rfl;dsimp only [List.map,List.replicate,List.cons_append,List.nil_append])
 refine Ws.seq (Ws.A (We.Js hvD h (fun _=>(0:Int)) Dat.int (d:=hsD h) ?_ rfl rfl rfl (by decide) (by unfold SZ;omega) fun t _=>We.c (Wk.val ⟨rfl,rfl⟩)) (by decide))
 refine WA.new ?_ (by first | (dsimp only [List.set];first | done | rfl) | rfl)
 refine Ws.seq (Ws.A (We.c (WA.val ?_ (by first | (dsimp only [List.set];first | done | rfl) | rfl))) (by decide))
 have fz:fA (h.map fun _=>(0:Int))=fun _=>0:=by
  funext i
  unfold fA
  rw [List.getD_eq_getElem?_getD,List.getElem?_map]
  cases h[i]?<;>rfl
 refine Ws.seq (search n n1 n40 h hp hl (h.map fun _=>(0:Int)) (by simp) (.inl rfl) pl most _ _ _ _ _ _ fun s F1 dn=>?_)
 refine Ws.seq ?_
 refine Ws.wh (fun k ρ=>∃ (F:List Int) (T:Int) (s:Sr) (c7 c8 c9 c10:Cell),ρ=[.sh (.int (n:Nat)),.sh (hsD h),.sh (.int pl),.sh (.int most),fc h F,.sh (.int T),.ow (.dct (sk s) (sv s)),c7,c8,c9,c10]∧F.length=h.length∧(jb h).Flow (fA F) 0 pl T∧0≤T∧T≤most∧Fnd n (br h F h.length) 0 s∧(∀ x∈sk s,Done (br h F h.length) (sk s) x)∧k=(most-T).toNat) ?_ _ most.toNat _ (by omega) ⟨_,0,s,_,_,_,_,rfl,by simp,by rw [fz];exact Fl.Web.Flow.zero _ hw0 0 pl,Int.le_refl _,m0,F1,dn,by simp⟩
 rintro k ρ ⟨F,T,s,c7,c8,c9,c10,rfl,fl,FL,t0,t1,F1,dn,hk⟩
 have fin:(¬ T<most∨pl∉sk s)→Ws (sR (bz [(eV 5),(eV 4),(eB e7 [(cU (iR1 (eV 0)) 1 (bN 11) (tV (e2 nQ (eV 11) (eV 6))) (eV 11))])])) [.sh (.int (n:Nat)),.sh (hsD h),.sh (.int pl),.sh (.int most),fc h F,.sh (.int T),.ow (.dct (sk s) (sv s)),c7,c8,c9,c10]
   (fun _=>∃ T d1 d2,RV.val .non=.val (.tup [.int T,d1,d2])∧IsT (jb h) pl most T) (fun v _=>∃ T d1 d2,v=.val (.tup [.int T,d1,d2])∧IsT (jb h) pl most T) (fun _=>False) (fun _=>False):=fun hend=>by
  have it:IsT (jb h) pl most T:=by
   refine ⟨t0,t1,fun S s1 s2=>FL.le s1 s2,?_⟩
   rcases hend with z | z
   ·exact .inl (by omega)
   ·refine .inr ⟨fun x=>decide (x∈sk s),decide_eq_true F1.st,decide_eq_false z,FL.stop (decide_eq_true F1.st) (decide_eq_false z) fun p u hpS hu hr=>?_⟩
    exact decide_eq_true (dn p (of_decide_eq_true hpS) u ((j9 h F p u).mpr ⟨hu,hr⟩))
  have GR:∀ (c4:Cell) {Q:Val→Env→Prop},(∀ d,Q (.new (.lst d)) [.sh (.int (n:Nat)),.sh (hsD h),.sh (.int pl),.sh (.int most),c4,.sh (.int T),.ow (.dct (sk s) (sv s)),c7,c8,c9,c10])→We (cU (iR1 (eV 0)) 1 (bN 11) (tV (e2 nQ (eV 11) (eV 6))) (eV 11)) [.sh (.int (n:Nat)),.sh (hsD h),.sh (.int pl),.sh (.int most),c4,.sh (.int T),.ow (.dct (sk s) (sv s)),c7,c8,c9,c10] Q:=fun c4 Q q=>by
   refine We.Comp (fun i:Nat=>Dat.int (0+(i:Nat))) (List.range n) (fun i=>!(dB (sk s) (sv s) (0+(i:Nat))).isSome) (fun i:Nat=>Dat.int (0+(i:Nat))) (ρ1:=[.sh (.int (n:Nat)),.sh (hsD h),.sh (.int pl),.sh (.int most),c4,.sh (.int T),.ow (.dct (sk s) (sv s)),c7,c8,c9,c10]) (q _) ?_ rfl (by decide) (by rw [List.length_range];unfold SZ;omega) (fun i _=>?_) fun i _ _=>?_
   ·apply Wi.get
    refine Wi.R1 (We.v rfl (cB.mk ⟨⟨?_,rfl⟩,by unfold BIG;omega,by unfold BIG;omega⟩))
    rw [Int.toNat_natCast]
    rfl
   ·exact Wt.V (We.e2 (We.v rfl (We.w rfl (Wg2.Jt (Wb.mk ⟨rfl,rfl⟩) rfl rfl))))
   ·exact We.v rfl (Wk.val ⟨rfl,rfl⟩)
  unfold fc
  split
  ·refine Ws.R (We.T (Was.cons (We.v rfl (Was.cons (We.v rfl (Was.cons (We.B (Was.cons (GR _ fun d=>?_)))))))))
   refine Was.nil (WB.tuple ?_ rfl)
   refine Was.nil (WT.mk ?_ rfl rfl (by exact Nat.le_of_ble_eq_true rfl))
   exact ⟨T,_,_,rfl,it⟩
  ·refine Ws.R (We.T (Was.cons (We.v rfl (Was.cons (We.w rfl (Was.cons (We.B (Was.cons (GR _ fun d=>?_)))))))))
   refine Was.nil (WB.tuple ?_ rfl)
   refine Was.nil (WT.mk ?_ rfl rfl (by exact Nat.le_of_ble_eq_true rfl))
   exact ⟨T,_,_,rfl,it⟩
 refine Wt.And (Wt.V (We.e2 (We.v rfl (We.v rfl (Wg2.lt (Wb.mk ?_) rfl rfl)))))
 refine Wif.dec (fun hlt=>?_) fun hge=>Wif.no rfl (fin (.inl hge))
 refine Wt.V (We.e2 (We.v rfl (We.w rfl (Wg2.din (Wb.mk ?_) rfl rfl))))
 rw [nV]
 refine Wif.dec (fun hb=>?_) fun hb=>fin (.inr hb)
 obtain ⟨w,g1,g2⟩:∃ w,(pl,w)∈s∧dB (sk s) (sv s) pl=some (j8 w):=by
  rcases xm s pl with z | z
  ·exact z
  ·exact absurd hb z.1
 obtain ⟨⟨w1,w2⟩,w3⟩:=F1.way _ g1
 dsimp only at w1 w2 w3
 have wl:Way (jb h).lQ 0 w pl:=w1.mono fun p u z=>((j9 h F p u).mp z).1
 have um:∀ u∈w,(0≤u.1∧u.1 / 2<((F.length:Nat):Int))∧0<iN h F u.1:=fun u hu=>by
  obtain ⟨p,hpu⟩:=yR w1 u hu
  obtain ⟨⟨l0,l1,_⟩,l2⟩:=(j9 h F p u).mp hpu
  have l1:u.1 / 2<((h.length:Nat):Int):=l1
  exact ⟨⟨l0,by rw [fl];exact l1⟩,l2 (u.1 / 2).toNat (by omega)⟩
 have L5:w.length≤40:=by
  have a1:=ff _ _ w2 w3
  have a2:=F1.len
  simp [sk] at a1
  omega
 cases w with
 | nil=>exfalso;have e:(0:Int)=pl:=w1;omega
 | cons u0 w'=>
  have hn:h≠[]:=fun z=>by
   have:=(um u0 List.mem_cons_self).1
   rw [fl,z] at this
   simp at this
   omega
  have ef:fc h F=.ow (cR F):=by unfold fc;rw [if_neg hn]
  have hF:dZ (cR F)=some 1:=by
   cases F with
   | nil=>exact absurd (List.eq_nil_of_length_eq_zero (by simpa using fl.symm)) hn
   | cons x F=>rfl
  rw [ef]
  unfold Cc
  refine Ws.seq (Ws.A (We.Map cy (u0::w') (fun u=>u.1) m9 (ρ1:=[.sh (.int (n:Nat)),.sh (hsD h),.sh (.int pl),.sh (.int most),.ow (cR F),.sh (.int T),.ow (.dct (sk s) (sv s)),c7,c8,c9,c10]) ?_ ?_ rfl (by decide) (by unfold SZ;omega) fun u _=>We.e2 (We.v rfl (We.c (Wg2.ix (Wk.val ⟨rfl,rfl⟩) rfl rfl rfl)))) (by decide))
  rotate_left
  ·apply Wi.get
   exact Wi.S (We.e2 (We.w rfl (We.v rfl (Wg2.dx g2 (Wk.val ⟨_,rfl,rfl,rfl⟩) rfl rfl))))
  refine WA.new ?_ (by first | (dsimp only [List.set];first | done | rfl) | rfl)
  refine Ws.seq (Ws.A (We.B (Was.cons (We.e2 (We.LW m9 ((u0::w').map fun u=>u.1) (iN h F) Dat.int ?_ rfl (by first | (dsimp only [List.set];first | done | rfl) | rfl) rfl (by decide) (by rw [List.length_map];unfold SZ;omega) fun m hm=>?_)))) (by decide))
  rotate_left
  ·obtain ⟨u,hu,rfl⟩:=List.mem_map.mp hm
   have:=(um u hu).1
   refine We.Fk (Was.cons (We.v rfl (Was.cons (We.w rfl (Was.cons (We.v rfl (Was.nil ⟨[hsD h,cR F,m9 u.1],_,_,?_,Cn h F fl this.1 (by rw [← fl];exact this.2),rfl,Wk.val ⟨rfl,rfl⟩⟩)))))))
   unfold m6
   dsimp only [tkk]
   unfold m6
   have et:∀ (A B C D:Cell) (r:List Cell),tkk 1 (A::B::C::D::.ow (cR F)::r) (.slot 4)=some (cR F,A::B::C::D::.ow (cR F)::r):=fun A B C D r=>by
    show (if dZ (cR F)=some 1 then _ else _)=_
    rw [if_pos hF]
   simp only [List.cons_append,List.nil_append]
   rw [et]
   rfl
  refine We.L (Was.cons (We.e2 (We.v rfl (We.v rfl (Wg2.sub ?_ rfl rfl)))))
  refine Was.nil (WT.mk ?_ rfl rfl (by exact Nat.le_of_ble_eq_true rfl))
  refine Wg2.GJ (xs:=((u0::w').map fun u=>u.1).map (iN h F)) (y:=most-T) ?_ rfl rfl (by rw [List.length_map,List.length_map];unfold SZ;omega)
  refine Was.nil (WB.Nn (n:=iN h F u0.1) (ns:=(w'.map fun u=>u.1).map (iN h F)++[most-T]) ?_ rfl)
  have ms:=r_ ((w'.map fun u=>u.1).map (iN h F)++[most-T]) (iN h F u0.1)
  generalize ia (iN h F u0.1) ((w'.map fun u=>u.1).map (iN h F)++[most-T])=d at ms
  obtain ⟨ms1,ms2,ms3⟩:=ms
  have dm:d≤most-T:=ms3 _ (by simp)
  have dr:∀ u∈u0::w',d≤iN h F u.1:=fun u hu=>by
   rcases List.mem_cons.mp hu with rfl | hu
   ·exact ms2
   ·exact ms3 _ (List.mem_append_left _ (List.mem_map.mpr ⟨u.1,List.mem_map.mpr ⟨u,hu,rfl⟩,rfl⟩))
  have d1:0<d:=by
   rcases ms1 with e | e
   ·rw [e];exact (um u0 List.mem_cons_self).2
   ·rcases List.mem_append.mp e with e | e
    ·obtain ⟨m,hm,e⟩:=List.mem_map.mp e
     obtain ⟨u,hu,rfl⟩:=List.mem_map.mp hm
     rw [← e];exact (um u (List.mem_cons_of_mem _ hu)).2
    ·rw [List.mem_singleton.mp e];omega
  refine WA.val ?_ (by first | (dsimp only [List.set];first | done | rfl) | rfl)
  refine Ws.seq (Ws.For (Wi.S (We.w rfl (Wk.slot ⟨_,rfl,?_⟩ rfl (by first | (dsimp only [List.set];first | done | rfl) | rfl)))))
  rw [List.map_map]
  refine Ft n h pl most T d F (u0::w') (fun u hu=>(um u hu).1) _ _ _ _ fun F' c9' NN fl' ef'=>?_
  refine Ws.seq (Ws.A (We.e2 (We.v rfl (We.v rfl (Wg2.add ?_ rfl rfl)))) (by decide))
  refine WA.val ?_ (by first | (dsimp only [List.set];first | done | rfl) | rfl)
  refine search n n1 n40 h hp hl F' (fl'.trans fl) (.inl rfl) pl most _ _ _ _ _ _ fun s' F1' dn'=>?_
  refine ⟨(most-(T+d)).toNat,by omega,F',T+d,s',_,_,_,_,rfl,fl'.trans fl,?_,by omega,by omega,F1',dn',rfl⟩
  rw [ef']
  refine FL.more (by omega) wl (once hne wl w2) fun u hu i hi=>?_
  have:=dr u hu
  unfold iN at this
  have ei:(u.1 / 2).toNat=i:=by omega
  rw [ei] at this
  exact this
noncomputable abbrev Z30:Int:=1000000000000000000000000000000
theorem bF (x n:Int) (h:1≤n):0≤x % n∧x % n<n:=⟨Int.emod_nonneg x (by omega),Int.emod_lt_of_pos x (by omega)⟩
noncomputable def at' (ns:List Int) (i:Int):Int:=ns.getD i.toNat 0
theorem JD (ns:List Int) (i:Int) (h0:0≤i) (h1:i<ns.length):gIx (.lst (ns.map Dat.int)) (.int i)=some (.val (.int (at' ns i))):=by
 show (atI (ns.map Dat.int) i).map RV.val=_
 rw [Dm.jK Dat.int ns i h0 h1]
 unfold at'
 rw [List.getD_eq_getElem?_getD,List.getElem?_eq_getElem (by omega)]
 rfl
theorem GS {ns:List Int} {i:Int} {o p:Option Dat} {K:RV→Prop} (h0:0≤i) (h1:i<ns.length) (k:K (.val (.int (at' ns i)))) (ho:o=some (.lst (ns.map Dat.int))) (hp:p=some (.int i)):Wg2 gIx o p K:=⟨_,_,_,ho,hp,JD ns i h0 h1,k⟩
theorem xu (ns:List Int) (at_:Int) (h0:0≤at_):∃ c,vg [.lst (ns.map Dat.int),.int at_]=some (.val (.int c)):=by
 suffices h:Wr (vg [.lst (ns.map Dat.int),.int at_]) fun v=>∃ c,v=.val (.int c) by
  obtain ⟨v,h1,c,rfl⟩:=h
  exact ⟨c,h1⟩
 unfold vg
 (refine Dm.Wr.fn ?_ rfl rfl;dsimp only [List.map,List.replicate,List.cons_append,List.nil_append])
 repeat array_get_dec
 refine ⟨fun h=>?_,fun h=>?_⟩
 ·have h:=of_decide_eq_true h
  repeat array_get_dec
  refine GS h0 (by simpa using h) ?_ rfl rfl
  repeat array_get_dec
  exact ⟨_,rfl⟩
 ·repeat array_get_dec
  exact ⟨_,rfl⟩
noncomputable def aV (x:Int):Dat:=.lst [.int x]
theorem Fv (ns:List Int) (at_:Int) (h0:0≤at_):∃ x,vh [.lst (ns.map Dat.int),.int at_]=some (.new (aV x)):=by
 obtain ⟨c,ec⟩:=xu ns at_ h0
 suffices h:Wr (vh [.lst (ns.map Dat.int),.int at_]) fun v=>∃ x,v=.new (aV x) by
  obtain ⟨v,h1,c,rfl⟩:=h
  exact ⟨c,h1⟩
 unfold vh
 (refine Dm.Wr.fn ?_ rfl rfl;dsimp only [List.map,List.replicate,List.cons_append,List.nil_append])
 repeat array_get_dec
 refine WF.val ec ?_ rfl rfl
 repeat array_get_dec
 refine Wg2.pow (z:=1000000000000000000) ?_ rfl rfl (by decide) (by decide)
 repeat array_get_dec
 refine ⟨fun h=>?_,fun h=>?_⟩
 ·repeat array_get_dec
  exact ⟨_,rfl⟩
 ·repeat array_get_dec
  refine ⟨?_,by decide,by decide⟩
  refine Ws.inv (fun i:Nat=>Dat.int (0+(i:Nat))) _ _ (List.range 48) _ _ _ _ _ (fun p q ρ=>∃ (x:Int) (c4 c5:Cell),ρ=[.sh (.lst (ns.map Dat.int)),.sh (.int at_),.sh (.int c),.sh (.int x),c4,c5]) ⟨_,_,_,rfl⟩ ?_ ?_
  ·rintro p i q ρ e ⟨x,c4,c5,rfl⟩
   have hi:i<48:=List.mem_range.mp (by rw [e];simp)
   refine Dm.eu rfl (by first | (dsimp only [List.set];first | done | rfl) | rfl) ?_
   unfold Ce
   repeat array_get_dec
   ·exact ⟨_,_,_,rfl⟩
   ·exact .inl (by have:=bF ((c % 998244353+89*(0+((i:Nat):Int))*(0+((i:Nat):Int))+7*at_+1)*48271) 2147483647 (by decide);unfold B64;omega)
   ·exact .inl (by unfold B64;omega)
  ·rintro ρ ⟨x,c4,c5,rfl⟩
   repeat array_get_dec
   exact ⟨_,rfl⟩
theorem Fw (x m:Int) (h0:0<m) (h1:m<jM):bW [aV x,.int m]=some (.val (.int (x % m)),aV (x / m)):=by
 suffices h:WrM (bW [aV x,.int m]) fun v d=>v=.val (.int (x % m))∧d=aV (x / m) by
  obtain ⟨v,d,h1,rfl,rfl⟩:=h
  exact h1
 unfold bW
 refine WrM.fn ?_ rfl rfl
 dsimp only [List.map,List.replicate,List.cons_append,List.nil_append]
 unfold aV
 repeat array_get_dec
 ·refine Ws.Set ?_
  repeat array_get_dec
  ·refine ⟨_,0,_,rfl,rfl,rfl,?_⟩
   repeat array_get_dec
   exact ⟨_,rfl,rfl,rfl⟩
  ·exact ⟨h0,h1⟩
 ·exact h0
noncomputable def Wtk (j:Nat) (m:Int) (ρ1:Env) (Q:Val→Env→Prop):Prop:=∃ x ρ3,Q (.val (.int (x % m))) ρ3∧ρ1[j]?=some (.ow (aV x))∧ρ1.set j (.ow (aV (x / m)))=ρ3∧0<m∧m<jM
theorem bJ {j:Nat} {x m:Int} {ρ1 ρ3:Env} {Q:Val→Env→Prop} (q:Q (.val (.int (x % m))) ρ3) (h2:ρ1[j]?=some (.ow (aV x))) (hn:ρ1.set j (.ow (aV (x / m)))=ρ3) (h0:0<m) (h1:m<jM):Wtk j m ρ1 Q:=⟨_,_,q,h2,hn,h0,h1⟩
theorem We.take {j:Nat} {a:FE} {ρ:Env} {d0:Dat} {Q:Val→Env→Prop} (h:We a ρ fun v ρ1=>cB v fun m=>Wtk j m ρ1 Q) (h0:ρ[j]?=some (.ow d0)):We (eFm bW j [a]) ρ Q:=by
 refine We.Fm (Was.cons ?_) h0
 obtain ⟨v,ρ1,e1,m,rfl,x,ρ3,q,e2,e3,m0,m1⟩:=h
 exact ⟨_,_,e1,Was.nil (WFm.any (Fw x m m0 m1) q e2 rfl e3)⟩
noncomputable def HW (n:Int) (h:List Hv):Prop:=∀ t∈h,0≤t.a∧t.a<t.b∧t.b<n∧1≤t.w∧t.w≤Z30
theorem se (n a t:Int) (hn:2≤n) (a0:0≤a) (a1:a<n) (t0:0≤t) (t1:t<n-1):0≤(a+1+t) % n∧(a+1+t) % n<n∧(a+1+t) % n≠a:=by
 have h:=bF (a+1+t) n (by omega)
 refine ⟨h.1,h.2,?_⟩
 by_cases q:a+1+t<n
 ·rw [Int.emod_eq_of_lt (by omega) q];omega
 ·have e:(a+1+t) % n=(a+1+t-n) % n:=by rw [Int.sub_emod_right]
  rw [e,Int.emod_eq_of_lt (by omega) (by omega)];omega
theorem ix4 (a b c d:Int) (x:Int) (h0:0≤x) (h:x<4):gIx (.lst [.int a,.int b,.int c,.int d]) (.int x)=some (.val (.int (if x=0 then a else if x=1 then b else if x=2 then c else d))):=by
 have:x=0∨x=1∨x=2∨x=3:=by omega
 rcases this with rfl | rfl | rfl | rfl<;>rfl
theorem Co (x n most:Int) (n1:1≤n) (n10:n≤10) (m0:0≤most) (m40:most≤40) :
  ∃ (h:List Hv) (x':Int),vj [aV x,.int n,.int most]=some (.new (hsD h),aV x')∧HW n h∧(h.length:Int)≤most:=by
 suffices hh:WrM (vj [aV x,.int n,.int most]) fun v d=>∃ (h:List Hv) (x':Int),v=.new (hsD h)∧d=aV x'∧HW n h∧(h.length:Int)≤most by
  obtain ⟨v,d,h1,h,x',rfl,rfl,h2⟩:=hh
  exact ⟨h,x',h1,h2⟩
 unfold vj
 refine WrM.fn ?_ rfl rfl
 dsimp only [List.map,List.replicate,List.cons_append,List.nil_append]
 repeat array_get_dec
 refine We.take ?_ rfl
 repeat array_get_dec
 refine bJ ?_ rfl (by first | (dsimp only [List.set];first | done | rfl) | rfl) (by decide) (by decide)
 have hs:=bF x 4 (by decide)
 generalize x % 4=sort at hs
 generalize x / 4=x
 repeat array_get_dec
 refine ⟨fun h=>?_,fun h=>?_⟩
 ·repeat array_get_dec
  exact ⟨_,rfl,[],_,rfl,rfl,(fun t ht=>by cases ht),by simpa using m0⟩
 ·have n2:=of_decide_eq_false h
  repeat array_get_dec
  refine We.take ?_ rfl
  repeat array_get_dec
  refine bJ ?_ rfl (by first | (dsimp only [List.set];first | done | rfl) | rfl) (by omega) (by unfold jM;omega)
  have hc:=bF x (most+1) (by omega)
  generalize x % (most+1)=cnt at hc
  generalize x / (most+1)=x
  refine cB.mk ⟨?_,by unfold BIG;omega⟩
  refine Ws.inv (fun i:Nat=>Dat.int (0+(i:Nat))) _ _ (List.range cnt.toNat) _ _ _ _ _ (fun p q ρ=>∃ (h:List Hv) (x:Int) (c5 c6 c7 c8:Cell),ρ=[.ow (aV x),.sh (.int n),.sh (.int most),.sh (.int sort),.ow (hsD h),c5,c6,c7,c8]∧HW n h∧h.length=p.length) ⟨[],_,_,_,_,_,rfl,(fun t ht=>by cases ht),rfl⟩ ?_ ?_
  ·rintro p i q ρ e ⟨h,x,c5,c6,c7,c8,rfl,hw,hl⟩
   have lp:p.length<100:=by
    have:(List.range cnt.toNat).length=p.length+(q.length+1):=by rw [e];simp
    rw [List.length_range] at this;omega
   refine Dm.eu rfl (by first | (dsimp only [List.set];first | done | rfl) | rfl) ?_
   unfold Cf
   repeat array_get_dec
   refine We.take ?_ rfl
   repeat array_get_dec
   refine bJ ?_ rfl (by first | (dsimp only [List.set];first | done | rfl) | rfl) (by omega) (by unfold jM;omega)
   have ha:=bF x n n1
   generalize x % n=a at ha
   generalize x / n=x
   repeat array_get_dec
   refine We.take ?_ rfl
   repeat array_get_dec
   refine bJ ?_ rfl (by first | (dsimp only [List.set];first | done | rfl) | rfl) (by omega) (by unfold jM;omega)
   have ht:=bF x (n-1) (by omega)
   have hb:=se n a (x % (n-1)) (by omega) ha.1 ha.2 ht.1 ht.2
   generalize x / (n-1)=x2
   refine Wg2.add ?_ rfl rfl
   refine We.v rfl (Wg2.mod ?_ rfl rfl (by omega))
   generalize (a+1+x % (n-1)) % n=b at hb
   refine WA.val ?_ (by first | (dsimp only [List.set];first | done | rfl) | rfl)
   refine Ws.cut (fun ρ=>∃ (b x:Int),(0≤b∧b<n∧b≠a)∧ρ=[.ow (aV x),.sh (.int n),.sh (.int most),.sh (.int sort),.ow (hsD h),.sh (.int (0+(i:Nat))),.sh (.int a),.sh (.int b),c8]) ?_ ?_
   ·repeat array_get_dec
    refine ⟨fun hc=>?_,fun hc=>?_⟩
    ·repeat array_get_dec
     refine We.take ?_ rfl
     repeat array_get_dec
     refine bJ ?_ rfl (by first | (dsimp only [List.set];first | done | rfl) | rfl) (by decide) (by decide)
     repeat array_get_dec
     refine ⟨fun hc=>?_,fun hc=>?_⟩
     ·have hb2:=se n a 0 (by omega) ha.1 ha.2 (by decide) (by omega)
      rw [Int.add_zero] at hb2
      repeat array_get_dec
      ·exact ⟨_,_,hb2,rfl⟩
      ·omega
     ·repeat array_get_dec
      exact ⟨_,_,hb,rfl⟩
    ·repeat array_get_dec
     exact ⟨_,_,hb,rfl⟩
   ·rintro ρ ⟨b,x,hb,rfl⟩
    repeat array_get_dec
    have i4:=ix4 1 3 9 1000 sort hs.1 hs.2
    have hM:∃ M:Int,gIx (.lst [.int 1,.int 3,.int 9,.int 1000]) (.int sort)=some (.val (.int M))∧1≤M∧M≤1000∧(sort≠3→M≤9):=by
     refine ⟨_,i4,?_,?_,?_⟩
     ·split<;>(try split)<;>(try split)<;>omega
     ·split<;>(try split)<;>(try split)<;>omega
     ·intro hs3;split<;>(try split)<;>(try split)<;>omega
    obtain ⟨M,eM,M1,M2,M3⟩:=hM
    refine We.take ?_ rfl
    repeat array_get_dec
    refine Wg2.ix ?_ rfl rfl eM
    repeat array_get_dec
    refine bJ ?_ rfl (by first | (dsimp only [List.set];first | done | rfl) | rfl) (by omega) (by unfold jM;omega)
    have hw1:=bF x M M1
    generalize x % M=w at hw1
    generalize x / M=x
    refine Wg2.add ?_ rfl rfl
    refine WA.val ?_ (by first | (dsimp only [List.set];first | done | rfl) | rfl)
    refine Ws.cut (fun ρ=>∃ (w x:Int),(1≤w∧w≤Z30)∧ρ=[.ow (aV x),.sh (.int n),.sh (.int most),.sh (.int sort),.ow (hsD h),.sh (.int (0+(i:Nat))),.sh (.int a),.sh (.int b),.sh (.int w)]) ?_ ?_
    ·repeat array_get_dec
     refine ⟨fun hc=>?_,fun hc=>?_⟩
     ·repeat array_get_dec
      refine Wg2.pow (z:=1000000000000000000000000000) ?_ rfl rfl (by decide) (by decide)
      repeat array_get_dec
      ·refine We.take ?_ rfl
       repeat array_get_dec
       refine bJ ?_ rfl (by first | (dsimp only [List.set];first | done | rfl) | rfl) (by decide) (by decide)
       have h3:=bF x 3 (by decide)
       repeat array_get_dec
       exact ⟨_,_,by unfold Z30;omega,rfl⟩
      ·exact .inl (by unfold B64;omega)
     ·have hc:=of_decide_eq_false hc
      have:=M3 hc
      repeat array_get_dec
      exact ⟨_,_,by unfold Z30;omega,rfl⟩
    ·rintro ρ ⟨w,x,hw2,rfl⟩
     repeat array_get_dec
     ·by_cases q:b<a
      ·refine ⟨h++[⟨b,a,w⟩],x,.sh (.int (0+(i:Nat))),.sh (.int a),.sh (.int b),.sh (.int w),?_,?_,by simp [hl]⟩
       ·rw [if_pos q,if_neg (by omega)]
        unfold hsD
        rw [List.map_append]
        rfl
       ·intro t ht
        rcases List.mem_append.mp ht with ht | ht
        ·exact hw t ht
        ·rw [List.mem_singleton] at ht;subst ht;exact ⟨hb.1,q,ha.2,hw2.1,hw2.2⟩
      ·refine ⟨h++[⟨a,b,w⟩],x,.sh (.int (0+(i:Nat))),.sh (.int a),.sh (.int b),.sh (.int w),?_,?_,by simp [hl]⟩
       ·rw [if_neg q,if_pos (by omega)]
        unfold hsD
        rw [List.map_append]
        rfl
       ·intro t ht
        rcases List.mem_append.mp ht with ht | ht
        ·exact hw t ht
        ·rw [List.mem_singleton] at ht;subst ht;exact ⟨ha.1,by show a<b;omega,hb.2.1,hw2.1,hw2.2⟩
     ·simp [SZ];omega
  ·rintro ρ ⟨h,x,c5,c6,c7,c8,rfl,hw,hl⟩
   repeat array_get_dec
   exact ⟨_,rfl,h,x,rfl,rfl,hw,by rw [hl,List.length_range];omega⟩
theorem ne_int (i j:Int):gNe (.int i) (.int j)=vB (!decide (i=j)):=by
 have:(i == j)=decide (i=j):=by by_cases h:i=j<;>simp [h]
 show vB (!(i == j))=_
 rw [this]
theorem Cp (p:Hv→Bool):∀ h:List Hv,j6 ((h.filter p).map (·.w))=wsum p h
 | []=>rfl
 | t::h=>by
  rw [List.filter_cons,wsum,← Cp p h]
  by_cases q:p t=true
  ·rw [if_pos q,if_pos q];rfl
  ·rw [if_neg q,if_neg q,Int.zero_add]
theorem vp (i:Int):w_ [.int i]=some (.val (.bl true)):=by
 unfold w_
 simp (config:={ decide:=true }) only [iO,Dm.fn,Dm.aA,Dm.sA,Dm.sR,Dm.sE,Dm.sU,Dm.sIf,Dm.sNx,Dm.lz,Dm.mQ,Dm.gu,Dm.e1,Dm.e2,Dm.eB,Dm.eAs,Dm.eC,Dm.eV,Dm.bz,Dm.cj,Dm.eF,Dm.eIf,Dm.gq,Dm.qS,Dm.tV,Dm.bY,Dm.fV,Dm.tOr,Dm.cT,Dm.pk,Dm.tk,Dm.pks,Dm.tks,Dm.RV.bG,Dm.RV.dat,Dm.fy,Dm.bH,Dm.gX,Dm.fN,Dm.mS,Dm.g7,Dm.g8,Dm.gLt,Dm.gLe,Dm.gGt,Dm.gGe,Dm.iP,Dm.d8,Dm.gJ,Dm.iJ,Dm.iW,Dm.e7,Dm.isI,Dm.isB,Dm.isL,Dm.isT,Dm.vB,Dm.vI,List.map_cons,List.map_nil,List.length_cons,List.length_nil,List.nil_append,List.cons_append,List.replicate,List.getElem?_cons_zero,List.getElem?_cons_succ,List.getElem?_nil,List.set_cons_zero,List.set_cons_succ,List.set_nil,if_true,if_false,Nat.reduceAdd,Dm.iR1,Dm.iR2,Dm.iS,Dm.bN,Dm.bT,Dm.sets,reduceIte,Nat.zero_add,Dm.fG,Option.map_some,Option.map_none,Bool.not_true,Bool.not_false,true_or,or_true,true_and,and_true,decide_true,decide_false,false_or,or_false,false_and,and_false]
theorem jL (i lo hi:Int) (h1:lo≤i) (h2:i≤hi):lR [.int i,.int lo,.int hi]=some (.val (.bl true)):=by
 unfold lR
 have h1':(lo≤i)=True:=by simp [h1]
 have h2':(i≤hi)=True:=by simp [h2]
 simp (config:={ decide:=true }) only [vp,h1',h2',Dm.fn,Dm.aA,Dm.sA,Dm.sR,Dm.sE,Dm.sU,Dm.sIf,Dm.sNx,Dm.lz,Dm.mQ,Dm.gu,Dm.e1,Dm.e2,Dm.eB,Dm.eAs,Dm.eC,Dm.eV,Dm.bz,Dm.cj,Dm.eF,Dm.eIf,Dm.gq,Dm.qS,Dm.tV,Dm.bY,Dm.fV,Dm.tOr,Dm.cT,Dm.pk,Dm.tk,Dm.pks,Dm.tks,Dm.RV.bG,Dm.RV.dat,Dm.fy,Dm.bH,Dm.gX,Dm.fN,Dm.mS,Dm.g7,Dm.g8,Dm.gLt,Dm.gLe,Dm.gGt,Dm.gGe,Dm.iP,Dm.d8,Dm.gJ,Dm.iJ,Dm.iW,Dm.e7,Dm.isI,Dm.isB,Dm.isL,Dm.isT,Dm.vB,Dm.vI,List.map_cons,List.map_nil,List.length_cons,List.length_nil,List.nil_append,List.cons_append,List.replicate,List.getElem?_cons_zero,List.getElem?_cons_succ,List.getElem?_nil,List.set_cons_zero,List.set_cons_succ,List.set_nil,if_true,if_false,Nat.reduceAdd,Dm.iR1,Dm.iR2,Dm.iS,Dm.bN,Dm.bT,Dm.sets,reduceIte,Nat.zero_add,Dm.fG,Option.map_some,Option.map_none,Bool.not_true,Bool.not_false,true_or,or_true,true_and,and_true,decide_true,decide_false,false_or,or_false,false_and,and_false]
theorem jc (n i:Int) (h0:0≤i) (h1:i<n):gj [.int n,.int i]=some (.val (.bl true)):=by
 unfold gj
 simp (config:={ decide:=true }) only [jL i 0 (n-1) h0 (by omega),Dm.fn,Dm.aA,Dm.sA,Dm.sR,Dm.sE,Dm.sU,Dm.sIf,Dm.sNx,Dm.lz,Dm.mQ,Dm.gu,Dm.e1,Dm.e2,Dm.eB,Dm.eAs,Dm.eC,Dm.eV,Dm.bz,Dm.cj,Dm.eF,Dm.eIf,Dm.gq,Dm.qS,Dm.tV,Dm.bY,Dm.fV,Dm.tOr,Dm.cT,Dm.pk,Dm.tk,Dm.pks,Dm.tks,Dm.RV.bG,Dm.RV.dat,Dm.fy,Dm.bH,Dm.gX,Dm.fN,Dm.mS,Dm.g7,Dm.g8,Dm.gLt,Dm.gLe,Dm.gGt,Dm.gGe,Dm.iP,Dm.d8,Dm.gJ,Dm.iJ,Dm.iW,Dm.e7,Dm.isI,Dm.isB,Dm.isL,Dm.isT,Dm.vB,Dm.vI,List.map_cons,List.map_nil,List.length_cons,List.length_nil,List.nil_append,List.cons_append,List.replicate,List.getElem?_cons_zero,List.getElem?_cons_succ,List.getElem?_nil,List.set_cons_zero,List.set_cons_succ,List.set_nil,if_true,if_false,Nat.reduceAdd,Dm.iR1,Dm.iR2,Dm.iS,Dm.bN,Dm.bT,Dm.sets,reduceIte,Nat.zero_add,Dm.fG,Option.map_some,Option.map_none,Bool.not_true,Bool.not_false,true_or,or_true,true_and,and_true,decide_true,decide_false,false_or,or_false,false_and,and_false]
theorem tQ (n a b:Int) (a0:0≤a) (a1:a<n) (b0:0≤b) (b1:b<n) (h:a≠b):lS [.int n,.int a,.int b]=some (.val (.bl true)):=by
 unfold lS
 simp (config:={ decide:=true }) only [jc n a a0 a1,jc n b b0 b1,ne_int,h,Dm.fn,Dm.aA,Dm.sA,Dm.sR,Dm.sE,Dm.sU,Dm.sIf,Dm.sNx,Dm.lz,Dm.mQ,Dm.gu,Dm.e1,Dm.e2,Dm.eB,Dm.eAs,Dm.eC,Dm.eV,Dm.bz,Dm.cj,Dm.eF,Dm.eIf,Dm.gq,Dm.qS,Dm.tV,Dm.bY,Dm.fV,Dm.tOr,Dm.cT,Dm.pk,Dm.tk,Dm.pks,Dm.tks,Dm.RV.bG,Dm.RV.dat,Dm.fy,Dm.bH,Dm.gX,Dm.fN,Dm.mS,Dm.g7,Dm.g8,Dm.gLt,Dm.gLe,Dm.gGt,Dm.gGe,Dm.iP,Dm.d8,Dm.gJ,Dm.iJ,Dm.iW,Dm.e7,Dm.isI,Dm.isB,Dm.isL,Dm.isT,Dm.vB,Dm.vI,List.map_cons,List.map_nil,List.length_cons,List.length_nil,List.nil_append,List.cons_append,List.replicate,List.getElem?_cons_zero,List.getElem?_cons_succ,List.getElem?_nil,List.set_cons_zero,List.set_cons_succ,List.set_nil,if_true,if_false,Nat.reduceAdd,Dm.iR1,Dm.iR2,Dm.iS,Dm.bN,Dm.bT,Dm.sets,reduceIte,Nat.zero_add,Dm.fG,Option.map_some,Option.map_none,Bool.not_true,Bool.not_false,true_or,or_true,true_and,and_true,decide_true,decide_false,false_or,or_false,false_and,and_false]
theorem fR (n:Int) (t:Hv) (h:0≤t.a∧t.a<t.b∧t.b<n∧1≤t.w∧t.w≤Z30):gb [.int n,hvD t]=some (.val (.bl true)):=by
 obtain ⟨a0,ab,b1,w1,w2⟩:=h
 apply Wr.eq
 unfold gb hvD
 (refine Dm.Wr.fn ?_ rfl rfl;dsimp only [List.map,List.replicate,List.cons_append,List.nil_append])
 repeat array_get_dec
 refine Wif.no rfl ?_
 repeat array_get_dec
 refine Wif.no rfl ?_
 repeat array_get_dec
 refine WF.val (tQ n t.a t.b a0 (by omega) (by omega) b1 (by omega)) ?_ rfl rfl
 repeat array_get_dec
 refine Wif.yes (decide_eq_true ab) ?_
 repeat array_get_dec
 refine Wg2.pow (z:=Z30) ?_ rfl rfl (by decide) (by decide)
 repeat array_get_dec
 refine WF.val (jL t.w 1 Z30 w1 w2) ?_ rfl rfl
 repeat array_get_dec
 rfl
theorem jd (n:Int) (n1:1≤n) (n10:n≤10):vf [.int n]=some (.val .non):=by
 have e:n_ [.int n]=some (.val (.bl true)):=by
  unfold n_
  simp (config:={ decide:=true }) only [jL n 1 10 n1 n10,Dm.fn,Dm.aA,Dm.sA,Dm.sR,Dm.sE,Dm.sU,Dm.sIf,Dm.sNx,Dm.lz,Dm.mQ,Dm.gu,Dm.e1,Dm.e2,Dm.eB,Dm.eAs,Dm.eC,Dm.eV,Dm.bz,Dm.cj,Dm.eF,Dm.eIf,Dm.gq,Dm.qS,Dm.tV,Dm.bY,Dm.fV,Dm.tOr,Dm.cT,Dm.pk,Dm.tk,Dm.pks,Dm.tks,Dm.RV.bG,Dm.RV.dat,Dm.fy,Dm.bH,Dm.gX,Dm.fN,Dm.mS,Dm.g7,Dm.g8,Dm.gLt,Dm.gLe,Dm.gGt,Dm.gGe,Dm.iP,Dm.d8,Dm.gJ,Dm.iJ,Dm.iW,Dm.e7,Dm.isI,Dm.isB,Dm.isL,Dm.isT,Dm.vB,Dm.vI,List.map_cons,List.map_nil,List.length_cons,List.length_nil,List.nil_append,List.cons_append,List.replicate,List.getElem?_cons_zero,List.getElem?_cons_succ,List.getElem?_nil,List.set_cons_zero,List.set_cons_succ,List.set_nil,if_true,if_false,Nat.reduceAdd,Dm.iR1,Dm.iR2,Dm.iS,Dm.bN,Dm.bT,Dm.sets,reduceIte,Nat.zero_add,Dm.fG,Option.map_some,Option.map_none,Bool.not_true,Bool.not_false,true_or,or_true,true_and,and_true,decide_true,decide_false,false_or,or_false,false_and,and_false]
 unfold vf
 simp (config:={ decide:=true }) only [e,Dm.fn,Dm.aA,Dm.sA,Dm.sR,Dm.sE,Dm.sU,Dm.sIf,Dm.sNx,Dm.lz,Dm.mQ,Dm.gu,Dm.e1,Dm.e2,Dm.eB,Dm.eAs,Dm.eC,Dm.eV,Dm.bz,Dm.cj,Dm.eF,Dm.eIf,Dm.gq,Dm.qS,Dm.tV,Dm.bY,Dm.fV,Dm.tOr,Dm.cT,Dm.pk,Dm.tk,Dm.pks,Dm.tks,Dm.RV.bG,Dm.RV.dat,Dm.fy,Dm.bH,Dm.gX,Dm.fN,Dm.mS,Dm.g7,Dm.g8,Dm.gLt,Dm.gLe,Dm.gGt,Dm.gGe,Dm.iP,Dm.d8,Dm.gJ,Dm.iJ,Dm.iW,Dm.e7,Dm.isI,Dm.isB,Dm.isL,Dm.isT,Dm.vB,Dm.vI,List.map_cons,List.map_nil,List.length_cons,List.length_nil,List.nil_append,List.cons_append,List.replicate,List.getElem?_cons_zero,List.getElem?_cons_succ,List.getElem?_nil,List.set_cons_zero,List.set_cons_succ,List.set_nil,if_true,if_false,Nat.reduceAdd,Dm.iR1,Dm.iR2,Dm.iS,Dm.bN,Dm.bT,Dm.sets,reduceIte,Nat.zero_add,Dm.fG,Option.map_some,Option.map_none,Bool.not_true,Bool.not_false,true_or,or_true,true_and,and_true,decide_true,decide_false,false_or,or_false,false_and,and_false]
theorem d9 (n:Int) (n1:1≤n) (n10:n≤10) (h:List Hv) (hw:HW n h) (hl:h.length≤40):lT [.int n,hsD h]=some (.val .non):=by
 apply Wr.eq
 unfold lT hsD
 (refine Dm.Wr.fn ?_ rfl rfl;dsimp only [List.map,List.replicate,List.cons_append,List.nil_append])
 repeat array_get_dec
 refine WF.val (jd n n1 n10) ?_ rfl rfl
 refine Ws.seq (Ws.If (Wt.Or (Wt.Not (Wt.V (We.e1 (We.v rfl (Wg1.mk ?_ rfl rfl)))))))
 refine Wb.mk ?_
 refine Wif.no rfl ?_
 refine Wt.V (We.e2 (We.B (Was.cons (We.v rfl (Was.nil (WB.B4 (enc:=hvD) (xs:=h) ?_ rfl))))))
 refine We.c (Wg2.gt (Wb.mk ?_) rfl rfl)
 refine Wif.no (decide_eq_false (by omega)) ?_
 repeat array_get_dec
 refine We.GI hvD h (fun _=>true) (fun _=>Dat.bl true) ?_ rfl rfl rfl (by decide) (by simp [SZ];omega) (fun x _=>Wt.T ⟨rfl,rfl⟩) (fun x hx _=>?_)
 ·repeat array_get_dec
  refine WB.all (fun _=>true) ?_ (by rw [List.filter_eq_self.mpr (fun _ _=>rfl)];rfl)
  repeat array_get_dec
  refine Wif.no (by simp) ?_
  repeat array_get_dec
  rfl
 ·repeat array_get_dec
  refine WF.val (fR n x (hw x hx)) ?_ rfl rfl
  repeat array_get_dec
  exact ⟨rfl,rfl⟩
noncomputable def tupI (S:List Int):Dat:=.tup (S.map Dat.int)
noncomputable def j_ (h:List Hv) (S:Int→Bool):Int:=wsum (fun t=>S t.a != S t.b) h
theorem yS (F:Nat→Int):∀ n,sm F (n+1)=F 0+sm (fun i=>F (i+1)) n
 | 0=>by simp [sm]
 | n+1=>by rw [sm,yS F n,sm];omega
theorem yT (S:Int→Bool):∀ h:List Hv,sm (fun i=>if S (gT h i).a != S (gT h i).b then wI h i else 0) h.length=j_ h S
 | []=>rfl
 | t::h=>by
  rw [List.length_cons,yS,j_,wsum]
  congr 1
  exact yT S h
theorem lZ (h:List Hv) (S:Int→Bool):(jb h).cut S=j_ h S:=yT S h
theorem Cq (h:List Hv) (S:Int→Bool):j_ h (fun x=>!S x)=j_ h S:=by
 rw [← lZ,← lZ,Web.E_]
theorem vq (p:Hv→Bool) {M:Int} (m0:0≤M):∀ h:List Hv,(∀ t∈h,t.w≤M)→wsum p h≤h.length*M
 | [],_=>by simp [wsum]
 | t::h,e=>by
  have h1:=vq p m0 h fun u hu=>e u (List.mem_cons_of_mem _ hu)
  have h2:=e t List.mem_cons_self
  rw [wsum,List.length_cons]
  have:((h.length+1:Nat):Int)*M=h.length*M+M:=by
   rw [Int.natCast_add,Int.add_mul];simp
  rw [this]
  split<;>omega
theorem HW.nn {n:Nat} {h:List Hv} (hw:HW n h) (S:Int→Bool):0≤j_ h S:=yK fun t ht=>by have:=hw t ht;omega
theorem HW.top {n:Nat} {h:List Hv} (hw:HW n h) (hl:h.length≤40) (S:Int→Bool):j_ h S≤1000000000000000000000000000000000000000:=by
 have h1:=vq (fun t=>S t.a != S t.b) (M:=Z30) (by decide) h fun t ht=>(hw t ht).2.2.2.2
 have h2:((h.length:Nat):Int)*Z30≤40*Z30:=Int.mul_le_mul_of_nonneg_right (by omega) (by decide)
 unfold j_
 refine Int.le_trans h1 (Int.le_trans h2 (by decide))
theorem pX (h:List Hv) (hl:h.length≤100) (S:List Int):yN [hsD h,tupI S]=some (.val (.int (j_ h fun q=>decide (q∈S)))):=by
 apply Wr.eq
 unfold yN
 (refine Dm.Wr.fn ?_ rfl rfl;dsimp only [List.map,List.replicate,List.cons_append,List.nil_append])
 refine Ws.R (We.B (Was.cons ?_))
 refine We.GL hvD h (fun t=>decide (t.a∈S) != decide (t.b∈S)) (·.w) Dat.int (fun t=>.int t.a) (fun t=>.int t.b) (fun t=>.int t.w) (fun _=>rfl) (d:=hsD h) ?_ rfl rfl rfl (by decide) (by unfold SZ;omega) (fun u _=>?_) fun u _ _=>?_
 ·refine Was.nil (WB.LZ ?_ rfl)
  rw [Cp]
  rfl
 ·refine Wt.V (We.e2 (We.e2 (We.v rfl (We.v rfl (Wg2.inT (xs:=S) ?_ rfl rfl)))))
  refine We.e2 (We.v rfl (We.v rfl (Wg2.inT (xs:=S) ?_ rfl rfl)))
  exact Wg2.neb (Wb.mk ⟨rfl,rfl⟩) rfl rfl
 ·exact We.v rfl (Wk.val ⟨rfl,rfl⟩)
noncomputable def Cuts (n:Nat) (S:Int→Bool):Prop:=∃ x:Int,1≤x∧x<n∧S x≠S 0
structure GU (n:Nat) (h:List Hv) (T:Int):Prop where
 low:∀ S:Int→Bool,Cuts n S→T≤j_ h S
 ex:∃ S:Int→Bool,Cuts n S∧j_ h S=T
theorem Cuts.split {n:Nat} {S:Int→Bool} (c:Cuts n S):∃ S':Int→Bool,S' 0=true∧(∃ x:Int,1≤x∧x<n∧S' x=false)∧∀ h,j_ h S'=j_ h S:=by
 have c':=c
 obtain ⟨x,x1,x2,x3⟩:=c
 cases e:S 0 with
 | true=>exact ⟨S,e,⟨x,x1,x2,by rw [e] at x3;simpa using x3⟩,fun h=>rfl⟩
 | false=>exact ⟨fun y=>!S y,by simp [e],⟨x,x1,x2,by rw [e] at x3;simpa using x3⟩,fun h=>Cq h S⟩
noncomputable def GV (n:Nat) (h:List Hv) (x most:Int):Dat:=match pS [.int (n:Nat),hsD h,.int x,.int most] with
 | some (.val (.tup [_,d,_]))=>d
 | _=>.non
theorem Ai {n k:Nat} {p q:List Nat} (e:List.range n=p++k::q):k=p.length∧k<n:=by
 have h1:(List.range n)[p.length]?=some k:=by rw [e,List.getElem?_append_right (Nat.le_refl _),Nat.sub_self];rfl
 have h2:p.length<n:=by
  have:(List.range n).length=p.length+(q.length+1):=by rw [e];simp
  rw [List.length_range] at this;omega
 rw [List.getElem?_range h2] at h1
 injection h1 with h1
 omega
theorem Cr (n:Nat):ups 1 n=(List.range n).map fun i:Nat=>Dat.int (1+((i:Nat):Int)):=rfl
theorem vt (n:Nat) (n2:2≤n) (n10:n≤10) (h:List Hv) (hw:HW n h) (hl:h.length≤40) :
  ∃ T d1 d2,lW [.int (n:Nat),hsD h]=some (.val (.tup [.int T,d1,d2]))∧GU n h T:=by
 suffices hh:Wr (lW [.int (n:Nat),hsD h]) fun v=>∃ T d1 d2,v=.val (.tup [.int T,d1,d2])∧GU n h T by
  obtain ⟨v,h1,T,d1,d2,rfl,h2⟩:=hh
  exact ⟨T,d1,d2,h1,h2⟩
 have hp:HP n h:=fun i hi=>by have:=hw _ (pQ hi);omega
 have hw0:∀ i<h.length,0≤wI h i:=fun i hi=>by have:=hw _ (pQ hi);unfold wI;omega
 have hne:∀ i<h.length,(gT h i).a≠(gT h i).b:=fun i hi=>by have:=hw _ (pQ hi);omega
 have fl:∀ (pl:Int),1≤pl→pl<n→∀ most:Int,0≤most→most≤1000000000000000000000000000000000000000→_:=fun pl p1 p2 most m0 m1=>xr n (by omega) (by omega) h hp (by omega) hw0 hne pl p1 p2 most m0 m1
 unfold lW
 (refine Dm.Wr.fn ?_ rfl rfl;dsimp only [List.map,List.replicate,List.cons_append,List.nil_append])
 refine Ws.seq (Ws.E (We.F (Was.cons (We.v rfl (Was.cons (We.v rfl (Was.nil (WF.val (d9 n (by omega) (by omega) h hw hl) ?_ rfl rfl))))))))
 refine Ws.seq (Ws.If (Wt.V (We.e2 (We.v rfl (We.c (Wg2.eq (Wb.mk (Wif.no (decide_eq_false (by omega)) (Ws.nx ?_))) rfl rfl))))))
 have et:rR [.int 1,.int (n:Nat)]=some (.val (tupI ((List.range (n-1)).map fun i:Nat=>1+(i:Int)))):=by
  unfold rR
  dsimp only
  rw [if_pos (by omega)]
  have:((n:Int)-1).toNat=n-1:=by omega
  rw [this,Cr,tupI,List.map_map]
  rfl
 refine Ws.seq (Ws.A (We.B (Was.cons (We.c (Was.cons (We.v rfl (Was.nil ⟨_,_,rfl,et,WA.val ?_ (by first | (dsimp only [List.set];first | done | rfl) | rfl)⟩)))))) (by decide))
 refine Ws.seq (Ws.A (We.F (Was.cons (We.v rfl (Was.cons (We.v rfl (Was.nil (WF.val (pX h (by omega) _) (WA.val ?_ (by first | (dsimp only [List.set];first | done | rfl) | rfl)) rfl rfl))))))) (by decide))
 have s0:Cuts n fun q=>decide (q∈(List.range (n-1)).map fun i:Nat=>1+(i:Int)):=by
  refine ⟨1,by omega,by omega,?_⟩
  have a:(1:Int)∈(List.range (n-1)).map fun i:Nat=>1+(i:Int):=List.mem_map.mpr ⟨0,List.mem_range.mpr (by omega),rfl⟩
  have b:(0:Int)∉(List.range (n-1)).map fun i:Nat=>1+(i:Int):=fun z=>by
   obtain ⟨i,_,e⟩:=List.mem_map.mp z
   omega
  simp only [a,b,decide_true,decide_false]
  decide
 refine Ws.seq (Ws.For (Wi.R2 (We.c (cB.mk (We.v rfl (cB.mk ⟨?_,by unfold BIG;omega⟩))))))
 have el:((n:Int)-1).toNat=n-1:=by omega
 rw [el]
 refine Ws.inv (fun i:Nat=>Dat.int (1+(i:Nat))) _ _ (List.range (n-1)) _ _ _ _ _ (fun p q ρ=>∃ (T:Int) (d2:Dat) (c4 c5:Cell),ρ=[.sh (.int (n:Nat)),.sh (hsD h),.sh d2,.sh (.int T),c4,c5]∧(∃ S,Cuts n S∧j_ h S=T)∧∀ x:Int,1≤x→x≤p.length→∀ S:Int→Bool,S 0=true→S x=false→T≤j_ h S) ⟨_,_,_,_,rfl,⟨_,s0,rfl⟩,fun x x1 x2=>by simp at x2;omega⟩ ?_ ?_
 ·rintro p i q ρ e ⟨T,d2,c4,c5,rfl,⟨S0,s1,s2⟩,lo⟩
  obtain ⟨ip,il⟩:=Ai e
  have t0:0≤T:=by rw [← s2];exact hw.nn S0
  have t1:T≤1000000000000000000000000000000000000000:=by rw [← s2];exact hw.top hl S0
  obtain ⟨T',f1,f2,ef,it⟩:=fl (1+(i:Nat)) (by omega) (by omega) T t0 t1
  refine Dm.eu rfl (by first | (dsimp only [List.set];first | done | rfl) | rfl) ?_
  unfold Cd
  refine Ws.seq (Ws.A (We.F (Was.cons (We.v rfl (Was.cons (We.v rfl (Was.cons (We.v rfl (Was.cons (We.v rfl (Was.nil (WF.box ef ?_ rfl rfl rfl rfl))))))))))) (by decide))
  refine WA.val ?_ (by first | (dsimp only [List.set];first | done | rfl) | rfl)
  refine Ws.If (Wt.V (We.e2 (We.e2 (We.v rfl (We.c (Wg2.ix (v:=.int T') ?_ rfl rfl rfl))))))
  refine We.v rfl (Wg2.lt (Wb.mk ?_) rfl rfl)
  have il:=it.low
  simp only [lZ] at il
  refine ⟨fun c=>?_,fun c=>?_⟩
  ·have c:=of_decide_eq_true c
   refine Ws.seq (Ws.A (We.e2 (We.v rfl (We.c (Wg2.ix (v:=.int T') ?_ rfl rfl rfl)))) (by decide))
   refine WA.val ?_ (by first | (dsimp only [List.set];first | done | rfl) | rfl)
   refine Ws.A (We.e2 (We.v rfl (We.c (Wg2.ix (v:=f2) ?_ rfl rfl rfl)))) (by decide)
   refine WA.val ?_ (by first | (dsimp only [List.set];first | done | rfl) | rfl)
   rcases it.ex with z | ⟨S,y1,y2,y3⟩
   ·omega
   ·rw [lZ] at y3
    refine ⟨_,_,_,_,rfl,⟨S,⟨1+(i:Nat),by omega,by omega,by rw [y1,y2];decide⟩,y3⟩,fun x x1 x2 S z1 z2=>?_⟩
    rw [List.length_append,List.length_singleton] at x2
    by_cases q:x≤p.length
    ·have:=lo x x1 q S z1 z2;omega
    ·have:x=1+(i:Nat):=by omega
     subst this
     exact il S z1 z2
  ·have c:=of_decide_eq_false c
   refine Ws.nx ⟨_,_,_,_,rfl,⟨S0,s1,s2⟩,fun x x1 x2 S z1 z2=>?_⟩
   rw [List.length_append,List.length_singleton] at x2
   by_cases q:x≤p.length
   ·exact lo x x1 q S z1 z2
   ·have:x=1+(i:Nat):=by omega
    subst this
    have:=il S z1 z2
    omega
 ·rintro ρ ⟨T,d2,c4,c5,rfl,⟨S0,s1,s2⟩,lo⟩
  have t0:0≤T:=by rw [← s2];exact hw.nn S0
  have t1:T≤1000000000000000000000000000000000000000:=by rw [← s2];exact hw.top hl S0
  refine Ws.R (We.T (Was.cons (We.v rfl (Was.cons (We.v rfl (Was.cons (We.Map (fun i:Nat=>Dat.int (1+(i:Nat))) (List.range (n-1)) (fun i:Nat=>GV n h (1+(i:Nat)) T) id (ρ1:=[.sh (.int (n:Nat)),.sh (hsD h),.sh d2,.sh (.int T),c4,c5]) ?_ ?_ rfl (by decide) (by rw [List.length_range];unfold SZ;omega) fun i hi=>?_)))))))
  ·refine Was.nil (WT.mk ?_ rfl rfl (by exact Nat.le_of_ble_eq_true rfl))
   refine ⟨T,_,_,rfl,fun S c=>?_,S0,s1,s2⟩
   obtain ⟨S',z0,⟨x,x1,x2,x3⟩,z4⟩:=c.split
   rw [← z4 h]
   rw [List.length_range] at lo
   exact lo x x1 (by omega) S' z0 x3
  ·apply Wi.get
   refine Wi.R2 (We.c (cB.mk (We.v rfl (cB.mk ⟨⟨?_,rfl⟩,by unfold BIG;omega⟩))))
   rw [el]
   rfl
  ·have hi:=List.mem_range.mp hi
   obtain ⟨T',f1,f2,ef,it⟩:=fl (1+(i:Nat)) (by omega) (by omega) T t0 t1
   refine We.e2 (We.F (Was.cons (We.v rfl (Was.cons (We.v rfl (Was.cons (We.v rfl (Was.cons (We.v rfl (Was.nil (WF.box ef ?_ rfl rfl rfl rfl)))))))))))
   refine We.c (Wg2.ix (v:=f1) (Wk.val ⟨?_,rfl⟩) rfl rfl rfl)
   unfold GV
   rw [ef]
   rfl
noncomputable def plc (n:Nat) (q:Nat→Bool):List Int:=((List.range n).filter q).map fun i:Nat=>((i:Nat):Int)
theorem yU (n:Nat) (q:Nat→Bool) (x:Int):x∈plc n q↔0≤x∧x<n∧q x.toNat=true:=by
 unfold plc
 constructor
 ·intro h
  obtain ⟨i,hi,rfl⟩:=List.mem_map.mp h
  obtain ⟨h1,h2⟩:=List.mem_filter.mp hi
  have:=List.mem_range.mp h1
  exact ⟨by omega,by omega,by simpa using h2⟩
 ·rintro ⟨h0,h1,h⟩
  exact List.mem_map.mpr ⟨x.toNat,List.mem_filter.mpr ⟨List.mem_range.mpr (by omega),h⟩,by omega⟩
theorem JE (n:Nat) (q:Nat→Bool):(plc n q).Pairwise (· < ·):=by
 unfold plc
 rw [List.pairwise_map]
 refine List.Pairwise.imp (R:=fun a b=>a<b) (fun h=>by omega) ?_
 exact List.Pairwise.sublist List.filter_sublist List.pairwise_lt_range
theorem Fx (n:Nat) (q:Nat→Bool):(plc n q).length≤n:=by
 unfold plc
 rw [List.length_map]
 exact Nat.le_trans (List.length_filter_le _ _) (by simp)
theorem yV (n:Nat):ups 0 n=(List.range n).map fun i:Nat=>Dat.int ((i:Nat):Int):=by
 unfold ups
 apply List.map_congr_left
 intro i _
 simp
theorem Np (n:Nat) (q:Nat→Bool):((List.range n).filter q).map (fun i:Nat=>Dat.int ((i:Nat):Int))=(plc n q).map Dat.int:=by
 unfold plc
 rw [List.map_map]
 rfl
theorem We.Plc (n:Nat) (q:Nat→Bool) {a:FE} {k:Nat} {t:FT} {ρ:Env} {Q:Val→Env→Prop}
  (hq:Q (.new (.lst ((plc n q).map Dat.int))) ρ) (ha:a ρ=some (.val (.int (n:Nat)),ρ)) (hk:ρ.length=k) (hk0:k≠0) (hn:n≤1000)
  (ht:∀ i:Nat,i<n→Wt t (ρ++[.sh (.int (i:Nat))]) fun c ρ'=>c=q i∧ρ'=ρ++[.sh (.int (i:Nat))]):We (cU (iR1 a) 1 (bN k) t (eV k)) ρ Q:=by
 have hit:iR1 a ρ=some ((List.range n).map (fun i:Nat=>Dat.int ((i:Nat):Int)),ρ):=by
  unfold iR1
  rw [ha]
  dsimp only
  have:((n:Int)≤BIG∧-BIG≤(n:Int)):=by unfold BIG;omega
  rw [if_pos this,Int.toNat_natCast,yV]
 refine We.Comp (fun i:Nat=>Dat.int ((i:Nat):Int)) (List.range n) q (fun i:Nat=>Dat.int ((i:Nat):Int)) (by rw [Np];exact hq) hit hk hk0 (by simp [SZ];omega) (fun i hi=>ht i (List.mem_range.mp hi)) (fun i _ _=>?_)
 refine We.v (d:=.int (i:Nat)) (by rw [List.getElem?_append_right (by omega),hk,Nat.sub_self];rfl) (Wk.val ⟨rfl,rfl⟩)
theorem tR (h:List Hv) (hl:h.length≤40) (x:Int) (row:List Int):Fc [hsD h,.int x,.lst (row.map Dat.int)]=some (.val (.int (wTo h row x))):=by
 apply Wr.eq
 unfold Fc
 (refine Dm.Wr.fn ?_ rfl rfl;dsimp only [List.map,List.replicate,List.cons_append,List.nil_append])
 repeat array_get_dec
 refine We.GL hvD h (toB row x) (·.w) Dat.int (fun t=>.int t.a) (fun t=>.int t.b) (fun t=>.int t.w) (fun _=>rfl) ?_ rfl rfl rfl (by decide) (by simp [SZ];omega) (fun t _=>?_) (fun t _ _=>?_)
 ·repeat array_get_dec
  refine WB.LZ ?_ rfl
  rw [Cp]
  repeat array_get_dec
  rfl
 ·unfold toB Jx
  repeat array_get_dec
  refine ⟨fun h1=>?_,fun h1=>?_⟩
  ·rw [h1]
   repeat array_get_dec
   refine Wg2.inL (xs:=row) ?_ rfl rfl
   repeat array_get_dec
   refine ⟨fun h2=>?_,fun h2=>?_⟩
   ·rw [h2];exact ⟨rfl,rfl⟩
   ·rw [h2]
    repeat array_get_dec
    refine ⟨fun h3=>?_,fun h3=>?_⟩
    ·rw [h3]
     repeat array_get_dec
     refine Wg2.inL (xs:=row) ?_ rfl rfl
     repeat array_get_dec
     exact ⟨rfl,rfl⟩
    ·rw [h3];exact ⟨rfl,rfl⟩
  ·rw [h1]
   repeat array_get_dec
   refine ⟨fun h3=>?_,fun h3=>?_⟩
   ·rw [h3]
    repeat array_get_dec
    refine Wg2.inL (xs:=row) ?_ rfl rfl
    repeat array_get_dec
    exact ⟨rfl,rfl⟩
   ·rw [h3];exact ⟨rfl,rfl⟩
 ·repeat array_get_dec
  exact ⟨rfl,rfl⟩
theorem HW.web {n:Nat} {h:List Hv} (w:HW n h):Web n h:=fun t ht=>by
 have:=w t ht
 exact ⟨by omega,by omega,by omega,by omega,by omega,by omega⟩
inductive OR (n:Nat) (h:List Hv) (f:Int):List Int→Prop
 | one:0≤f→f<n→OR n h f [f]
 | step (row:List Int) (v:Int):OR n h f row→v∉row→0≤v→v<n→(∀ x:Int,0≤x→x<n→x∉row→wTo h row x<wTo h row v∨(wTo h row x=wTo h row v∧v≤x))→OR n h f (row++[v])
theorem OR.facts {n:Nat} {h:List Hv} {f:Int} {row:List Int} (m:OR n h f row):row.Nodup∧(∀ x∈row,0≤x∧x<n)∧row≠[]:=by
 induction m with
 | one f0 f1=>exact ⟨by simp,by simp [f0,f1],by simp⟩
 | step row v m hv v0 v1 _ ih=>
  refine ⟨List.nodup_append.mpr ⟨ih.1,by simp,fun x hx y hy e=>?_⟩,fun x hx=>?_,by simp⟩
  ·rw [List.mem_singleton] at hy;subst hy;subst e;exact hv hx
  ·rcases List.mem_append.mp hx with hx | hx
   ·exact ih.2.1 x hx
   ·rw [List.mem_singleton] at hx;subst hx;exact ⟨v0,v1⟩
theorem pY (v:Int):∀ (ns:List Int) (i:Nat),n8 v ns=some i→∀ j,j<i→∀ hj:j<ns.length,ns[j]≠v
 | [],_,h,_,_,_=>by cases h
 | x::ns,i,h,j,hj,hl=>by
  rw [n8] at h
  by_cases e:x=v
  ·rw [if_pos e] at h;cases h;omega
  ·rw [if_neg e] at h
   cases hh:n8 v ns with
   | none=>rw [hh] at h;cases h
   | some k=>
    rw [hh] at h
    cases h
    cases j with
    | zero=>exact e
    | succ j=>exact pY v ns k hh j (by dsimp only at hj;omega) (by simpa using hl)
theorem vv (n:Nat) (n1:1≤n) (n10:n≤10) (h:List Hv) (hw:HW n h) (hl:h.length≤40) (f:Int) (f0:0≤f) (f1:f<n) :
  ∃ row:List Int,tN [.int (n:Nat),hsD h,.int f]=some (.new (.lst (row.map Dat.int)))∧OR n h f row∧row.length=n:=by
 suffices hh:Wr (tN [.int (n:Nat),hsD h,.int f]) fun v=>∃ row:List Int,v=.new (.lst (row.map Dat.int))∧OR n h f row∧row.length=n by
  obtain ⟨v,h1,row,rfl,h2⟩:=hh
  exact ⟨row,h1,h2⟩
 unfold tN
 (refine Dm.Wr.fn ?_ rfl rfl;dsimp only [List.map,List.replicate,List.cons_append,List.nil_append])
 repeat array_get_dec
 refine WF.val (d9 n (by omega) (by omega) h hw hl) ?_ rfl rfl
 repeat array_get_dec
 refine WF.val (jc n f f0 f1) ?_ rfl rfl
 repeat array_get_dec
 refine Wif.no rfl ?_
 repeat array_get_dec
 refine Ws.wh (fun k ρ=>∃ (row:List Int) (c4 c5:Cell),ρ=[.sh (.int (n:Nat)),.sh (hsD h),.sh (.int f),.ow (.lst (row.map Dat.int)),c4,c5]∧OR n h f row∧k+row.length=n) ?_ 100 (n-1) _ (by omega) ⟨[f],_,_,rfl,OR.one f0 f1,by simp;omega⟩
 rintro k ρ ⟨row,c4,c5,rfl,m,hk⟩
 obtain ⟨nd,inr,ne⟩:=m.facts
 repeat array_get_dec
 refine ⟨fun hc=>?_,fun hc=>?_⟩
 ·have hc:=of_decide_eq_true hc
  unfold GP
  repeat array_get_dec
  refine We.Plc n (fun i=>!decide (((i:Nat):Int)∈row)) ?_ rfl rfl (by decide) (by omega) (fun i hi=>?_)
  ·have hleft:plc n (fun i=>!decide (((i:Nat):Int)∈row))≠[]:=fun z=>by
    have:n≤row.length:=by
     have:=ff (places n) row (by
      unfold places
      rw [List.Nodup,List.pairwise_map]
      refine List.Pairwise.imp (R:=fun a b=>a<b) (fun h=>by omega) List.pairwise_lt_range) (fun x hx=>by
       have hx:=(ir n x).mp hx
       refine Decidable.byContradiction fun hnx=>?_
       have:x∈plc n (fun i=>!decide (((i:Nat):Int)∈row)):=(yU _ _ _).mpr ⟨hx.1,hx.2,by
        have:((x.toNat:Nat):Int)=x:=by omega
        rw [this,decide_eq_false hnx];rfl⟩
       rw [z] at this
       cases this)
     rwa [places_len] at this
    omega
   have hmem:∀ x,x∈plc n (fun i=>!decide (((i:Nat):Int)∈row))↔0≤x∧x<n∧x∉row:=fun x=>by
    rw [yU]
    constructor
    ·rintro ⟨a,b,c⟩
     have:((x.toNat:Nat):Int)=x:=by omega
     rw [this] at c
     exact ⟨a,b,ndT c⟩
    ·rintro ⟨a,b,c⟩
     have:((x.toNat:Nat):Int)=x:=by omega
     exact ⟨a,b,by rw [this,decide_eq_false c];rfl⟩
   have hlen:=Fx n (fun i=>!decide (((i:Nat):Int)∈row))
   have hup:=JE n (fun i=>!decide (((i:Nat):Int)∈row))
   generalize plc n (fun i=>!decide (((i:Nat):Int)∈row))=left at hleft hmem hlen hup
   repeat array_get_dec
   refine We.LW Dat.int left (wTo h row) Dat.int ?_ rfl rfl rfl (by decide) (by simp [SZ];omega) (fun x _=>?_)
   ·repeat array_get_dec
    obtain ⟨y,ys,hy⟩:=List.exists_cons_of_ne_nil hleft
    have hmx:=rS (ys.map (wTo h row)) (wTo h row y)
    generalize Nq:h_ (wTo h row y) (ys.map (wTo h row))=mx at hmx
    have min:mx∈left.map (wTo h row):=by
     rw [hy,List.map_cons]
     rcases hmx.1 with e | e
     ·rw [e];simp
     ·exact List.mem_cons_of_mem _ e
    obtain ⟨i,hi,hi2,hi3⟩:=rT mx _ min
    refine We.Index ?_
    repeat array_get_dec
    refine ⟨⟨_,rfl⟩,?_⟩
    repeat array_get_dec
    refine WB.Ni (n:=wTo h row y) (ns:=ys.map (wTo h row)) ?_ (by rw [hy];rfl)
    rw [Nq]
    refine Wg2.index hi ?_ rfl rfl
    rw [List.length_map] at hi2
    refine GS (by omega) (by omega) ?_ rfl rfl
    have hev:at' left ((i:Nat):Int)=left[i]:=by
     unfold at'
     rw [Int.toNat_natCast,List.getD_eq_getElem?_getD,List.getElem?_eq_getElem hi2]
     rfl
    rw [hev]
    have hv:=(hmem left[i]).mp (List.getElem_mem hi2)
    have hvw:wTo h row left[i]=mx:=by rw [← hi3,List.getElem_map]
    have GW:∀ x:Int,0≤x→x<n→x∉row→wTo h row x<wTo h row left[i]∨(wTo h row x=wTo h row left[i]∧left[i]≤x):=fun x x0 x1 hx=>by
     have hxl:=(hmem x).mpr ⟨x0,x1,hx⟩
     rw [hvw]
     have hle:wTo h row x≤mx:=by
      have hxl:=hxl
      rw [hy] at hxl
      rcases List.mem_cons.mp hxl with rfl | hxl
      ·exact hmx.2.1
      ·exact hmx.2.2 _ (List.mem_map.mpr ⟨x,hxl,rfl⟩)
     by_cases heq:wTo h row x=mx
     ·refine .inr ⟨heq,?_⟩
      obtain ⟨j,hj,ej⟩:=List.getElem_of_mem hxl
      by_cases hji:j<i
      ·have:=pY mx _ i hi j hji (by simpa using hj)
       rw [List.getElem_map,ej] at this
       exact absurd heq this
      ·by_cases hij:j=i
       ·subst hij;rw [ej];exact Int.le_refl _
       ·have:=List.pairwise_iff_getElem.mp hup i j hi2 hj (by omega)
        rw [ej] at this
        omega
     ·exact .inl (by omega)
    generalize left[i]=v at hv hvw GW
    repeat array_get_dec
    ·refine ⟨k-1,by omega,row++[v],.ow (.lst (left.map Dat.int)),.ow (.lst ((left.map (wTo h row)).map Dat.int)),by rw [List.map_append];rfl,OR.step row v m hv.2.2 hv.1 hv.2.1 GW,by simp;omega⟩
    ·simp [SZ];omega
   ·repeat array_get_dec
    refine WF.val (tR h hl x row) ?_ rfl rfl
    repeat array_get_dec
    exact ⟨rfl,rfl⟩
  ·repeat array_get_dec
   refine Wg2.Nh (xs:=row) ?_ rfl rfl
   repeat array_get_dec
   exact ⟨rfl,rfl⟩
 ·have hc:=of_decide_eq_false hc
  repeat array_get_dec
  exact ⟨row,rfl,m,by omega⟩
noncomputable def xw (i:Nat):Dat:=.int ((i:Nat):Int)
theorem Cs:∀ (k:Nat) (l:List Int),gO k (l.map Dat.int)=(List.range l.length).map fun i=>.tup [.int ((k+i:Nat):Int),.int (l.getD i 0)]
 | _,[]=>rfl
 | k,t::l=>by
  rw [List.map_cons,gO,Cs (k+1) l,List.length_cons,List.range_succ_eq_map,List.map_cons,List.map_map]
  congr 1
  apply List.map_congr_left
  intro i _
  show Dat.tup [.int ((k+1+i:Nat):Int),_]=Dat.tup [.int ((k+(i+1):Nat):Int),_]
  have:k+1+i=k+(i+1):=by omega
  rw [this]
  rfl
theorem L7 {a b c:Dat} {o:Option Dat} {K:List Dat→Prop} (k:K [a,b,c]) (ho:o=some (.tup [a,b,c])):∃ xs,o=some (.tup xs)∧¬ (sIx xs.length 0 none=0∧sIx xs.length xs.length (some 2)=xs.length)∧K xs:=
 ⟨_,ho,by show ¬ (sIx 3 0 none=0∧sIx 3 3 (some 2)=3);decide,k⟩
theorem qX (h:List Hv) (hl:h.length≤40) (x:Int) (p:List Int) (hp:p.length≤20):yM [hsD h,.int x,.lst (p.map Dat.int)]=some (.new (.lst ((stk h p x).map xw))):=by
 apply Wr.eq
 unfold yM
 (refine Dm.Wr.fn ?_ rfl rfl;dsimp only [List.map,List.replicate,List.cons_append,List.nil_append])
 repeat array_get_dec
 refine Ws.inv Dat.int _ _ p _ _ _ _ _ (fun q r ρ=>∃ c4,ρ=[.sh (hsD h),.sh (.int x),.sh (.lst (p.map Dat.int)),.ow (.lst ((stk h q x).map xw)),c4]∧(stk h q x).length≤40*q.length) ⟨_,rfl,by simp [stk]⟩ ?_ ?_
 ·rintro q u r ρ e ⟨c4,rfl,hlen⟩
  have lq:q.length≤20:=by
   have:p.length=q.length+(r.length+1):=by rw [e];simp
   omega
  refine Dm.eu rfl (by first | (dsimp only [List.set];first | done | rfl) | rfl) ?_
  unfold B8
  have hb:(btw h x u).length≤40:=Nat.le_trans (List.length_filter_le _ _) (by simp;omega)
  refine Ws.Ext ?_ rfl
  refine We.GK (fun i:Nat=>Dat.tup [.int ((0+i:Nat):Int),hvD (gT h i)]) (List.range h.length) (fun i=>bt x u (gT h i)) (fun i=>i) xw (fun i=>[.sh (hsD h),.sh (.int x),.sh (.lst (p.map Dat.int)),.ow (.lst ((stk h q x).map xw)),.sh (.int u),.sh (.int ((0+i:Nat):Int)),.sh (hvD (gT h i))]) (ρ1:=[.sh (hsD h),.sh (.int x),.sh (.lst (p.map Dat.int)),.ow (.lst ((stk h q x).map xw)),.sh (.int u)]) ?_ ?_ (fun i=>rfl) (fun i j=>rfl) (fun i=>rfl) (by simp [SZ];omega) (fun i hi=>?_) (fun i hi _=>?_)
  ·rw [List.map_id']
   refine ⟨_,_,_,rfl,rfl,rfl,⟨.sh (.int u),?_,?_⟩,?_⟩
   ·rw [ve,List.map_append];rfl
   ·rw [ve,List.length_append,List.length_append,List.length_singleton]
    omega
   ·rw [List.length_map,List.length_map]
    show _+(btw h x u).length≤SZ
    unfold SZ;omega
  ·show some (gO 0 (h.map hvD),_)=_
   rw [xq 0 h]
   rfl
  ·unfold bt
   repeat array_get_dec
   refine L7 ?_ rfl
   repeat array_get_dec
   refine ⟨fun h1=>?_,fun h1=>?_⟩
   ·rw [h1]
    repeat array_get_dec
    refine L7 ?_ rfl
    repeat array_get_dec
    exact ⟨rfl,rfl⟩
   ·rw [h1];exact ⟨rfl,rfl⟩
  ·repeat array_get_dec
   exact ⟨by unfold xw;rw [Nat.zero_add],rfl⟩
 ·rintro ρ ⟨c4,rfl,_⟩
  repeat array_get_dec
  rfl
noncomputable def ez (D:List En):List Nat:=D.map (·.1)
theorem l5 (w:Nat→Int):∀ (l:Int) (is:List Nat),ez (ent w l is)=is
 | _,[]=>rfl
 | l,i::is=>by show i::ez (ent w (l+w i) is)=_;rw [l5 w _ is]
theorem vz (w:Nat→Int) (j:Nat):∀ (l:Int) (is:List Nat),ent w l (is++[j])=ent w l is++[(j,l+sW tt w is,l+sW tt w is+w j)]
 | l,[]=>by show [(j,l,l+w j)]=[(j,l+0,l+0+w j)];rw [Int.add_zero]
 | l,i::is=>by
  show (i,l,l+w i)::ent w (l+w i) (is++[j])=(i,l,l+w i)::(ent w (l+w i) is++_)
  rw [vz w j (l+w i) is]
  have:sW tt w (i::is)=w i+sW tt w is:=rfl
  rw [this,← Int.add_assoc]
theorem je {n:Nat} {h:List Hv} (W:Web n h) {p:List Int} {v:Int} (hv:v∉p) (i:Nat):i∈stk h p v↔i<h.length∧(((gT h i).a=v∧(gT h i).b∈p)∨((gT h i).b=v∧(gT h i).a∈p)):=by
 constructor
 ·intro hi
  obtain ⟨u,hu,hb⟩:=Fb hi
  obtain ⟨h1,h2,h3⟩:=yL hb
  have hvu:v≠u:=fun e=>hv (e▸hu)
  refine ⟨h1,?_⟩
  rcases h2 with h2 | h2<;>rcases h3 with h3 | h3
  ·exact absurd (h2.trans h3.symm) hvu
  ·exact .inl ⟨h2.symm,h3▸hu⟩
  ·exact .inr ⟨h2.symm,h3▸hu⟩
  ·exact absurd (h2.trans h3.symm) hvu
 ·rintro ⟨h1,h2⟩
  refine List.mem_flatMap.mpr ?_
  rcases h2 with ⟨h2,h3⟩ | ⟨h2,h3⟩
  ·exact ⟨_,h3,List.mem_filter.mpr ⟨List.mem_range.mpr h1,by simp [bt,h2]⟩⟩
  ·exact ⟨_,h3,List.mem_filter.mpr ⟨List.mem_range.mpr h1,by simp [bt,h2]⟩⟩
theorem nj {n:Nat} {h:List Hv} (W:Web n h) (v:Int):∀ (p:List Int),p.Nodup→v∉p→(stk h p v).Nodup
 | [],_,_=>by simp [stk]
 | u::p,nd,hv=>by
  obtain ⟨n1,n2⟩:=List.nodup_cons.mp nd
  have hvu:v≠u:=fun e=>hv (by rw [e];exact List.mem_cons_self)
  have hvp:v∉p:=fun e=>hv (List.mem_cons_of_mem _ e)
  have e:stk h (u::p) v=btw h v u++stk h p v:=by simp [stk]
  rw [e]
  refine List.nodup_append.mpr ⟨List.Nodup.sublist List.filter_sublist List.nodup_range,nj W v p n2 hvp,fun i hi j hj eij=>?_⟩
  subst eij
  obtain ⟨h1,h2,h3⟩:=yL hi
  obtain ⟨_,h4⟩:=(je W hvp i).mp hj
  rcases h4 with ⟨h4,h5⟩ | ⟨h4,h5⟩
  ·rcases h3 with h3 | h3
   ·exact hvu (h4.symm.trans h3.symm)
   ·exact n1 (h3▸h5)
  ·rcases h3 with h3 | h3
   ·exact n1 (h3▸h5)
   ·exact hvu (h4.symm.trans h3.symm)
theorem BD.facts {n:Nat} {h:List Hv} (W:Web n h) {p:List Int} {D:List En} (b:BD h p D):p.Nodup→(ez D).Nodup∧(∀ i,i∈ez D↔i<h.length∧(gT h i).a∈p∧(gT h i).b∈p):=by
 induction b with
 | nil=>intro _;exact ⟨by simp [ez],fun i=>by simp [ez]⟩
 | step p D v b ih=>
  intro nd
  obtain ⟨n1,_,n3⟩:=List.nodup_append.mp nd
  have hv:v∉p:=fun z=>n3 v z v (by simp) rfl
  obtain ⟨i1,i2⟩:=ih n1
  have ek:ez (D++ent (wI h) 0 (stk h p v))=ez D++stk h p v:=by
   show (D++_).map _=_
   rw [List.map_append]
   show ez D++ez _=_
   rw [l5]
  rw [ek]
  refine ⟨List.nodup_append.mpr ⟨i1,nj W v p n1 hv,fun i hi j hj e=>?_⟩,fun i=>?_⟩
  ·subst e
   obtain ⟨_,a1,b1⟩:=(i2 i).mp hi
   obtain ⟨_,h4⟩:=(je W hv i).mp hj
   rcases h4 with ⟨h4,_⟩ | ⟨h4,_⟩
   ·exact hv (h4▸a1)
   ·exact hv (h4▸b1)
  ·rw [List.mem_append,i2,je W hv]
   constructor
   ·rintro (⟨h1,h2,h3⟩ | ⟨h1,h2⟩)
    ·exact ⟨h1,List.mem_append_left _ h2,List.mem_append_left _ h3⟩
    ·rcases h2 with ⟨h2,h3⟩ | ⟨h2,h3⟩
     ·exact ⟨h1,by simp [h2],List.mem_append_left _ h3⟩
     ·exact ⟨h1,List.mem_append_left _ h3,by simp [h2]⟩
   ·rintro ⟨h1,h2,h3⟩
    have ne:=(W _ (pQ h1)).2.1
    rcases List.mem_append.mp h2 with h2 | h2<;>rcases List.mem_append.mp h3 with h3 | h3
    ·exact .inl ⟨h1,h2,h3⟩
    ·exact .inr ⟨h1,.inr ⟨List.mem_singleton.mp h3,h2⟩⟩
    ·exact .inr ⟨h1,.inl ⟨List.mem_singleton.mp h2,h3⟩⟩
    ·exact absurd ((List.mem_singleton.mp h2).trans (List.mem_singleton.mp h3).symm) ne
noncomputable def kD (D:List En):List Int:=D.map fun e=>((e.1:Nat):Int)
noncomputable def l6 (b:Int×Int):Dat:=.tup [.int b.1,.int b.2]
noncomputable def vD (D:List En):List Dat:=D.map fun e=>l6 e.2
noncomputable def lk (D:List En) (i:Nat):Int×Int:=((D.find? fun e=>decide (e.1=i)).map (·.2)).getD (0,0)
theorem Fy {D:List En} {i:Nat} (hi:i∈ez D):(i,lk D i)∈D∧dB (kD D) (vD D) (i:Nat)=some (l6 (lk D i)):=by
 have lm:∀ (xs:List En) (k:Int),dB (xs.map fun e=>((e.1:Nat):Int)) (xs.map fun e=>l6 e.2) k=(xs.find? fun x=>decide (((x.1:Nat):Int)=k)).map fun e=>l6 e.2:=by
  intro xs k
  induction xs with
  | nil=>rfl
  | cons x xs ih=>
   rw [List.map_cons,List.map_cons,dB,List.find?_cons]
   by_cases h:((x.1:Nat):Int)=k
   ·simp [h]
   ·simp [h,ih]
 have ec:(fun x:En=>decide (((x.1:Nat):Int)=((i:Nat):Int)))=fun x:En=>decide (x.1=i):=by
  funext x
  exact decide_eq_decide.mpr (by omega)
 unfold kD vD
 rw [lm,ec]
 unfold lk
 cases hf:D.find? fun e=>decide (e.1=i) with
 | none=>
  obtain ⟨e,he,hx⟩:=List.mem_map.mp hi
  have:=List.find?_eq_none.mp hf e he
  simp [hx] at this
 | some e=>
  have h1:=List.mem_of_find?_eq_some hf
  have h2:=List.find?_some hf
  have h2:e.1=i:=by simpa using h2
  refine ⟨?_,rfl⟩
  show (i,e.2)∈D
  rw [← h2];exact h1
theorem JF {D:List En} {i:Nat}:((i:Nat):Int)∈kD D↔i∈ez D:=by
 unfold kD ez
 rw [List.mem_map,List.mem_map]
 constructor
 ·rintro ⟨e,he,h⟩;exact ⟨e,he,by omega⟩
 ·rintro ⟨e,he,h⟩;exact ⟨e,he,by rw [h]⟩
theorem Ct {n:Nat} {p q:List Nat} {i:Nat} (e:List.range n=p++i::q):i=p.length∧i<n:=by
 have hl:(List.range n).length=p.length+(q.length+1):=by rw [e];simp
 rw [List.length_range] at hl
 have h1:(List.range n)[p.length]?=some i:=by rw [e,List.getElem?_append_right (Nat.le_refl _),Nat.sub_self];rfl
 rw [List.getElem?_range (by omega)] at h1
 cases h1
 exact ⟨rfl,by omega⟩
theorem Cu (row:List Int) (i:Nat) (hi:i≤row.length):pP row none (some ((i:Nat):Int))=row.take i:=by
 unfold pP sIx
 dsimp only
 rw [if_neg (by omega)]
 simp
 omega
theorem Cv (n:Nat) (n1:1≤n) (n10:n≤10) (h:List Hv) (hw:HW n h) (hl:h.length≤40) (row:List Int) (nd:row.Nodup) (rl:row.length≤10) (full:∀ i,i<h.length→(gT h i).a∈row∧(gT h i).b∈row) :
  ∃ D,BD h row D∧pR [.int (n:Nat),hsD h,.lst (row.map Dat.int)]=some (.new (.lst ((List.range h.length).map fun i=>l6 (lk D i)))):=by
 have W:=hw.web
 suffices hh:Wr (pR [.int (n:Nat),hsD h,.lst (row.map Dat.int)]) fun v=>∃ D,BD h row D∧v=.new (.lst ((List.range h.length).map fun i=>l6 (lk D i))) by
  obtain ⟨v,h1,D,h2,rfl⟩:=hh
  exact ⟨D,h2,h1⟩
 unfold pR
 (refine Dm.Wr.fn ?_ rfl rfl;dsimp only [List.map,List.replicate,List.cons_append,List.nil_append])
 refine Ws.seq (Ws.E (We.F (Was.cons (We.v rfl (Was.cons (We.v rfl (Was.nil ?_)))))))
 refine WF.val (d9 n (by omega) (by omega) h hw hl) ?_ rfl rfl
 refine Ws.seq (Ws.A (We.Dn ?_) (by decide))
 refine WA.new ?_ (by first | (dsimp only [List.set];first | done | rfl) | rfl)
 refine Ws.seq (Ws.For (Wi.En (We.v rfl (Wk.val ⟨_,rfl,?_⟩))))
 rw [Cs 0 row]
 refine Ws.inv (fun i:Nat=>Dat.tup [.int ((0+i:Nat):Int),.int (row.getD i 0)]) _ _ (List.range row.length) _ _ _ _ _ (fun p q ρ=>∃ (D:List En) (c4 c5 c6 c7 c8:Cell),BD h (row.take p.length) D∧ρ=[.sh (.int (n:Nat)),.sh (hsD h),.sh (.lst (row.map Dat.int)),.ow (.dct (kD D) (vD D)),c4,c5,c6,c7,c8]) ⟨[],_,_,_,_,_,BD.nil,rfl⟩ ?_ ?_
 ·rintro p i q ρ e ⟨D,c4,c5,c6,c7,c8,b,rfl⟩
  obtain ⟨hip,hir⟩:=Ct e
  rw [← hip] at b
  have ndt:(row.take i).Nodup:=List.Nodup.sublist (List.take_sublist _ _) nd
  have er:row.getD i 0=row[i]:=by rw [List.getD_eq_getElem?_getD,List.getElem?_eq_getElem hir];rfl
  have et:row.take (i+1)=row.take i++[row[i]]:=List.take_succ_eq_append_getElem hir
  have hv:row[i]∉row.take i:=fun z=>by
   have:(row.take (i+1)).Nodup:=List.Nodup.sublist (List.take_sublist _ _) nd
   rw [et] at this
   exact (List.nodup_append.mp this).2.2 _ z _ (by simp) rfl
  obtain ⟨kn,kk⟩:=b.facts W ndt
  have sn:=nj W row[i] (row.take i) ndt hv
  have hdl:D.length≤40:=by
   have:=ff (ez D) (List.range h.length) kn (fun j hj=>List.mem_range.mpr ((kk j).mp hj).1)
   simp [ez] at this;omega
  have hsl:(stk h (row.take i) row[i]).length≤40:=by
   have:=ff (stk h (row.take i) row[i]) (List.range h.length) sn (fun j hj=>List.mem_range.mpr ((je W hv j).mp hj).1)
   simp at this;omega
  rw [er]
  have e0:((0+i:Nat):Int)=((i:Nat):Int):=by rw [Nat.zero_add]
  rw [e0]
  refine Dm.eu rfl (by first | (dsimp only [List.set];first | done | rfl) | rfl) ?_
  unfold B_
  repeat array_get_dec
  rw [Cu row i (by omega)]
  repeat array_get_dec
  refine WF.box (qX h hl row[i] (row.take i) (by rw [List.length_take];omega)) ?_ rfl rfl rfl (by first | (dsimp only [List.set];first | done | rfl) | rfl)
  repeat array_get_dec
  generalize hI:stk h (row.take i) row[i]=is at sn hsl
  refine Ws.inv xw _ _ is _ _ _ _ _ (fun p' q' ρ=>∃ (c7 c8:Cell),ρ=[.sh (.int (n:Nat)),.sh (hsD h),.sh (.lst (row.map Dat.int)),.ow (.dct (kD (D++ent (wI h) 0 p')) (vD (D++ent (wI h) 0 p'))),.sh (.int ((i:Nat):Int)),.sh (.int row[i]),.sh (.int (0+sW tt (wI h) p')),c7,c8]) ⟨c7,c8,by simp [ent,sW]⟩ ?_ ?_
  ·rintro p' j q' ρ e' ⟨c7,c8,rfl⟩
   have hj:j∈stk h (row.take i) row[i]:=by rw [hI,e'];simp
   obtain ⟨j1,j2⟩:=(je W hv j).mp hj
   refine Dm.eu rfl (by first | (dsimp only [List.set];first | done | rfl) | rfl) ?_
   unfold B9
   repeat array_get_dec
   refine Wg2.ixL (enc:=hvD) (xs:=h) (by omega) (by simp;omega) ?_ rfl rfl
   have eg:h[(((j:Nat):Int)).toNat]'(by simp;omega)=gT h j:=by
    unfold gT
    rw [List.getD_eq_getElem?_getD,List.getElem?_eq_getElem j1]
    rfl
   rw [eg]
   repeat array_get_dec
   ·have hnew:((j:Nat):Int)∉kD (D++ent (wI h) 0 p'):=fun z=>by
     have z:=JF.mp z
     have ek:ez (D++ent (wI h) 0 p')=ez D++p':=by
      show (D++_).map _=_
      rw [List.map_append]
      show ez D++ez _=_
      rw [l5]
     rw [ek] at z
     rcases List.mem_append.mp z with z | z
     ·obtain ⟨_,a1,b1⟩:=(kk j).mp z
      rcases j2 with ⟨j2,_⟩ | ⟨j2,_⟩
      ·exact hv (j2▸a1)
      ·exact hv (j2▸b1)
     ·rw [e'] at sn
      exact (List.nodup_append.mp sn).2.2 j z j (by simp) rfl
    obtain ⟨p1,p2⟩:=yO (ks:=kD (D++ent (wI h) 0 p')) (vs:=vD (D++ent (wI h) 0 p')) (i:=((j:Nat):Int)) (d:=l6 (0+sW tt (wI h) p',0+sW tt (wI h) p'+wI h j)) hnew
    have ee:D++ent (wI h) 0 (p'++[j])=(D++ent (wI h) 0 p')++[(j,0+sW tt (wI h) p',0+sW tt (wI h) p'+wI h j)]:=by
     rw [vz,List.append_assoc]
    have ek:kD (D++ent (wI h) 0 (p'++[j]))=lK (kD (D++ent (wI h) 0 p')) ((j:Nat):Int):=by
     rw [p1,ee];unfold kD;rw [List.map_append (l₂:=[_])];rfl
    have hev:vD (D++ent (wI h) 0 (p'++[j]))=lM (kD (D++ent (wI h) 0 p')) (vD (D++ent (wI h) 0 p')) ((j:Nat):Int) (l6 (0+sW tt (wI h) p',0+sW tt (wI h) p'+wI h j)):=by
     rw [p2,ee];unfold vD;rw [List.map_append (l₂:=[_])];rfl
    have es:0+sW tt (wI h) (p'++[j])=0+sW tt (wI h) p'+wI h j:=by
     rw [B7]
     show 0+(sW tt (wI h) p'+((if tt j then wI h j else 0)+0))=_
     unfold tt;simp
    exact ⟨_,_,by rw [ek,hev,es];rfl⟩
   ·have:p'.length≤is.length:=by rw [e'];simp
    have l2:(ent (wI h) 0 p').length=p'.length:=by rw [← List.length_map (f:=(·.1))];exact congrArg List.length (l5 _ _ _)
    simp only [kD,List.length_map,List.length_append,l2,SZ];omega
  ·rintro ρ ⟨c7,c8,rfl⟩
   refine ⟨D++ent (wI h) 0 is,_,_,_,_,_,?_,rfl⟩
   rw [List.length_append,List.length_singleton,← hip,et,← hI]
   exact BD.step _ _ _ b
 ·rintro ρ ⟨D,c4,c5,c6,c7,c8,b,rfl⟩
  rw [List.length_range,List.take_length] at b
  obtain ⟨kn,kk⟩:=b.facts W nd
  refine Ws.R ?_
  refine We.Comp (fun i:Nat=>Dat.int (0+(i:Nat))) (List.range h.length) (fun _=>true) (fun i=>l6 (lk D i)) (ρ1:=[.sh (.int (n:Nat)),.sh (hsD h),.sh (.lst (row.map Dat.int)),.ow (.dct (kD D) (vD D)),c4,c5,c6,c7,c8]) ?_ ?_ rfl (by decide) (by simp [SZ];omega) (fun i _=>Wt.T ⟨rfl,rfl⟩) (fun i hi _=>?_)
  ·refine WR.new ?_
   rw [List.filter_eq_self.mpr (fun _ _=>rfl)]
   exact ⟨D,b,rfl⟩
  ·have e1:eB d8 [eV 1] [.sh (.int (n:Nat)),.sh (hsD h),.sh (.lst (row.map Dat.int)),.ow (.dct (kD D) (vD D)),c4,c5,c6,c7,c8]=some (.val (.int (h.length:Nat)),[.sh (.int (n:Nat)),.sh (hsD h),.sh (.lst (row.map Dat.int)),.ow (.dct (kD D) (vD D)),c4,c5,c6,c7,c8]):=by
    show some (Val.val (.int ((h.map hvD).length:Nat)),_)=_
    rw [List.length_map]
   unfold iR1
   rw [e1]
   dsimp only
   rw [if_pos (by unfold BIG;omega),Int.toNat_natCast]
   rfl
  ·have hi:=List.mem_range.mp hi
   obtain ⟨_,l2⟩:=Fy ((kk i).mpr ⟨hi,full i hi⟩)
   repeat array_get_dec
   refine Wg2.dx (by rw [Int.zero_add];exact l2) ?_ rfl rfl
   repeat array_get_dec
   exact ⟨rfl,rfl⟩
theorem d7 (i lo hi:Int) (h:¬ (lo≤i∧i≤hi)):lR [.int i,.int lo,.int hi]=some (.val (.bl false)):=by
 apply Wr.eq
 unfold lR
 (refine Dm.Wr.fn ?_ rfl rfl;dsimp only [List.map,List.replicate,List.cons_append,List.nil_append])
 refine Ws.R (We.And (We.F (Was.cons (We.v rfl (Was.nil (WF.val (vp i) (Wb.mk (Wif.t ?_)) rfl rfl))))))
 have e1:gLe (.int lo) (.int i)=some (.val (.bl (decide (lo≤i)))):=rfl
 have e2:gLe (.int i) (.int hi)=some (.val (.bl (decide (i≤hi)))):=rfl
 have e:fG gLe gLe (eV 1) (eV 0) (eV 2) [.sh (.int i),.sh (.int lo),.sh (.int hi)]=some (.val (.bl false),[.sh (.int i),.sh (.int lo),.sh (.int hi)]):=by
  unfold fG
  simp only [eV,List.getElem?_cons_zero,List.getElem?_cons_succ,pk,e1,e2,RV.bG]
  by_cases q:lo≤i
  ·rw [decide_eq_true q,decide_eq_false fun z=>h ⟨q,z⟩]
  ·rw [decide_eq_false q]
 exact ⟨_,_,e,rfl⟩
theorem fE (n i:Int) (h:¬ (0≤i∧i<n)):gj [.int n,.int i]=some (.val (.bl false)):=by
 apply Wr.eq
 unfold gj
 (refine Dm.Wr.fn ?_ rfl rfl;dsimp only [List.map,List.replicate,List.cons_append,List.nil_append])
 refine Ws.R (We.F (Was.cons (We.v rfl (Was.cons (We.c (Was.cons (We.e2 (We.v rfl (We.c (Wg2.sub ?_ rfl rfl))))))))))
 exact Was.nil (WF.val (d7 i 0 (n-1) (by omega)) rfl rfl rfl)
theorem jf (n:Int) (d1 d2:Dat) (h:gj [.int n,d1]=some (.val (.bl false))):lS [.int n,d1,d2]=some (.val (.bl false)):=by
 apply Wr.eq
 unfold lS
 (refine Dm.Wr.fn ?_ rfl rfl;dsimp only [List.map,List.replicate,List.cons_append,List.nil_append])
 exact Ws.R (We.And (We.F (Was.cons (We.v rfl (Was.cons (We.v rfl (Was.nil (WF.val h (Wb.mk (Wif.f rfl)) rfl rfl))))))))
theorem jh (n:Int) (d1 d2:Dat) (h1:gj [.int n,d1]=some (.val (.bl true))) (h:gj [.int n,d2]=some (.val (.bl false))):lS [.int n,d1,d2]=some (.val (.bl false)):=by
 apply Wr.eq
 unfold lS
 (refine Dm.Wr.fn ?_ rfl rfl;dsimp only [List.map,List.replicate,List.cons_append,List.nil_append])
 refine Ws.R (We.And (We.F (Was.cons (We.v rfl (Was.cons (We.v rfl (Was.nil (WF.val h1 (Wb.mk (Wif.t ?_)) rfl rfl))))))))
 exact We.And (We.F (Was.cons (We.v rfl (Was.cons (We.v rfl (Was.nil (WF.val h (Wb.mk (Wif.f rfl)) rfl rfl)))))))
theorem Cw (n p:Int) (h1:gj [.int n,.int p]=some (.val (.bl true))):lS [.int n,.int p,.int p]=some (.val (.bl false)):=by
 apply Wr.eq
 unfold lS
 (refine Dm.Wr.fn ?_ rfl rfl;dsimp only [List.map,List.replicate,List.cons_append,List.nil_append])
 refine Ws.R (We.And (We.F (Was.cons (We.v rfl (Was.cons (We.v rfl (Was.nil (WF.val h1 (Wb.mk (Wif.t ?_)) rfl rfl))))))))
 refine We.And (We.F (Was.cons (We.v rfl (Was.cons (We.v rfl (Was.nil (WF.val h1 (Wb.mk (Wif.t ?_)) rfl rfl)))))))
 refine We.e2 (We.v rfl (We.v rfl (Wg2.ne ?_ rfl rfl)))
 rw [decide_eq_true rfl]
 rfl
theorem gR (d:Dat) (h:lR [d,.int 1,.int 10]=some (.val (.bl false))):n_ [d]=some (.val (.bl false)):=by
 apply Wr.eq
 unfold n_
 (refine Dm.Wr.fn ?_ rfl rfl;dsimp only [List.map,List.replicate,List.cons_append,List.nil_append])
 exact Ws.R (We.F (Was.cons (We.v rfl (Was.cons (We.c (Was.cons (We.c (Was.nil (WF.val h rfl rfl rfl)))))))))
theorem eE (d:Dat) (lo hi:Int) (h:w_ [d]=some (.val (.bl false))):lR [d,.int lo,.int hi]=some (.val (.bl false)):=by
 apply Wr.eq
 unfold lR
 (refine Dm.Wr.fn ?_ rfl rfl;dsimp only [List.map,List.replicate,List.cons_append,List.nil_append])
 exact Ws.R (We.And (We.F (Was.cons (We.v rfl (Was.nil (WF.val h (Wb.mk (Wif.f rfl)) rfl rfl))))))
theorem gy {f:List Dat→Option RV} {as:List FE} {ρ ρ1:Env} {xs:List Val} {ds:List Dat} (h1:eAs as ρ=some (xs,ρ1)) (h2:pks ρ1 xs=some ds) (h:f ds=none):eF f as ρ=none:=by
 unfold eF;rw [h1];dsimp only;rw [h2];dsimp only;rw [h]
theorem iu {e:FE} {ρ:Env} (h:e ρ=none):sE e ρ=none:=by unfold sE;rw [h]
theorem gS {a b:FS} {ρ:Env} (h:a ρ=none):aA a b ρ=none:=by unfold aA;rw [h]
theorem oJ {t:FT} {a b:FS} {ρ ρ1:Env} {c:Bool} (ht:t ρ=some (c,ρ1)) (h:(if c then a ρ1 else b ρ1)=none):sIf t a b ρ=none:=by
 unfold sIf;rw [ht];cases c<;>exact h
theorem xx {f g:FS} {ρ:Env} (h:f ρ=none) {N:Env→Prop} {R:RV→Env→Prop} {B C:Env→Prop} (k:Ws g ρ N R B C):Ws (sUn f g) ρ N R B C:=by
 obtain ⟨o,e,q⟩:=k
 exact ⟨o,by unfold sUn;rw [h];exact e,q⟩
theorem l7 {R:Env→Option Env} {C ie:Nat} {h:FS} {ρ:Env} (e:R ρ=none):gP R C ie h ρ=none:=by unfold gP;rw [e]
theorem tS {Rr:Env→Option Env} {C ie:Nat} {h:FS} {ρ ρ1:Env} (e:Rr ρ=some ρ1) (h0:ie≠0) {N:Env→Prop} {R:RV→Env→Prop} {B D:Env→Prop} (k:Ws h (ρ1.set ie (.sh (.exc C))) (fun ρ'=>N (ρ'.set ie .un)) (fun r ρ'=>R r (ρ'.set ie .un)) (fun _=>False) (fun _=>False)):Ws (gP Rr C ie h) ρ N R B D:=by
 obtain ⟨o,eo,q⟩:=k
 cases o with
 | nx ρ'=>exact ⟨.nx (ρ'.set ie .un),by unfold gP;rw [e];dsimp only;rw [if_neg h0,eo],q⟩
 | ret r ρ'=>exact ⟨.ret r (ρ'.set ie .un),by unfold gP;rw [e];dsimp only;rw [if_neg h0,eo],q⟩
 | bk ρ'=>exact q.elim
 | ct ρ'=>exact q.elim
theorem bx {bad:List Dat→Bool} {fs:List FE} {ρ ρ1:Env} {xs:List Val} {ds:List Dat} (h1:eAs fs ρ=some (xs,ρ1)) (h2:pks ρ1 xs=some ds) (h:bad ds=true):a_ bad fs ρ=some ρ1:=by
 unfold a_;rw [h1];dsimp only;rw [h2];dsimp only;rw [if_pos h]
theorem gk {n m:Nat} {body:FS} {ds:List Dat} (h:body (ds.map Cell.sh++List.replicate m .un)=none):fn n m body ds=none:=by
 unfold fn
 split
 ·rw [h]
 ·rfl
theorem eG {n m:Nat} {R:Env→Option Env} {ds:List Dat} {ρ:Env} (hl:ds.length=n) (h:R (ds.map Cell.sh++List.replicate m .un)=some ρ):fnX n m R ds=true:=by
 unfold fnX
 rw [h,decide_eq_true hl]
 rfl
theorem We.drw {j:Nat} {a:FE} {ρ:Env} {x m:Int} {Q:Val→Env→Prop} (ha:a ρ=some (.val (.int m),ρ)) (h0:0<m) (h1:m<jM) (hj:ρ[j]?=some (.ow (aV x))) (k:∀ t x':Int,0≤t→t<m→∀ ρ3,ρ.set j (.ow (aV x'))=ρ3→Q (.val (.int t)) ρ3):We (eFm bW j [a]) ρ Q:=
 We.take ⟨_,_,ha,m,rfl,bJ (k _ _ (bF x m (by omega)).1 (bF x m (by omega)).2 _ rfl) hj rfl h0 h1⟩ hj
theorem tT (n:Int) (d:Dat) (h:iO isT d=some (.val (.bl false))):gb [.int n,d]=some (.val (.bl false)):=by
 apply Wr.eq
 unfold gb
 (refine Dm.Wr.fn ?_ rfl rfl;dsimp only [List.map,List.replicate,List.cons_append,List.nil_append])
 refine Ws.seq (Ws.If (Wt.Or (Wt.Not (Wt.V (We.e1 (We.v rfl (Wg1.mk (v:=.val (.bl false)) (Wb.mk (Wif.t (Wif.t ?_))) rfl h)))))))
 exact Ws.R (We.c rfl)
theorem xy (n:Int) (ds:List Dat) (h:ds.length≠3) (hl:ds.length<100):gb [.int n,.tup ds]=some (.val (.bl false)):=by
 apply Wr.eq
 unfold gb
 (refine Dm.Wr.fn ?_ rfl rfl;dsimp only [List.map,List.replicate,List.cons_append,List.nil_append])
 refine Ws.seq (Ws.If (Wt.Or (Wt.Not (Wt.V (We.e1 (We.v rfl (Wg1.mk (v:=.val (.bl true)) (Wb.mk (Wif.f ?_)) rfl rfl)))))))
 refine Wt.V (We.e2 (We.B (Was.cons (We.v rfl (Was.nil (WB.Ju ?_ rfl))))))
 refine We.c (Wg2.ne (Wb.mk ?_) rfl rfl)
 rw [decide_eq_false (by omega)]
 exact Wif.t (Ws.R (We.c rfl))
theorem Cy (n:Int) (x y z:Dat) {c:Bool} (k:We (gq (eF lS [(eV 0),(e2 gIx (eV 1) (eC (.int 0))),(e2 gIx (eV 1) (eC (.int 1)))]) (gq (e2 gLt (e2 gIx (eV 1) (eC (.int 0))) (e2 gIx (eV 1) (eC (.int 1)))) (eF lR [(e2 gIx (eV 1) (eC (.int 2))),(eC (.int 1)),(e2 g8 (eC (.int 10)) (eC (.int 30)))]))) [.sh (.int n),.sh (.tup [x,y,z])] fun v ρ=>v=.val (.bl c)):gb [.int n,.tup [x,y,z]]=some (.val (.bl c)):=by
 apply Wr.eq
 unfold gb
 (refine Dm.Wr.fn ?_ rfl rfl;dsimp only [List.map,List.replicate,List.cons_append,List.nil_append])
 refine Ws.seq (Ws.If (Wt.Or (Wt.Not (Wt.V (We.e1 (We.v rfl (Wg1.mk (v:=.val (.bl true)) (Wb.mk (Wif.f ?_)) rfl rfl)))))))
 refine Wt.V (We.e2 (We.B (Was.cons (We.v rfl (Was.nil (WB.Ju ?_ rfl))))))
 refine We.c (Wg2.ne (Wb.mk (Wif.no rfl (Ws.nx ?_))) rfl rfl)
 obtain ⟨v,ρ,e,rfl⟩:=k
 exact Ws.R ⟨_,_,e,rfl⟩
theorem eK (n:Int) (x y z:Dat) (h:lS [.int n,x,y]=some (.val (.bl false))):gb [.int n,.tup [x,y,z]]=some (.val (.bl false)):=Cy n x y z (by
 refine We.And (We.F (Was.cons (We.v rfl (Was.cons (We.e2 (We.v rfl (We.c (Wg2.ix ?_ rfl rfl rfl))))))))
 refine Was.cons (We.e2 (We.v rfl (We.c (Wg2.ix ?_ rfl rfl rfl))))
 exact Was.nil (WF.val h (Wb.mk (Wif.f rfl)) rfl rfl))
theorem L8 (n i j:Int) (z:Dat) (h:lS [.int n,.int i,.int j]=some (.val (.bl true))) (hl:¬ i<j):gb [.int n,.tup [.int i,.int j,z]]=some (.val (.bl false)):=Cy n _ _ z (by
 refine We.And (We.F (Was.cons (We.v rfl (Was.cons (We.e2 (We.v rfl (We.c (Wg2.ix ?_ rfl rfl rfl))))))))
 refine Was.cons (We.e2 (We.v rfl (We.c (Wg2.ix ?_ rfl rfl rfl))))
 refine Was.nil (WF.val h (Wb.mk (Wif.t ?_)) rfl rfl)
 refine We.And (We.e2 (We.e2 (We.v rfl (We.c (Wg2.ix ?_ rfl rfl rfl)))))
 refine We.e2 (We.v rfl (We.c (Wg2.ix ?_ rfl rfl rfl)))
 exact Wg2.lt (Wb.mk (Wif.no (decide_eq_false hl) rfl)) rfl rfl)
theorem Nr (n i j:Int) (z:Dat) (h:lS [.int n,.int i,.int j]=some (.val (.bl true))) (hl:i<j) (hz:lR [z,.int 1,.int Z30]=some (.val (.bl false))):gb [.int n,.tup [.int i,.int j,z]]=some (.val (.bl false)):=Cy n _ _ z (by
 refine We.And (We.F (Was.cons (We.v rfl (Was.cons (We.e2 (We.v rfl (We.c (Wg2.ix ?_ rfl rfl rfl))))))))
 refine Was.cons (We.e2 (We.v rfl (We.c (Wg2.ix ?_ rfl rfl rfl))))
 refine Was.nil (WF.val h (Wb.mk (Wif.t ?_)) rfl rfl)
 refine We.And (We.e2 (We.e2 (We.v rfl (We.c (Wg2.ix ?_ rfl rfl rfl)))))
 refine We.e2 (We.v rfl (We.c (Wg2.ix ?_ rfl rfl rfl)))
 refine Wg2.lt (Wb.mk (Wif.yes (decide_eq_true hl) ?_)) rfl rfl
 refine We.F (Was.cons (We.e2 (We.v rfl (We.c (Wg2.ix (v:=z) ?_ rfl rfl rfl)))))
 refine Was.cons (We.c (Was.cons (We.e2 (We.c (We.c (Wg2.pow (z:=Z30) ?_ rfl rfl (by decide) (by decide)))))))
 exact Was.nil (WF.val hz rfl rfl rfl))
noncomputable def Aj (n a b t:Int):List Dat:=
 [.tup [.int b,.int a,.int 1],.tup [.int a,.int a,.int 1],.tup [.int a,.int n,.int 1],.tup [.int (-1),.int a,.int 1],.tup [.int a,.int (n+t),.int 1],.tup [.int a,.int b,.int 0],.tup [.int a,.int b,.int (-2)]] ++
 [.tup [.int a,.int b,.int (Z30+1)],.tup [.int a,.int b,.bl true],.tup [.bl true,.int 2,.int 1],.tup [.int a,.int b,.str [49]],.tup [.int a,.int b],.tup [.int a,.int b,.int 1,.int 1],.lst [.int a,.int b,.int 1]] ++
 [.non,.int a,.tup [],.tup [.str [48],.int b,.int 1],.tup [.int a,.non,.int 1],.tup [.int a,.int b,.non],.tup [.bl false,.int b,.int 1],.tup [.int 0,.bl true,.int 1]]
theorem Fz (n a t:Int) (n1:1≤n) (a0:0≤a) (a1:a<n) (t0:0≤t):∀ d∈Aj n a (if n<a+1 then n else a+1) t,gb [.int n,d]=some (.val (.bl false)):=by
 have pa:=jc n a a0 a1
 have p0:=jc n 0 (by decide) (by omega)
 have pn:=fE n n (by omega)
 have hb:(if n<a+1 then n else a+1)=a+1:=if_neg (by omega)
 rw [hb]
 have W:∀ z:Dat,lR [z,.int 1,.int Z30]=some (.val (.bl false))→gb [.int n,.tup [.int a,.int (a+1),z]]=some (.val (.bl false)):=fun z hz=>by
  by_cases q:a+1<n
  ·exact Nr n a (a+1) z (tQ n a (a+1) a0 a1 (by omega) q (by omega)) (by omega) hz
  ·exact eK n _ _ z (jh n _ _ pa (fE n _ (by omega)))
 intro d hd
 unfold Aj at hd
 simp only [List.cons_append,List.nil_append,List.mem_cons,List.not_mem_nil,or_false] at hd
 rcases hd with rfl | rfl | rfl | rfl | rfl | rfl | rfl | rfl | rfl | rfl | rfl | rfl | rfl | rfl | rfl | rfl | rfl | rfl | rfl | rfl | rfl | rfl
 ·by_cases q:a+1<n
  ·exact L8 n (a+1) a _ (tQ n (a+1) a (by omega) q a0 a1 (by omega)) (by omega)
  ·exact eK n _ _ _ (jf n _ _ (fE n _ (by omega)))
 ·exact eK n _ _ _ (Cw n _ pa)
 ·exact eK n _ _ _ (jh n _ _ pa pn)
 ·exact eK n _ _ _ (jf n _ _ (fE n _ (by omega)))
 ·exact eK n _ _ _ (jh n _ _ pa (fE n _ (by omega)))
 ·exact W _ (d7 0 1 Z30 (by decide))
 ·exact W _ (d7 (-2) 1 Z30 (by decide))
 ·exact W _ (d7 (Z30+1) 1 Z30 (by decide))
 ·exact W _ (eE _ _ _ rfl)
 ·exact eK n _ _ _ (jf n _ _ rfl)
 ·exact W _ (eE _ _ _ rfl)
 ·exact xy n [.int a,.int (a+1)] (by simp) (by simp)
 ·exact xy n [.int a,.int (a+1),.int 1,.int 1] (by simp) (by simp)
 ·exact tT n _ rfl
 ·exact tT n _ rfl
 ·exact tT n _ rfl
 ·exact xy n [] (by decide) (by decide)
 ·exact eK n _ _ _ (jf n _ _ rfl)
 ·exact eK n _ _ _ (jh n _ _ pa rfl)
 ·exact W _ (eE _ _ _ rfl)
 ·exact eK n _ _ _ (jf n _ _ rfl)
 ·exact eK n _ _ _ (jh n _ _ p0 rfl)
noncomputable def Bad (n:Nat) (d:Dat):Prop:=lT [.int n,d]=none∧aI [.int n,d]=true
section
variable (n:Nat) (n1:1≤n) (n10:n≤10)
include n1 n10
theorem lp (d:Dat):sE (eF vf [(eV 0)]) [.sh (.int n),.sh d]=some (.nx [.sh (.int n),.sh d]):=by
 have e:eF vf [(eV 0)] [.sh (.int n),.sh d]=some (.val .non,[.sh (.int n),.sh d]):=We.get (We.F (Was.cons (We.v rfl (Was.nil (WF.val (jd n (by omega) (by omega)) ⟨rfl,rfl⟩ rfl rfl)))))
 unfold sE
 rw [e]
theorem GX (d:Dat) (h:(tOr (bY (tV (e1 (iO isL) (eV 1)))) (tV (e2 gGt (eB d8 [(eV 1)]) (eC (.int 40))))) [.sh (.int n),.sh d]=some (true,[.sh (.int n),.sh d])):Bad n d:=by
 constructor
 ·refine gk ?_
  show aA _ _ [.sh (.int n),.sh d]=none
  unfold aA
  rw [lp n n1 n10 d]
  show aA _ _ [.sh (.int n),.sh d]=none
  exact gS (oJ h rfl)
 ·refine eG (ρ:=[.sh (.int n),.sh d]) rfl ?_
  show i_ _ _ [.sh (.int n),.sh d]=_
  unfold i_
  rw [lp n n1 n10 d]
  show rOr _ _ [.sh (.int n),.sh d]=_
  unfold rOr rIf
  rw [h]
  rfl
theorem L_ (d:Dat) (h:(tOr (bY (tV (e1 (iO isL) (eV 1)))) (tV (e2 gGt (eB d8 [(eV 1)]) (eC (.int 40))))) [.sh (.int n),.sh d]=some (false,[.sh (.int n),.sh d])) (h2:(bY (tV (eB sP [(bQ 1 1 (bN 2) cT (eF gb [(eV 0),(eV 2)]))]))) [.sh (.int n),.sh d]=some (true,[.sh (.int n),.sh d])):Bad n d:=by
 have s1:sIf (tOr (bY (tV (e1 (iO isL) (eV 1)))) (tV (e2 gGt (eB d8 [(eV 1)]) (eC (.int 40))))) (fun _=>none) sNx [.sh (.int n),.sh d]=some (.nx [.sh (.int n),.sh d]):=by
  unfold sIf;rw [h];rfl
 constructor
 ·refine gk ?_
  show aA _ _ [.sh (.int n),.sh d]=none
  unfold aA
  rw [lp n n1 n10 d]
  show (match sIf _ _ _ [.sh (.int n),.sh d] with | some (.nx ρ)=>sIf _ _ _ ρ | o=>o)=none
  rw [s1]
  exact oJ h2 rfl
 ·refine eG (ρ:=[.sh (.int n),.sh d]) rfl ?_
  show i_ _ _ [.sh (.int n),.sh d]=_
  unfold i_
  rw [lp n n1 n10 d]
  show rOr _ _ [.sh (.int n),.sh d]=_
  unfold rOr
  have e0:rIf (tOr (bY (tV (e1 (iO isL) (eV 1)))) (tV (e2 gGt (eB d8 [(eV 1)]) (eC (.int 40))))) zY rNo [.sh (.int n),.sh d]=none:=by unfold rIf;rw [h];rfl
  rw [e0]
  show i_ _ _ [.sh (.int n),.sh d]=_
  unfold i_
  rw [s1]
  show rIf _ _ _ [.sh (.int n),.sh d]=_
  unfold rIf
  rw [h2]
  rfl
theorem Cz (d:Dat) (h:iO isL d=some (.val (.bl false))):Bad n d:=GX n n1 n10 d (Wt.get (Wt.Or (Wt.Not (Wt.V (We.e1 (We.v rfl (Wg1.mk (v:=.val (.bl false)) (Wb.mk (Wif.t ⟨rfl,rfl⟩)) rfl h)))))))
theorem FA (ds:List Dat) (h:40<ds.length):Bad n (.lst ds):=GX n n1 n10 _ (Wt.get (by
 refine Wt.Or (Wt.Not (Wt.V (We.e1 (We.v rfl (Wg1.mk (v:=.val (.bl true)) (Wb.mk (Wif.f ?_)) rfl rfl)))))
 refine Wt.V (We.e2 (We.B (Was.cons (We.v rfl (Was.nil (WB.len ?_ rfl))))))
 refine We.c (Wg2.gt (Wb.mk ⟨?_,rfl⟩) rfl rfl)
 exact decide_eq_true (by omega)))
theorem FD (ds:List Dat) (hl:ds.length≤40) (p:Dat→Bool) (h:∀ d∈ds,gb [.int n,d]=some (.val (.bl (p d)))) (hp:ds.all p=false):Bad n (.lst ds):=by
 refine L_ n n1 n10 _ (Wt.get ?_) (Wt.get ?_)
 ·refine Wt.Or (Wt.Not (Wt.V (We.e1 (We.v rfl (Wg1.mk (v:=.val (.bl true)) (Wb.mk (Wif.f ?_)) rfl rfl)))))
  refine Wt.V (We.e2 (We.B (Was.cons (We.v rfl (Was.nil (WB.len ?_ rfl))))))
  refine We.c (Wg2.gt (Wb.mk ⟨?_,rfl⟩) rfl rfl)
  exact decide_eq_false (by omega)
 ·refine Wt.Not (Wt.V (We.B (Was.cons ?_)))
  refine We.Js id ds p Dat.bl (d:=.lst ds) ?_ rfl (by rw [List.map_id];rfl) rfl (by decide) (by unfold SZ;omega) fun u hu=>?_
  ·refine Was.nil (WB.all p (xs:=ds) ?_ (by rw [List.map_map];rfl))
   rw [hp]
   exact Wb.mk ⟨rfl,rfl⟩
  ·exact We.F (Was.cons (We.v rfl (Was.cons (We.v rfl (Was.nil (WF.val (h u hu) (Wk.val ⟨rfl,rfl⟩) rfl rfl))))))
end
theorem xA (x:Int) (n:Int) (n1:1≤n) (n10:n≤10):∃ d x',rY [aV x,.int n]=some (.val d,aV x')∧gb [.int n,d]=some (.val (.bl false)):=by
 suffices hh:WrM (rY [aV x,.int n]) fun v p=>∃ d x',v=.val d∧p=aV x'∧gb [.int n,d]=some (.val (.bl false)) by
  obtain ⟨v,p,h1,d,x',rfl,rfl,h2⟩:=hh
  exact ⟨d,x',h1,h2⟩
 unfold rY
 refine WrM.fn ?_ rfl rfl
 dsimp only [List.map,List.replicate,List.cons_append,List.nil_append]
 refine Ws.seq (Ws.A ?_ (by decide))
 refine We.drw (m:=n) rfl (by omega) (by unfold jM;omega) rfl fun a x1 a0 a1 ρ3 e=>?_
 subst e
 refine WA.val ?_ (by first | (dsimp only [List.set];first | done | rfl) | rfl)
 refine Ws.seq (Ws.A (We.B (Was.cons (We.e2 (We.v rfl (We.c (Wg2.add ?_ rfl rfl)))))) (by decide))
 refine Was.cons (We.v rfl (Was.nil (WB.min2 ?_ rfl)))
 refine WA.val ?_ (by first | (dsimp only [List.set];first | done | rfl) | rfl)
 generalize hb:(if n<a+1 then n else a+1)=b
 have V:∀ {a:Nat} {da:Dat} {ρ:Env} {r:List FE} {Q:List Val→Env→Prop},ρ[a]?=some (.sh da)→Was r ρ (fun xs ρ2=>Q (.val da::xs) ρ2)→Was (eV a::r) ρ Q:=fun h1 q=>Was.cons (We.v h1 q)
 have c:∀ {da:Dat} {ρ:Env} {r:List FE} {Q:List Val→Env→Prop},Was r ρ (fun xs ρ2=>Q (.val da::xs) ρ2)→Was (eC da::r) ρ Q:=fun q=>Was.cons (We.c q)
 have z:∀ {ds:List Dat},ds.length<30→ds.length≤SZ:=fun h=>by unfold SZ;omega
 have ng:∀ {i:Int} {ρ:Env} {r:List FE} {Q:List Val→Env→Prop},Was r ρ (fun xs ρ2=>Q (.val (.int (-i))::xs) ρ2)→Was (e1 iP (eC (.int i))::r) ρ Q:=fun {i} {ρ} {r} {Q} q=>Was.cons (We.e1 (We.c (Wg1.mk (v:=.val (.int (-i))) q rfl rfl)))
 have nl:∀ {ρ:Env} {Q:List Dat→Env→Prop} {xs:List Val} {ds:List Dat},tks ρ xs=some (ds,ρ)→ds.length<30→Q ds ρ→WT (tks ρ xs) Q:=fun h1 h2 q=>WT.mk q h1 rfl (z h2)
 refine Ws.cut (fun ρ=>∃ (t x2:Int),0≤t∧ρ=[.ow (aV x2),.sh (.int n),.sh (.int a),.sh (.int b),.ow (.lst [.tup [.int b,.int a,.int 1],.tup [.int a,.int a,.int 1],.tup [.int a,.int n,.int 1],.tup [.int (-1),.int a,.int 1],.tup [.int a,.int (n+t),.int 1],.tup [.int a,.int b,.int 0],.tup [.int a,.int b,.int (-2)]])]) ?_ ?_
 ·refine Ws.A (We.L (Was.cons (We.T (V rfl (V rfl (c (Was.nil (nl rfl (by simp) ?_)))))))) (by decide)
  refine Was.cons (We.T (V rfl (V rfl (c (Was.nil (nl rfl (by simp) ?_))))))
  refine Was.cons (We.T (V rfl (V rfl (c (Was.nil (nl rfl (by simp) ?_))))))
  refine Was.cons (We.T (ng (V rfl (c (Was.nil (nl rfl (by simp) ?_))))))
  refine Was.cons (We.T (V rfl (Was.cons (We.e2 (We.v rfl ?_)))))
  refine We.take (We.e2 (We.c (We.c (Wg2.pow (z:=1000000000) ?_ rfl rfl (by decide) (by decide))))) rfl
  refine cB.mk (bJ ?_ rfl rfl (by decide) (by decide))
  refine Wg2.add ?_ rfl rfl
  refine c (Was.nil (nl rfl (by simp) ?_))
  refine Was.cons (We.T (V rfl (V rfl (c (Was.nil (nl rfl (by simp) ?_))))))
  refine Was.cons (We.T (V rfl (V rfl (ng (Was.nil (nl rfl (by simp) ?_))))))
  refine Was.nil (nl rfl (by simp) ?_)
  exact WA.new ⟨_,_,(bF _ 1000000000 (by decide)).1,rfl⟩ (by first | (dsimp only [List.set];first | done | rfl) | rfl)
 rintro ρ ⟨t,x2,t0,rfl⟩
 refine Ws.seq (Ws.A (We.e2 (We.w rfl (We.L (Was.cons (We.T (V rfl (V rfl (Was.cons (We.e2 (We.e2 (We.c (We.c (Wg2.pow (z:=Z30) ?_ rfl rfl (by decide) (by decide)))))))))))))) (by decide))
 refine We.c (Wg2.add ?_ rfl rfl)
 refine Was.nil (nl rfl (by simp) ?_)
 refine Was.cons (We.T (V rfl (V rfl (c (Was.nil (nl rfl (by simp) ?_))))))
 refine Was.cons (We.T (c (c (c (Was.nil (nl rfl (by simp) ?_))))))
 refine Was.cons (We.T (V rfl (V rfl (c (Was.nil (nl rfl (by simp) ?_))))))
 refine Was.cons (We.T (V rfl (V rfl (Was.nil (nl rfl (by simp) ?_)))))
 refine Was.cons (We.T (V rfl (V rfl (c (c (Was.nil (nl rfl (by simp) ?_)))))))
 refine Was.cons (We.L (V rfl (V rfl (c (Was.nil (nl rfl (by simp) ?_))))))
 refine Was.nil (nl rfl (by simp) ?_)
 refine Wg2.tL ?_ rfl rfl (by simp;unfold SZ;omega)
 refine WA.new ?_ (by first | (dsimp only [List.set];first | done | rfl) | rfl)
 refine Ws.seq (Ws.A (We.e2 (We.w rfl (We.L (c (V rfl (Was.cons (We.T (Was.nil (nl rfl (by simp) ?_))))))))) (by decide))
 refine Was.cons (We.T (c (V rfl (c (Was.nil (nl rfl (by simp) ?_))))))
 refine Was.cons (We.T (V rfl (c (c (Was.nil (nl rfl (by simp) ?_))))))
 refine Was.cons (We.T (V rfl (V rfl (c (Was.nil (nl rfl (by simp) ?_))))))
 refine Was.cons (We.T (c (V rfl (c (Was.nil (nl rfl (by simp) ?_))))))
 refine Was.cons (We.T (c (c (c (Was.nil (nl rfl (by simp) ?_))))))
 refine Was.nil (nl rfl (by simp) ?_)
 refine Wg2.tL ?_ rfl rfl (by simp;unfold SZ;omega)
 refine WA.new ?_ (by first | (dsimp only [List.set];first | done | rfl) | rfl)
 have hbd:=Fz n a t n1 a0 a1 t0
 rw [hb] at hbd
 have hL:(Aj n a b t).length=22:=by unfold Aj;simp
 show Ws _ [_,_,_,_,.ow (.lst (Aj n a b t))] _ _ _ _
 generalize Aj n a b t=L at hbd hL ⊢
 refine Ws.R (We.e2 (We.w rfl (We.take (We.B (Was.cons (We.w rfl (Was.nil (WB.len ?_ rfl))))) rfl)))
 refine cB.mk (bJ (m:=(L.length:Nat)) ?_ rfl rfl (by omega) (by unfold jM;omega))
 have hm:=bF x2 (L.length:Nat) (by omega)
 have hi:(x2 % (L.length:Nat)).toNat<L.length:=by omega
 have hd:gIx (.lst L) (.int (x2 % (L.length:Nat)))=some (.val (L[(x2 % (L.length:Nat)).toNat])):=by
  unfold gIx
  dsimp only
  have:=jK id L (x2 % (L.length:Nat)) hm.1 hm.2
  rw [List.map_id] at this
  rw [this]
  rfl
 refine Wg2.ix ?_ rfl rfl hd
 refine WR.val ?_
 exact ⟨_,rfl,_,_,rfl,rfl,hbd _ (List.getElem_mem _)⟩
theorem vA {α:Type} {xs:List α} {lo hi:Option Int} {x:α} (h:x∈pP xs lo hi):x∈xs:=by
 unfold pP at h
 exact List.mem_of_mem_drop (List.mem_of_mem_take h)
theorem CA (n:Nat) (n1:1≤n) (n10:n≤10) (A B:List Hv) (hA:HW n A) (hB:HW n B) (lA:A.length≤15) (lB:B.length≤15) (d:Dat) (hd:gb [.int n,d]=some (.val (.bl false))):Bad n (.lst ((A.map hvD++[d])++B.map hvD)):=by
 refine FD n n1 n10 _ (by simp;omega) (fun x=>match gb [.int n,x] with | some (.val (.bl b))=>b | _=>false) (fun x hx=>?_) ?_
 ·rcases List.mem_append.mp hx with hx | hx
  ·rcases List.mem_append.mp hx with hx | hx
   ·obtain ⟨t,ht,rfl⟩:=List.mem_map.mp hx
    rw [fR n t (hA t ht)]
   ·rw [List.mem_singleton.mp hx,hd]
  ·obtain ⟨t,ht,rfl⟩:=List.mem_map.mp hx
   rw [fR n t (hB t ht)]
 ·rw [List.all_eq_false]
  exact ⟨d,by simp,by rw [hd];decide⟩
theorem tU (x:Int) (n:Nat) (n1:1≤n) (n10:n≤10) (h:List Hv) (hw:HW n h) (hl:h.length≤8) :
  ∃ r x',vm [aV x,.int n,hsD h]=some (r,aV x')∧Bad n r.dat:=by
 suffices hh:WrM (vm [aV x,.int n,hsD h]) fun v p=>∃ x',p=aV x'∧Bad n v.dat by
  obtain ⟨v,p,h1,x',rfl,h2⟩:=hh
  exact ⟨v,x',h1,h2⟩
 unfold vm
 refine WrM.fn ?_ rfl rfl
 dsimp only [List.map,List.replicate,List.cons_append,List.nil_append]
 refine Ws.seq (Ws.A ?_ (by decide))
 refine We.drw (m:=6) rfl (by decide) (by decide) rfl fun way x1 w0 w1 ρ3 e=>?_
 subst e
 refine WA.val ?_ (by first | (dsimp only [List.set];first | done | rfl) | rfl)
 refine Ws.seq (Ws.A ?_ (by decide))
 refine We.take (We.e2 (We.B (Was.cons (We.v rfl (Was.nil (WB.B4 (enc:=hvD) (xs:=h) ?_ rfl)))))) rfl
 refine We.c (Wg2.add (cB.mk (bJ ?_ rfl rfl (by omega) (by unfold jM;omega))) rfl rfl)
 refine WA.val ?_ (by first | (dsimp only [List.set];first | done | rfl) | rfl)
 generalize x1 % ((h.length:Int)+1)=at_
 generalize x1 / ((h.length:Int)+1)=x2
 refine Ws.seq (Ws.If (Wt.V (We.e2 (We.v rfl (We.c (Wg2.eq (Wb.mk (Wif.dec (fun hw0=>?_) fun hw0=>?_)) rfl rfl))))))
 ·refine Ws.R (We.e2 (We.L (Was.cons (We.B (Was.cons (We.v rfl (Was.nil (WB.tuple (xs:=h.map hvD) ?_ rfl))))))))
  refine Was.cons (We.c (Was.cons (We.c (Was.cons (We.Dn (Was.cons (We.c (Was.cons (We.c (Was.nil (WT.mk ?_ rfl rfl (by exact Nat.le_of_ble_eq_true rfl))))))))))))
  refine We.take (We.c (cB.mk (bJ (m:=6) ?_ rfl rfl (by decide) (by decide)))) rfl
  obtain ⟨d,hd,nd⟩:∃ d,gIx (.lst [.tup (h.map hvD),.non,.int 7,.dct [] [],.str [],.str [48,32,49,32,49]]) (.int (x2 % 6))=some (.val d)∧iO isL d=some (.val (.bl false)):=by
   have hm:=bF x2 6 (by decide)
   have:x2 % 6=0∨x2 % 6=1∨x2 % 6=2∨x2 % 6=3∨x2 % 6=4∨x2 % 6=5:=by omega
   rcases this with e | e | e | e | e | e<;>rw [e]<;>exact ⟨_,rfl,rfl⟩
  refine Wg2.ix ?_ rfl rfl hd
  refine WR.val ?_
  exact ⟨_,rfl,_,rfl,Cz n n1 n10 d nd⟩
 ·refine Ws.nx (Ws.seq ?_)
  have fin:∀ {N B C:Env→Prop},Ws (sR (e2 bH (e2 bH (eSl (eV 2) none (some (eV 4))) (cj [(eFm rY 0 [(eV 1)])])) (eSl (eV 2) (some (eV 4)) none))) [.ow (aV x2),.sh (.int n),.sh (hsD h),.sh (.int way),.sh (.int at_)] N (fun r ρ=>∃ d,ρ[0]?=some (.ow d)∧∃ x',d=aV x'∧Bad n r.dat) B C:=by
   intro N B C
   obtain ⟨d,x3,ed,nd⟩:=xA x2 n (by omega) (by omega)
   have l1:=vc h none (some at_)
   have l2:=vc h (some at_) none
   have m1:HW n (pP h none (some at_)):=fun t ht=>hw t (vA ht)
   have m2:HW n (pP h (some at_) none):=fun t ht=>hw t (vA ht)
   refine Ws.R (We.e2 (We.e2 (We.Sl (We.v rfl (Wp.none (Wp.some (We.v rfl (cB.mk (Wsl.A (enc:=hvD) (xs:=h) ?_ rfl)))))))))
   refine We.L (Was.cons (We.Fm (Was.cons (We.v rfl (Was.nil (WFm.any ed ?_ rfl rfl (by first | (dsimp only [List.set];first | done | rfl) | rfl))))) rfl))
   refine Was.nil (WT.mk ?_ rfl rfl (by exact Nat.le_of_ble_eq_true rfl))
   refine Wg2.tL ?_ rfl rfl (by simp;unfold SZ;omega)
   refine We.Sl (We.v rfl (Wp.some (We.v rfl (cB.mk (Wp.none (Wsl.A (enc:=hvD) (xs:=h) ?_ rfl))))))
   refine Wg2.tL ?_ rfl rfl (by simp;unfold SZ;omega)
   refine WR.new ?_
   exact ⟨_,rfl,_,rfl,CA n n1 n10 _ _ m1 m2 (by omega) (by omega) d nd⟩
  refine Ws.If (Wt.And (Wt.V (We.e2 (We.v rfl (We.c (Wg2.eq (Wb.mk (Wif.dec (fun h1=>?_) fun h1=>?_)) rfl rfl))))))
  ·refine Wt.V (We.e2 (We.v rfl (We.c (Wg2.gt (Wb.mk (Wif.dec (fun h2=>?_) fun h2=>?_)) rfl rfl))))
   ·refine Ws.R (We.e2 (We.L (Was.cons (We.T (Was.cons (We.c (Was.cons (We.c (Was.cons (We.c (Was.nil (WT.mk ?_ rfl rfl (by decide)))))))))))))
    refine Was.nil (WT.mk ?_ rfl rfl (by decide))
    refine We.e2 (We.c ?_)
    refine We.take (We.c (cB.mk (bJ (m:=4) ?_ rfl rfl (by decide) (by decide)))) rfl
    refine Wg2.add ?_ rfl rfl
    have hm:=bF x2 4 (by decide)
    refine ⟨_,_,.new (.lst (List.replicate (41+x2 % 4).toNat [Dat.tup [.int 0,.int 1,.int 1]]).flatten),rfl,rfl,?_,?_⟩
    ·unfold fN
     dsimp only
     rw [if_pos (by refine ⟨by unfold BIG;omega,by unfold BIG;omega,?_⟩;show 1*_≤_;unfold SZ;omega)]
    refine WR.new ?_
    refine ⟨_,rfl,_,rfl,FA n n1 n10 _ ?_⟩
    rw [List.length_flatten]
    simp
    omega
   ·exact Ws.nx fin
  ·exact Wif.no rfl (Ws.nx fin)
noncomputable abbrev NoN (d:Dat):Prop:=n_ [d]=some (.val (.bl false))
theorem pZ {d:Dat} {c:Bool} (h:n_ [d]=some (.val (.bl c))):(bY (tV (eF n_ [(eV 0)]))) [.sh d]=some (!c,[.sh d]):=
 Wt.get (Wt.Not (Wt.V (We.F (Was.cons (We.v rfl (Was.nil (WF.val h (Wb.mk ⟨rfl,rfl⟩) rfl rfl)))))))
theorem CB {d:Dat} (h:NoN d):vf [d]=none:=gk (oJ (pZ h) rfl)
theorem Ma {d:Dat} (h:NoN d):aS [d]=true:=eG (ρ:=[.sh d]) rfl (by
 show rIf _ _ _ [.sh d]=_
 unfold rIf
 rw [pZ h]
 rfl)
theorem FF {d e:Dat} (h:NoN d):lT [d,e]=none:=gk (gS (iu (gy rfl rfl (CB h))))
theorem Nt {d e:Dat} (h:NoN d):aD [d,e]=true:=eG rfl (bx rfl rfl (Ma h))
theorem ji {n m:Nat} {R:Env→Option Env} {ds:List Dat} (h:R (ds.map Cell.sh++List.replicate m .un)=none):fnX n m R ds=false:=by
 unfold fnX
 rw [h]
 simp
theorem dD {bad:List Dat→Bool} {fs:List FE} {ρ ρ1:Env} {xs:List Val} {ds:List Dat} (h1:eAs fs ρ=some (xs,ρ1)) (h2:pks ρ1 xs=some ds) (h:bad ds=false):a_ bad fs ρ=none:=by
 unfold a_;rw [h1];dsimp only;rw [h2];dsimp only;rw [if_neg (by rw [h];decide)]
theorem GY {n:Nat} (n1:1≤n) (n10:n≤10) {e:Dat}:aD [.int n,e]=false:=by
 have h:n_ [.int n]=some (.val (.bl true)):=by
  apply Wr.eq
  unfold n_
  (refine Dm.Wr.fn ?_ rfl rfl;dsimp only [List.map,List.replicate,List.cons_append,List.nil_append])
  exact Ws.R (We.F (Was.cons (We.v rfl (Was.cons (We.c (Was.cons (We.c (Was.nil (WF.val (jL n 1 10 (by omega) (by omega)) rfl rfl rfl)))))))))
 have h2:aS [.int n]=false:=ji (by
  show rIf _ _ _ [.sh (.int n)]=_
  unfold rIf
  rw [pZ h]
  rfl)
 exact ji (dD (ds:=[.int n]) rfl rfl h2)
section
structure Told (P Q:Bool) (n d:Dat):Prop where
 quiet:lT [n,d]=none
 pl:aD [n,d]=P
 ti:Q=true→aI [n,d]=true
theorem CC {n d:Dat} (h:NoN n):Told true false n d:=⟨FF h,Nt h,fun z=>by cases z⟩
theorem CD {n:Nat} (n1:1≤n) (n10:n≤10) {d:Dat} (h:Bad n d):Told false true (.int n) d:=⟨h.1,GY n1 n10,fun _=>h.2⟩
variable {P Q:Bool} {n d row f:Dat} (T:Told P Q n d)
include T
theorem or_none:tN [n,d,f]=none:=gk (gS (iu (gy rfl rfl T.quiet)))
theorem FG:pR [n,d,row]=none:=gk (gS (iu (gy rfl rfl T.quiet)))
theorem FH:lW [n,d]=none:=gk (gS (iu (gy rfl rfl T.quiet)))
theorem orP:bO [n,d,f]=P:=by
 cases P with
 | true=>exact eG rfl (bx rfl rfl T.pl)
 | false=>exact ji (dD (ds:=[n,d]) rfl rfl T.pl)
theorem baP:cu [n,d,row]=P:=by
 cases P with
 | true=>exact eG rfl (bx rfl rfl T.pl)
 | false=>exact ji (dD (ds:=[n,d]) rfl rfl T.pl)
theorem liP:bP [n,d]=P:=by
 cases P with
 | true=>exact eG rfl (bx rfl rfl T.pl)
 | false=>exact ji (dD (ds:=[n,d]) rfl rfl T.pl)
theorem orT (q:Q=true):cg [n,d,f]=true:=eG rfl (bx rfl rfl (T.ti q))
theorem baT (q:Q=true):dM [n,d,row]=true:=eG rfl (bx rfl rfl (T.ti q))
theorem liT (q:Q=true):bZ [n,d]=true:=eG rfl (bx rfl rfl (T.ti q))
end
theorem Ak (n:Nat):(places n).Pairwise (· < ·):=by
 unfold places
 rw [List.pairwise_map]
 exact List.Pairwise.imp (R:=fun a b=>a<b) (fun h=>by omega) List.pairwise_lt_range
theorem xB (n:Nat):ups 0 n=(places n).map Dat.int:=by
 rw [yV]
 unfold places
 rw [List.map_map]
 rfl
theorem tW (h:List Hv) (hw:HW (1:Nat) h) (hl:h.length≤40):lW [.int (1:Nat),hsD h]=some (.val .non):=by
 apply Wr.eq
 unfold lW
 (refine Dm.Wr.fn ?_ rfl rfl;dsimp only [List.map,List.replicate,List.cons_append,List.nil_append])
 refine Ws.seq (Ws.E (We.F (Was.cons (We.v rfl (Was.cons (We.v rfl (Was.nil (WF.val (d9 (1:Nat) (by decide) (by decide) h hw hl) ?_ rfl rfl))))))))
 refine Ws.seq (Ws.If (Wt.V (We.e2 (We.v rfl (We.c (Wg2.eq (Wb.mk (Wif.yes rfl ?_)) rfl rfl))))))
 exact Ws.R (We.c rfl)
theorem FJ {i:Nat} {e:FE} {ρ:Env} (h:e ρ=none):sA i e ρ=none:=by
 unfold sA
 split
 ·rfl
 ·rw [h]
theorem p5 {t:FT} {R S:Env→Option Env} {ρ:Env} (h:t ρ=some (true,ρ)):rIf t R S ρ=R ρ:=by unfold rIf;rw [h]
theorem gm {t:FT} {R S:Env→Option Env} {ρ:Env} (h:t ρ=some (false,ρ)):rIf t R S ρ=S ρ:=by unfold rIf;rw [h]
theorem JG {t:FT} {R S:FS} {ρ:Env} (h:t ρ=some (true,ρ)):sIf t R S ρ=R ρ:=by unfold sIf;rw [h]
theorem xC {t:FT} {R S:FS} {ρ:Env} (h:t ρ=some (false,ρ)):sIf t R S ρ=S ρ:=by unfold sIf;rw [h]
section
variable (xP xT xR:Nat)
theorem CF {P Q:Bool} {n d:Dat} (T:Told P Q n d) (row:Dat) (w:Int) (hw:w=0∨w=1∨w=2∨w=3) (hPQ:P=true∨(P=false∧Q=true)) :
  rZ xP xT xR [.int w,n,d,row]=some (.val (.tup [.exc (if P then xP else xT),.non])):=by
 have q0:sIf (tV (e2 gEq (eV 0) (eC (.int 0)))) (sA 5 (eF lT [(eV 1),(eV 2)])) (sIf (tV (e2 gEq (eV 0) (eC (.int 1)))) (sE (eF (fun ds=>tN (ds++[.int 0])) [(eV 1),(eV 2)])) (sIf (tV (e2 gEq (eV 0) (eC (.int 2)))) (sE (eF pR [(eV 1),(eV 2),(eV 3)])) (sE (eF lW [(eV 1),(eV 2)])))) [.sh (.int w),.sh n,.sh d,.sh row,.sh .non,.sh .non,.un]=none:=by
  rcases hw with rfl | rfl | rfl | rfl
  ·rw [JG rfl]
   exact FJ (gy (ds:=[n,d]) rfl rfl T.quiet)
  ·rw [xC rfl,JG rfl]
   exact iu (gy (ds:=[n,d]) rfl rfl (or_none T))
  ·rw [xC rfl,xC rfl,JG rfl]
   exact iu (gy (ds:=[n,d,row]) rfl rfl (FG T))
  ·rw [xC rfl,xC rfl,xC rfl]
   exact iu (gy (ds:=[n,d]) rfl rfl (FH T))
 have r1:rIf (tV (e2 gEq (eV 0) (eC (.int 0)))) (a_ aD [(eV 1),(eV 2)]) (rIf (tV (e2 gEq (eV 0) (eC (.int 1)))) (a_ (fun ds=>bO (ds++[.int 0])) [(eV 1),(eV 2)]) (rIf (tV (e2 gEq (eV 0) (eC (.int 2)))) (a_ cu [(eV 1),(eV 2),(eV 3)]) (a_ bP [(eV 1),(eV 2)]))) [.sh (.int w),.sh n,.sh d,.sh row,.sh .non,.sh .non,.un]=if P then some [.sh (.int w),.sh n,.sh d,.sh row,.sh .non,.sh .non,.un] else none:=by
  have go:∀ {bad:List Dat→Bool} {fs:List FE} {xs:List Val} {ds:List Dat} {ρ:Env},eAs fs ρ=some (xs,ρ)→pks ρ xs=some ds→bad ds=P→a_ bad fs ρ=if P then some ρ else none:=fun {bad fs xs ds ρ} h1 h2 h3=>by
   cases P with
   | true=>exact bx h1 h2 h3
   | false=>exact dD h1 h2 h3
  rcases hw with rfl | rfl | rfl | rfl
  ·rw [p5 rfl]
   exact go (ds:=[n,d]) rfl rfl T.pl
  ·rw [gm rfl,p5 rfl]
   exact go (ds:=[n,d]) rfl rfl (orP T)
  ·rw [gm rfl,gm rfl,p5 rfl]
   exact go (ds:=[n,d,row]) rfl rfl (baP T)
  ·rw [gm rfl,gm rfl,gm rfl]
   exact go (ds:=[n,d]) rfl rfl (liP T)
 have r2:Q=true→rIf (tV (e2 gEq (eV 0) (eC (.int 0)))) (a_ aI [(eV 1),(eV 2)]) (rIf (tV (e2 gEq (eV 0) (eC (.int 1)))) (a_ (fun ds=>cg (ds++[.int 0])) [(eV 1),(eV 2)]) (rIf (tV (e2 gEq (eV 0) (eC (.int 2)))) (a_ dM [(eV 1),(eV 2),(eV 3)]) (a_ bZ [(eV 1),(eV 2)]))) [.sh (.int w),.sh n,.sh d,.sh row,.sh .non,.sh .non,.un]=some [.sh (.int w),.sh n,.sh d,.sh row,.sh .non,.sh .non,.un]:=fun q=>by
  rcases hw with rfl | rfl | rfl | rfl
  ·rw [p5 rfl]
   exact bx (ds:=[n,d]) rfl rfl (T.ti q)
  ·rw [gm rfl,p5 rfl]
   exact bx (ds:=[n,d]) rfl rfl (orT T q)
  ·rw [gm rfl,gm rfl,p5 rfl]
   exact bx (ds:=[n,d,row]) rfl rfl (baT T q)
  ·rw [gm rfl,gm rfl,gm rfl]
   exact bx (ds:=[n,d]) rfl rfl (liT T q)
 apply Wr.eq
 unfold rZ
 (refine Dm.Wr.fn ?_ rfl rfl;dsimp only [List.map,List.replicate,List.cons_append,List.nil_append])
 refine Ws.seq (Ws.A (We.c (WA.val ?_ (by first | (dsimp only [List.set];first | done | rfl) | rfl))) (by decide))
 refine Ws.seq (Ws.A (We.c (WA.val ?_ (by first | (dsimp only [List.set];first | done | rfl) | rfl))) (by decide))
 refine Ws.seq (xx q0 ?_)
 rcases hPQ with rfl | ⟨rfl,hQ⟩
 ·rw [if_pos rfl] at r1
  obtain ⟨o,e,z⟩:=tS (ie:=6) (C:=xP) (h:=sA 4 (eV 6)) (N:=fun ρ=>ρ=[.sh (.int w),.sh n,.sh d,.sh row,.sh (.exc xP),.sh .non,.un]) (R:=fun _ _=>False) (B:=fun _=>False) (D:=fun _=>False) r1 (by decide) (Ws.A (We.v rfl (WA.val rfl (by first | (dsimp only [List.set];first | done | rfl) | rfl))) (by decide))
  cases o with
  | ret r ρ=>exact z.elim
  | bk ρ=>exact z.elim
  | ct ρ=>exact z.elim
  | nx ρ=>
   refine ⟨.nx ρ,by unfold sUn;rw [e],?_⟩
   have z':ρ=[.sh (.int w),.sh n,.sh d,.sh row,.sh (.exc xP),.sh .non,.un]:=z
   subst z'
   refine Ws.R (We.T (Was.cons (We.v rfl (Was.cons (We.v rfl (Was.nil (WT.mk ?_ rfl rfl (by exact Nat.le_of_ble_eq_true rfl))))))))
   rfl
 ·refine xx (l7 r1) ?_
  obtain ⟨o,e,z⟩:=tS (ie:=6) (C:=xT) (h:=sA 4 (eV 6)) (N:=fun ρ=>ρ=[.sh (.int w),.sh n,.sh d,.sh row,.sh (.exc xT),.sh .non,.un]) (R:=fun _ _=>False) (B:=fun _=>False) (D:=fun _=>False) (r2 hQ) (by decide) (Ws.A (We.v rfl (WA.val rfl (by first | (dsimp only [List.set];first | done | rfl) | rfl))) (by decide))
  cases o with
  | ret r ρ=>exact z.elim
  | bk ρ=>exact z.elim
  | ct ρ=>exact z.elim
  | nx ρ=>
   refine ⟨.nx ρ,by unfold sUn;rw [e],?_⟩
   have z':ρ=[.sh (.int w),.sh n,.sh d,.sh row,.sh (.exc xT),.sh .non,.un]:=z
   subst z'
   refine Ws.R (We.T (Was.cons (We.v rfl (Was.cons (We.v rfl (Was.nil (WT.mk ?_ rfl rfl (by exact Nat.le_of_ble_eq_true rfl))))))))
   rfl
theorem JH {f g:FS} {ρ:Env} {N:Env→Prop} {R:RV→Env→Prop} {B C:Env→Prop} (k:Ws f ρ N R B C):Ws (sUn f g) ρ N R B C:=by
 obtain ⟨o,e,q⟩:=k
 exact ⟨o,by unfold sUn;rw [e],q⟩
theorem Al (n:Nat) (n1:1≤n) (n10:n≤10) (h:List Hv) (hw':HW n h) (hl:h.length≤40) (w:Int) (hw:w=0∨w=1∨w=2∨w=3) :
  rZ xP xT xR [.int w,.int n,hsD h,.lst (ups 0 n)]=some (.val (.tup [.non,.non])):=by
 rw [xB]
 obtain ⟨row,eo,_⟩:=vv n n1 n10 h hw' hl 0 (by decide) (by omega)
 obtain ⟨D,_,eb⟩:=Cv n n1 n10 h hw' hl (places n) ((Ak n).imp fun h=>Int.ne_of_lt h) (by rw [places_len];omega) (fun i hi=>by
  obtain ⟨a0,ab,b1,_⟩:=hw' (gT h i) (pQ hi)
  exact ⟨(ir n _).mpr ⟨a0,by omega⟩,(ir n _).mpr ⟨by omega,b1⟩⟩)
 have lo:=d9 n (by omega) (by omega) h hw' hl
 apply Wr.eq
 unfold rZ
 (refine Dm.Wr.fn ?_ rfl rfl;dsimp only [List.map,List.replicate,List.cons_append,List.nil_append])
 refine Ws.seq (Ws.A (We.c (WA.val ?_ (by first | (dsimp only [List.set];first | done | rfl) | rfl))) (by decide))
 refine Ws.seq (Ws.A (We.c (WA.val ?_ (by first | (dsimp only [List.set];first | done | rfl) | rfl))) (by decide))
 refine Ws.cut (fun ρ=>ρ=[.sh (.int w),.sh (.int n),.sh (hsD h),.sh (.lst ((places n).map Dat.int)),.sh .non,.sh .non,.un]) (JH ?_) ?_
 ·rcases hw with rfl | rfl | rfl | rfl
  ·refine Ws.If (Wt.V (We.e2 (We.v rfl (We.c (Wg2.eq (Wb.mk (Wif.yes rfl ?_)) rfl rfl)))))
   refine Ws.A (We.F (Was.cons (We.v rfl (Was.cons (We.v rfl (Was.nil (WF.val lo ?_ rfl rfl))))))) (by decide)
   exact WA.val rfl (by first | (dsimp only [List.set];first | done | rfl) | rfl)
  ·refine Ws.If (Wt.V (We.e2 (We.v rfl (We.c (Wg2.eq (Wb.mk (Wif.no rfl ?_)) rfl rfl)))))
   refine Ws.If (Wt.V (We.e2 (We.v rfl (We.c (Wg2.eq (Wb.mk (Wif.yes rfl ?_)) rfl rfl)))))
   refine Ws.E (We.F (Was.cons (We.v rfl (Was.cons (We.v rfl (Was.nil (WF.box (ds:=[.int n,hsD h]) eo ?_ rfl rfl rfl rfl)))))))
   rfl
  ·refine Ws.If (Wt.V (We.e2 (We.v rfl (We.c (Wg2.eq (Wb.mk (Wif.no rfl ?_)) rfl rfl)))))
   refine Ws.If (Wt.V (We.e2 (We.v rfl (We.c (Wg2.eq (Wb.mk (Wif.no rfl ?_)) rfl rfl)))))
   refine Ws.If (Wt.V (We.e2 (We.v rfl (We.c (Wg2.eq (Wb.mk (Wif.yes rfl ?_)) rfl rfl)))))
   refine Ws.E (We.F (Was.cons (We.v rfl (Was.cons (We.v rfl (Was.cons (We.v rfl (Was.nil (WF.box eb ?_ rfl rfl rfl rfl)))))))))
   rfl
  ·refine Ws.If (Wt.V (We.e2 (We.v rfl (We.c (Wg2.eq (Wb.mk (Wif.no rfl ?_)) rfl rfl)))))
   refine Ws.If (Wt.V (We.e2 (We.v rfl (We.c (Wg2.eq (Wb.mk (Wif.no rfl ?_)) rfl rfl)))))
   refine Ws.If (Wt.V (We.e2 (We.v rfl (We.c (Wg2.eq (Wb.mk (Wif.no rfl ?_)) rfl rfl)))))
   by_cases hn:n=1
   ·subst hn
    refine Ws.E (We.F (Was.cons (We.v rfl (Was.cons (We.v rfl (Was.nil (WF.val (tW h hw' hl) ?_ rfl rfl)))))))
    rfl
   ·obtain ⟨T,d1,d2,el,_⟩:=vt n (by omega) n10 h hw' hl
    refine Ws.E (We.F (Was.cons (We.v rfl (Was.cons (We.v rfl (Was.nil (WF.box el ?_ rfl rfl rfl rfl)))))))
    rfl
 rintro ρ rfl
 refine Ws.R (We.T (Was.cons (We.v rfl (Was.cons (We.v rfl (Was.nil (WT.mk ?_ rfl rfl (by decide))))))))
 rfl
end
theorem CG {cs:List Nat} {bs:List Bool} {C:Nat} {b:Bool} {o:Option Dat} {K:RV→Prop} (k:K (.val (.bl b))) (ho:o=some (.exc C)) (h:m7 cs bs C=some b):Wg1 (d_ cs bs) o K:=⟨_,_,ho,by show (m7 cs bs C).bind vB=_;rw [h];rfl,k⟩
theorem Nu (l m:List Bool):eqD (.lst (l.map Dat.bl)) (.lst (m.map Dat.bl))=decide (l=m):=by
 rw [eqD]
 induction l generalizing m with
 | nil=>cases m<;>simp [mR]
 | cons a l ih=>
  cases m with
  | nil=>simp [mR]
  | cons b m=>
   rw [List.map_cons,List.map_cons,mR,ih m]
   cases a<;>cases b<;>simp [eqD]
theorem Nv (l:List Bool):okD 8 (.lst (l.map Dat.bl))=true:=by
 show (l.map Dat.bl).all (okD 7)=true
 rw [List.all_eq_true];intro d hd;obtain ⟨i,_,rfl⟩:=List.mem_map.mp hd;rfl
section
variable (xP xT xR:Nat) (hne:[xP,xT,xR].Nodup)
include hne
theorem p6 (C:Nat) (kind:Int) (hC:(C=xP∧kind=0)∨(C=xT∧kind=1)∨(C=xR∧kind=3)):rX xP xT xR [.exc C,.int kind]=some (.val (.bl true)):=by
 obtain ⟨a,b,c,is1,hk⟩:∃ a b c:Bool,(∀ p q r:Bool,m7 [xP,xT,xR] [p,q,r] C=some (if a then p else if b then q else r))∧([a,b,false,c,false,false,false,false,false,false,false]=(List.range 11).map fun i:Nat=>decide ((i:Int)=kind))∧((a=true∧b=false∧c=false)∨(a=false∧b=true∧c=false)∨(a=false∧b=false∧c=true)):=by
  simp only [List.nodup_cons,List.mem_cons,List.not_mem_nil,or_false,not_or] at hne
  rcases hC with ⟨rfl,rfl⟩ | ⟨rfl,rfl⟩ | ⟨rfl,rfl⟩
  ·exact ⟨true,false,false,fun p q r=>by unfold m7;rw [if_pos rfl];rfl,by decide,.inl ⟨rfl,rfl,rfl⟩⟩
  ·exact ⟨false,true,false,fun p q r=>by unfold m7;rw [if_neg (Ne.symm hne.1.1)];unfold m7;rw [if_pos rfl];rfl,by decide,.inr (.inl ⟨rfl,rfl,rfl⟩)⟩
  ·exact ⟨false,false,true,fun p q r=>by unfold m7;rw [if_neg (Ne.symm hne.1.2)];unfold m7;rw [if_neg (Ne.symm hne.2.1)];unfold m7;rw [if_pos rfl];rfl,by decide,.inr (.inr ⟨rfl,rfl,rfl⟩)⟩
 obtain ⟨hk,hc⟩:=hk
 have f1:(if a then true else if b then false else false)=a:=by cases a<;>cases b<;>rfl
 have f2:(if a then false else if b then true else false)=b:=by rcases hc with ⟨rfl,rfl,rfl⟩ | ⟨rfl,rfl,rfl⟩ | ⟨rfl,rfl,rfl⟩<;>rfl
 have f3:(if a then false else if b then false else true)=c:=by rcases hc with ⟨rfl,rfl,rfl⟩ | ⟨rfl,rfl,rfl⟩ | ⟨rfl,rfl,rfl⟩<;>rfl
 have f0:(if a then false else if b then false else false)=false:=by cases a<;>cases b<;>rfl
 have et:(if a then true else if b then true else true)=true:=by cases a<;>cases b<;>rfl
 have I:∀ {p q r:Bool} {ρ:Env} {rs:List FE} {Q:List Val→Env→Prop},ρ[0]?=some (.sh (.exc C))→Was rs ρ (fun xs ρ2=>Q (.val (.bl (if a then p else if b then q else r))::xs) ρ2)→Was (e1 (d_ [xP,xT,xR] [p,q,r]) (eV 0)::rs) ρ Q:=fun h0 q=>Was.cons (We.e1 (We.v h0 (CG q rfl (is1 _ _ _))))
 have z:∀ {ds:List Dat},ds.length<30→ds.length≤SZ:=fun h=>by unfold SZ;omega
 apply Wr.eq
 unfold rX
 (refine Dm.Wr.fn ?_ rfl rfl;dsimp only [List.map,List.replicate,List.cons_append,List.nil_append])
 refine Ws.seq (Ws.A (We.L (I rfl (I rfl (I rfl (Was.nil (WT.mk ?_ rfl rfl (z (by simp)))))))) (by decide))
 refine WA.new ?_ (by first | (dsimp only [List.set];first | done | rfl) | rfl)
 refine Ws.seq (Ws.A (We.e2 (We.w rfl (We.L (I rfl (I rfl (I rfl (Was.nil (WT.mk ?_ rfl rfl (z (by simp)))))))))) (by decide))
 refine Wg2.tL ?_ rfl rfl (by simp;unfold SZ;omega)
 refine WA.new ?_ (by first | (dsimp only [List.set];first | done | rfl) | rfl)
 refine Ws.seq (Ws.A (We.e2 (We.w rfl (We.L (I rfl (I rfl (I rfl (Was.nil (WT.mk ?_ rfl rfl (z (by simp)))))))))) (by decide))
 refine Wg2.tL ?_ rfl rfl (by simp;unfold SZ;omega)
 refine WA.new ?_ (by first | (dsimp only [List.set];first | done | rfl) | rfl)
 refine Ws.seq (Ws.A (We.e2 (We.w rfl (We.L (I rfl (I rfl (Was.nil (WT.mk ?_ rfl rfl (z (by simp))))))))) (by decide))
 refine Wg2.tL ?_ rfl rfl (by simp;unfold SZ;omega)
 refine WA.new ?_ (by first | (dsimp only [List.set];first | done | rfl) | rfl)
 rw [f1,f2,f3,f0]
 show Ws _ [.sh (.exc C),.sh (.int kind),.ow (.lst ([a,b,false,c,false,false,false,false,false,false,false].map Dat.bl))] _ _ _ _
 refine Ws.R (We.And (We.e2 (We.w rfl ?_)))
 have hit:iR1 (eC (.int 11)) [.sh (.exc C),.sh (.int kind),.ow (.lst ([a,b,false,c,false,false,false,false,false,false,false].map Dat.bl))]=some ((List.range 11).map (fun i:Nat=>Dat.int (0+(i:Nat))),[.sh (.exc C),.sh (.int kind),.ow (.lst ([a,b,false,c,false,false,false,false,false,false,false].map Dat.bl))]):=Wi.get (Wi.R1 (We.c (cB.mk ⟨⟨rfl,rfl⟩,by unfold BIG;omega⟩)))
 refine We.Map (fun i:Nat=>Dat.int (0+(i:Nat))) (List.range 11) (fun i:Nat=>decide ((i:Int)=kind)) Dat.bl ?_ hit rfl (by decide) (by decide) (fun i _=>?_)
 ·rw [← hk]
  refine ⟨_,_,.val (.bl true),rfl,rfl,?_,?_⟩
  ·unfold gEq
   rw [Nv,Nu,decide_eq_true rfl]
   rfl
  ·exact Wb.mk (Wif.t (We.e1 (We.v rfl (CG (by rw [et];rfl) rfl (is1 _ _ _)))))
 ·refine We.e2 (We.v rfl (We.v rfl (Wg2.eq (Wk.val ⟨?_,rfl⟩) rfl rfl)))
  have:(0:Int)+(i:Nat)=i:=by omega
  rw [this]
end
section
variable (xP xT xR:Nat) (hne:[xP,xT,xR].Nodup)
include hne
theorem tZ {P Q:Bool} {n d:Dat} (T:Told P Q n d) (row:Dat) (hPQ:P=true∨(P=false∧Q=true)) (kind:Int) (hk:kind=if P then 0 else 1) :
  lX xP xT xR [n,d,row,.int kind]=some (.val (.bl true)):=by
 have al:=p6 xP xT xR hne (if P then xP else xT) kind (by
  rcases hPQ with rfl | ⟨rfl,_⟩
  ·exact .inl ⟨rfl,hk⟩
  ·exact .inr (.inl ⟨rfl,hk⟩))
 have k2:kind<11:=by rw [hk];split<;>decide
 apply Wr.eq
 unfold lX
 (refine Dm.Wr.fn ?_ rfl rfl;dsimp only [List.map,List.replicate,List.cons_append,List.nil_append])
 refine Ws.seq (Ws.For (Wi.R1 (We.c (cB.mk ⟨?_,by unfold BIG;omega⟩))))
 refine Ws.inv (fun i:Nat=>Dat.int (0+(i:Nat))) _ _ (List.range 4) _ _ _ _ _ (fun p q ρ=>∃ c4 c5 c6:Cell,ρ=[.sh n,.sh d,.sh row,.sh (.int kind),c4,c5,c6]) ⟨_,_,_,rfl⟩ ?_ ?_
 ·rintro p i q ρ e ⟨c4,c5,c6,rfl⟩
  have hi:i<4:=List.mem_range.mp (by rw [e];simp)
  have ht:=CF xP xT xR T row (0+(i:Nat)) (by omega) hPQ
  refine Dm.eu rfl (by first | (dsimp only [List.set];first | done | rfl) | rfl) ?_
  unfold xh
  refine Ws.seq (Ws.U (We.F (Was.cons (We.v rfl (Was.cons (We.v rfl (Was.cons (We.v rfl (Was.cons (We.v rfl (Was.nil (WF.box ht ?_ rfl rfl rfl rfl))))))))))))
  refine Wk.val ⟨_,_,rfl,rfl,?_⟩
  refine Ws.If (Wt.Or (Wt.V (We.e2 (We.v rfl (We.c (Wg2.E9 ?_ rfl rfl))))))
  refine Wb.mk (Wif.no rfl ?_)
  refine Wt.Or (Wt.And (Wt.V (We.e2 (We.v rfl (We.c (Wg2.lt (Wb.mk (Wif.yes (decide_eq_true k2) ?_)) rfl rfl))))))
  refine Wt.Not (Wt.V (We.F (Was.cons (We.v rfl (Was.cons (We.v rfl (Was.nil (WF.val al ?_ rfl rfl))))))))
  refine Wb.mk (Wif.no rfl ?_)
  refine Wt.And (Wt.V (We.e2 (We.v rfl (We.c (Wg2.eq (Wb.mk (Wif.no (decide_eq_false (by omega)) ?_)) rfl rfl)))))
  exact Wif.no rfl (Ws.nx ⟨_,_,_,rfl⟩)
 ·rintro ρ ⟨c4,c5,c6,rfl⟩
  exact Ws.R (We.c rfl)
theorem CH (n:Nat) (n1:1≤n) (n10:n≤10) (h:List Hv) (hw:HW n h) (hl:h.length≤40):lX xP xT xR [.int n,hsD h,.lst (ups 0 n),.int 11]=some (.val (.bl true)):=by
 apply Wr.eq
 unfold lX
 (refine Dm.Wr.fn ?_ rfl rfl;dsimp only [List.map,List.replicate,List.cons_append,List.nil_append])
 refine Ws.seq (Ws.For (Wi.R1 (We.c (cB.mk ⟨?_,by unfold BIG;omega⟩))))
 refine Ws.inv (fun i:Nat=>Dat.int (0+(i:Nat))) _ _ (List.range 4) _ _ _ _ _ (fun p q ρ=>∃ c4 c5 c6:Cell,ρ=[.sh (.int n),.sh (hsD h),.sh (.lst (ups 0 n)),.sh (.int 11),c4,c5,c6]) ⟨_,_,_,rfl⟩ ?_ ?_
 ·rintro p i q ρ e ⟨c4,c5,c6,rfl⟩
  have hi:i<4:=List.mem_range.mp (by rw [e];simp)
  have ht:=Al xP xT xR n n1 n10 h hw hl (0+(i:Nat)) (by omega)
  refine Dm.eu rfl (by first | (dsimp only [List.set];first | done | rfl) | rfl) ?_
  unfold xh
  refine Ws.seq (Ws.U (We.F (Was.cons (We.v rfl (Was.cons (We.v rfl (Was.cons (We.v rfl (Was.cons (We.v rfl (Was.nil (WF.box ht ?_ rfl rfl rfl rfl))))))))))))
  refine Wk.val ⟨_,_,rfl,rfl,?_⟩
  refine Ws.If (Wt.Or (Wt.V (We.e2 (We.v rfl (We.c (Wg2.E9 ?_ rfl rfl))))))
  refine Wb.mk (Wif.no rfl ?_)
  refine Wt.Or (Wt.And (Wt.V (We.e2 (We.v rfl (We.c (Wg2.lt (Wb.mk (Wif.no rfl ?_)) rfl rfl))))))
  refine Wif.no rfl ?_
  refine Wt.And (Wt.V (We.e2 (We.v rfl (We.c (Wg2.eq (Wb.mk (Wif.yes rfl ?_)) rfl rfl)))))
  refine Wt.V (We.e2 (We.v rfl (We.c (Wg2.E9 ?_ rfl rfl))))
  exact Wb.mk (Wif.no rfl (Ws.nx ⟨_,_,_,rfl⟩))
 ·rintro ρ ⟨c4,c5,c6,rfl⟩
  exact Ws.R (We.c rfl)
end
theorem We.os {i:Nat} {c:Cell} {d:Dat} {ρ:Env} {Q:Val→Env→Prop} (h:ρ[i]?=some c) (hc:c=.ow d∨c=.sh d) (q:∀ x,pk ρ x=some d→Q x ρ):We (eV i) ρ Q:=by
 rcases hc with rfl | rfl
 ·exact We.w h (q _ (by unfold pk;dsimp only;rw [h]))
 ·exact We.v h (q _ rfl)
section
variable (n:Nat) (n1:1≤n) (n10:n≤10) (h:List Hv) (hw:HW n h) (hl:h.length≤40)
include n1 n10 hw hl
theorem FO:aI [.int n,hsD h]=false:=ji (by
 show i_ _ _ [.sh (.int n),.sh (hsD h)]=none
 unfold i_
 rw [lp n n1 n10]
 show rOr _ _ [.sh (.int n),.sh (hsD h)]=none
 have t1:(tOr (bY (tV (e1 (iO isL) (eV 1)))) (tV (e2 gGt (eB d8 [(eV 1)]) (eC (.int 40))))) [.sh (.int n),.sh (hsD h)]=some (false,[.sh (.int n),.sh (hsD h)]):=Wt.get (by
  refine Wt.Or (Wt.Not (Wt.V (We.e1 (We.v rfl (Wg1.mk (v:=.val (.bl true)) (Wb.mk (Wif.f ?_)) rfl rfl)))))
  refine Wt.V (We.e2 (We.B (Was.cons (We.v rfl (Was.nil (WB.B4 (enc:=hvD) (xs:=h) ?_ rfl))))))
  refine We.c (Wg2.gt (Wb.mk ⟨?_,rfl⟩) rfl rfl)
  exact decide_eq_false (by omega))
 have t2:(bY (tV (eB sP [(bQ 1 1 (bN 2) cT (eF gb [(eV 0),(eV 2)]))]))) [.sh (.int n),.sh (hsD h)]=some (false,[.sh (.int n),.sh (hsD h)]):=Wt.get (by
  refine Wt.Not (Wt.V (We.B (Was.cons ?_)))
  refine We.Js hvD h (fun _=>true) Dat.bl (d:=hsD h) ?_ rfl rfl rfl (by decide) (by unfold SZ;omega) fun u hu=>?_
  ·refine Was.nil (WB.all (fun _=>true) (xs:=h) ?_ (by rw [List.map_map];rfl))
   rw [show h.all (fun _=>true)=true by simp]
   exact Wb.mk ⟨rfl,rfl⟩
  ·exact We.F (Was.cons (We.v rfl (Was.cons (We.v rfl (Was.nil (WF.val (fR n u (hw u hu)) (Wk.val ⟨rfl,rfl⟩) rfl rfl)))))))
 unfold rOr
 rw [gm t1]
 show i_ _ _ [.sh (.int n),.sh (hsD h)]=none
 unfold i_
 rw [xC t1]
 show rIf _ _ _ [.sh (.int n),.sh (hsD h)]=none
 rw [gm t2]
 rfl)
theorem CI (f c3 c4 c5:Cell):sE (eF lT [(eV 0),(eV 1)]) [.sh (.int n),.sh (hsD h),f,c3,c4,c5]=some (.nx [.sh (.int n),.sh (hsD h),f,c3,c4,c5]):=by
 have e:eF lT [(eV 0),(eV 1)] [.sh (.int n),.sh (hsD h),f,c3,c4,c5]=some (.val .non,[.sh (.int n),.sh (hsD h),f,c3,c4,c5]):=We.get (We.F (Was.cons (We.v rfl (Was.cons (We.v rfl (Was.nil (WF.val (d9 n (by omega) (by omega) h hw hl) ⟨rfl,rfl⟩ rfl rfl)))))))
 unfold sE
 rw [e]
theorem yW {f:Dat} (hf:gj [.int n,f]=some (.val (.bl false))) (c3 c4 c5:Cell):(bY (tV (eF gj [(eV 0),(eV 2)]))) [.sh (.int n),.sh (hsD h),.sh f,c3,c4,c5]=some (true,[.sh (.int n),.sh (hsD h),.sh f,c3,c4,c5]):=
 Wt.get (Wt.Not (Wt.V (We.F (Was.cons (We.v rfl (Was.cons (We.v rfl (Was.nil (WF.val hf (Wb.mk ⟨rfl,rfl⟩) rfl rfl)))))))))
theorem xD {f:Dat} (hf:gj [.int n,f]=some (.val (.bl false))):tN [.int n,hsD h,f]=none:=gk (by
 show aA _ _ [.sh (.int n),.sh (hsD h),.sh f,.un,.un,.un]=none
 unfold aA
 rw [CI n n1 n10 h hw hl]
 show aA _ _ [.sh (.int n),.sh (hsD h),.sh f,.un,.un,.un]=none
 exact gS (oJ (yW n n1 n10 h hw hl hf _ _ _) rfl))
theorem CJ {f:Dat} (hf:gj [.int n,f]=some (.val (.bl false))):dJ [.int n,hsD h,f]=true:=eG (ρ:=[.sh (.int n),.sh (hsD h),.sh f,.un,.un,.un]) rfl (by
 show i_ _ _ [.sh (.int n),.sh (hsD h),.sh f,.un,.un,.un]=_
 unfold i_
 rw [CI n n1 n10 h hw hl]
 show rIf _ _ _ [.sh (.int n),.sh (hsD h),.sh f,.un,.un,.un]=_
 rw [p5 (yW n n1 n10 h hw hl hf _ _ _)]
 rfl)
end
section
variable (xP xT xR:Nat)
theorem CK {n:Nat} (n1:1≤n) (n10:n≤10) {d:Dat} (hb:Bad n d) (f:Dat):jW xP xT xR [.int n,d,f]=some (.val (.exc xT)):=by
 have T:=CD n1 n10 hb
 apply Wr.eq
 unfold jW
 (refine Dm.Wr.fn ?_ rfl rfl;dsimp only [List.map,List.replicate,List.cons_append,List.nil_append])
 refine Ws.seq (Ws.A (We.c (WA.val ?_ (by first | (dsimp only [List.set];first | done | rfl) | rfl))) (by decide))
 refine Ws.seq (xx (iu (gy (ds:=[.int n,d,f]) rfl rfl (or_none T))) ?_)
 refine xx (l7 (dD (ds:=[.int n,d,f]) rfl rfl (orP T))) ?_
 refine JH (tS (bx (ds:=[.int n,d,f]) rfl rfl (orT T rfl)) (by decide) ?_)
 refine Ws.A (We.v rfl (WA.val ?_ (by first | (dsimp only [List.set];first | done | rfl) | rfl))) (by decide)
 exact Ws.R (We.v rfl rfl)
theorem JI (n:Nat) (n1:1≤n) (n10:n≤10) (h:List Hv) (hw:HW n h) (hl:h.length≤40) {f:Dat} (hf:gj [.int n,f]=some (.val (.bl false))):jW xP xT xR [.int n,hsD h,f]=some (.val (.exc xR)):=by
 apply Wr.eq
 unfold jW
 (refine Dm.Wr.fn ?_ rfl rfl;dsimp only [List.map,List.replicate,List.cons_append,List.nil_append])
 refine Ws.seq (Ws.A (We.c (WA.val ?_ (by first | (dsimp only [List.set];first | done | rfl) | rfl))) (by decide))
 refine Ws.seq (xx (iu (gy (ds:=[.int n,hsD h,f]) rfl rfl (xD n n1 n10 h hw hl hf))) ?_)
 refine xx (l7 (dD (ds:=[.int n,hsD h,f]) rfl rfl (ji (dD (ds:=[.int n,hsD h]) rfl rfl (GY n1 n10))))) ?_
 refine xx (l7 (dD (ds:=[.int n,hsD h,f]) rfl rfl (ji (dD (ds:=[.int n,hsD h]) rfl rfl (FO n n1 n10 h hw hl))))) ?_
 refine tS (bx (ds:=[.int n,hsD h,f]) rfl rfl (CJ n n1 n10 h hw hl hf)) (by decide) ?_
 refine Ws.A (We.v rfl (WA.val ?_ (by first | (dsimp only [List.set];first | done | rfl) | rfl))) (by decide)
 exact Ws.R (We.v rfl rfl)
theorem FP (n:Nat) (n1:1≤n) (n10:n≤10) (h:List Hv) (hw:HW n h) (hl:h.length≤40) (f:Int) (f0:0≤f) (f1:f<n):jW xP xT xR [.int n,hsD h,.int f]=some (.val .non):=by
 obtain ⟨row,eo,_⟩:=vv n n1 n10 h hw hl f f0 f1
 apply Wr.eq
 unfold jW
 (refine Dm.Wr.fn ?_ rfl rfl;dsimp only [List.map,List.replicate,List.cons_append,List.nil_append])
 refine Ws.seq (Ws.A (We.c (WA.val ?_ (by first | (dsimp only [List.set];first | done | rfl) | rfl))) (by decide))
 refine Ws.seq (JH (Ws.E (We.F (Was.cons (We.v rfl (Was.cons (We.v rfl (Was.cons (We.v rfl (Was.nil (WF.box eo ?_ rfl rfl rfl rfl)))))))))))
 exact Ws.R (We.v rfl rfl)
end
theorem fh (d:Dat) (h:w_ [d]=some (.val (.bl false))):NoN d:=gR _ (eE _ _ _ h)
theorem fU (n:Int) (d:Dat) (h:w_ [d]=some (.val (.bl false))):gj [.int n,d]=some (.val (.bl false)):=by
 apply Wr.eq
 unfold gj
 (refine Dm.Wr.fn ?_ rfl rfl;dsimp only [List.map,List.replicate,List.cons_append,List.nil_append])
 refine Ws.R (We.F (Was.cons (We.v rfl (Was.cons (We.c (Was.cons (We.e2 (We.v rfl (We.c (Wg2.sub ?_ rfl rfl))))))))))
 exact Was.nil (WF.val (eE _ _ _ h) rfl rfl rfl)
theorem CL (h:List Hv):mR (h.map hvD) (h.map hvD)=true:=by
 induction h with
 | nil=>rfl
 | cons t h ih=>rw [List.map_cons,mR,ih];simp [hvD,eqD,mR]
section
variable (xP xT xR:Nat) (hne:[xP,xT,xR].Nodup)
include hne
theorem FQ (ns:List Int) (at_:Int) (h0:0≤at_) (c2 c3 c4 c5 c6 c7 c8 c9:Cell) {Nx:Env→Prop} {R:RV→Env→Prop} {B C:Env→Prop}
  (nx:∀ c2 c3 c4 c5 c6 c7 c8 c9,Nx [.sh (.lst (ns.map Dat.int)),.sh (.int at_),c2,c3,c4,c5,c6,c7,c8,c9]) :
  Ws (xj xP xT xR) [.sh (.lst (ns.map Dat.int)),.sh (.int at_),c2,c3,c4,c5,c6,c7,c8,c9] Nx R B C:=by
 obtain ⟨x,ep⟩:=Fv ns at_ h0
 unfold xj
 refine Ws.seq (Ws.A (We.F (Was.cons (We.v rfl (Was.cons (We.v rfl (Was.nil (WF.box ep ?_ rfl rfl rfl rfl))))))) (by decide))
 refine WA.new ?_ (by first | (dsimp only [List.set];first | done | rfl) | rfl)
 refine Ws.cut (fun ρ=>∃ (n:Nat) (x:Int),(1≤n∧n≤6)∧ρ=[.sh (.lst (ns.map Dat.int)),.sh (.int at_),.ow (aV x),.sh (.int n),c4,c5,c6,c7,c8,c9]) ?_ ?_
 ·refine Ws.A (We.e2 (We.c ?_)) (by decide)
  refine We.drw (m:=6) rfl (by decide) (by decide) rfl fun t x2 t0 t1 ρ3 e=>?_
  subst e
  refine Wg2.add (WA.val ⟨(1+t).toNat,x2,by omega,?_⟩ rfl) rfl rfl
  rw [Int.toNat_of_nonneg (by omega)]
  rfl
 rintro ρ ⟨n,x1,⟨n1,n6⟩,rfl⟩
 have n10:n≤10:=by omega
 obtain ⟨h,x2,eh,hw,hl⟩:=Co x1 n 8 (by omega) (by omega) (by decide) (by decide)
 have hl8:h.length≤8:=by omega
 refine Ws.seq (Ws.A (We.Fm (Was.cons (We.v rfl (Was.cons (We.c (Was.nil (WFm.any eh ?_ rfl rfl rfl)))))) rfl) (by decide))
 refine WA.new ?_ (by first | (dsimp only [List.set];first | done | rfl) | rfl)
 refine Ws.seq (Ws.A (We.B (Was.cons (We.v rfl (Was.nil (WB.Nj ?_ rfl (by omega)))))) (by decide))
 refine WA.new ?_ (by first | (dsimp only [List.set];first | done | rfl) | rfl)
 rw [Int.toNat_natCast]
 refine Ws.seq (Ws.A (We.B (Was.cons (We.w rfl (Was.nil (WB.list (xs:=h.map hvD) ?_ rfl))))) (by decide))
 refine WA.new ?_ (by first | (dsimp only [List.set];first | done | rfl) | rfl)
 have z:∀ {ds:List Dat},ds.length<30→ds.length≤SZ:=fun h=>by unfold SZ;omega
 refine Ws.cut (fun ρ=>∃ (t u y:Int),(0≤t∧0≤u)∧ρ=[.sh (.lst (ns.map Dat.int)),.sh (.int at_),.ow (aV y),.sh (.int n),.ow (hsD h),.ow (.lst (ups 0 n)),.ow (hsD h),.ow (.lst [.int 0,.int 11,.int (-1-t),.int (11+u),.bl true,.bl false,.non,.str [51],.lst [.int n],.tup [.int n]]),c8,c9]) ?_ ?_
 ·refine Ws.A (We.L (Was.cons (We.c (Was.cons (We.c ?_))))) (by decide)
  refine Was.cons (We.e2 (We.e1 (We.c (Wg1.mk (v:=.val (.int (-1))) ?_ rfl rfl))))
  refine We.take (We.c (cB.mk (bJ (m:=9) ?_ rfl rfl (by decide) (by decide)))) rfl
  refine Wg2.sub ?_ rfl rfl
  refine Was.cons (We.e2 (We.c ?_))
  refine We.take (We.e2 (We.c (We.c (Wg2.pow (z:=100000000000000000000000000000000000000000000000000000000000) ?_ rfl rfl (by decide) (by decide))))) rfl
  refine cB.mk (bJ ?_ rfl rfl (by decide) (by decide))
  refine Wg2.add ?_ rfl rfl
  refine Was.cons (We.c (Was.cons (We.c (Was.cons (We.c (Was.cons (We.c ?_)))))))
  refine Was.cons (We.L (Was.cons (We.v rfl (Was.nil (WT.mk ?_ rfl rfl (z (by simp)))))))
  refine Was.cons (We.T (Was.cons (We.v rfl (Was.nil (WT.mk ?_ rfl rfl (z (by simp)))))))
  refine Was.nil (WT.mk ?_ rfl rfl (z (by simp)))
  exact WA.new ⟨_,_,_,⟨(bF x2 9 (by decide)).1,(bF (x2 / 9) 100000000000000000000000000000000000000000000000000000000000 (by decide)).1⟩,rfl⟩ (by first | (dsimp only [List.set];first | done | rfl) | rfl)
 rintro ρ ⟨t,u,y,⟨t0,u0⟩,rfl⟩
 refine Ws.cut (fun ρ=>∃ (d:Dat) (x:Int) (c7:Cell),NoN d∧ρ=[.sh (.lst (ns.map Dat.int)),.sh (.int at_),.ow (aV x),.sh (.int n),.ow (hsD h),.ow (.lst (ups 0 n)),.ow (hsD h),c7,.sh d,c9]) ?_ ?_
 ·refine Ws.A (We.e2 (We.w rfl ?_)) (by decide)
  refine We.take (We.c (cB.mk (bJ (m:=10) ?_ rfl rfl (by decide) (by decide)))) rfl
  obtain ⟨d,hd,nd⟩:∃ d,gIx (.lst [.int 0,.int 11,.int (-1-t),.int (11+u),.bl true,.bl false,.non,.str [51],.lst [.int n],.tup [.int n]]) (.int (y % 10))=some (.val d)∧NoN d:=by
   have hm:=bF y 10 (by decide)
   have:y % 10=0∨y % 10=1∨y % 10=2∨y % 10=3∨y % 10=4∨y % 10=5∨y % 10=6∨y % 10=7∨y % 10=8∨y % 10=9:=by omega
   rcases this with e | e | e | e | e | e | e | e | e | e<;>rw [e]
   ·exact ⟨_,rfl,gR _ (d7 0 1 10 (by decide))⟩
   ·exact ⟨_,rfl,gR _ (d7 11 1 10 (by decide))⟩
   ·exact ⟨_,rfl,gR _ (d7 _ 1 10 (by omega))⟩
   ·exact ⟨_,rfl,gR _ (d7 _ 1 10 (by omega))⟩
   ·exact ⟨_,rfl,fh _ rfl⟩
   ·exact ⟨_,rfl,fh _ rfl⟩
   ·exact ⟨_,rfl,fh _ rfl⟩
   ·exact ⟨_,rfl,fh _ rfl⟩
   ·exact ⟨_,rfl,fh _ rfl⟩
   ·exact ⟨_,rfl,fh _ rfl⟩
  refine Wg2.ix ?_ rfl rfl hd
  exact WA.val ⟨d,_,_,nd,rfl⟩ (by first | (dsimp only [List.set];first | done | rfl) | rfl)
 rintro ρ ⟨d,x3,c7,nd,rfl⟩
 obtain ⟨r,x4,er,hb⟩:=tU x3 n n1 n10 h hw hl8
 refine Ws.cut (fun ρ=>∃ (c4 c9:Cell),(c4=.ow (hsD h)∨c4=.sh (hsD h))∧(c9=.ow r.dat∨c9=.sh r.dat)∧ρ=[.sh (.lst (ns.map Dat.int)),.sh (.int at_),.ow (aV x4),.sh (.int n),c4,.ow (.lst (ups 0 n)),.ow (hsD h),c7,.sh d,c9]) ?_ ?_
 ·refine Ws.A (We.Fm (Was.cons (We.v rfl (Was.cons (We.w rfl (Was.nil ?_))))) rfl) (by decide)
  refine ⟨_,_,_,_,_,_,rfl,rfl,rfl,er,?_⟩
  split
  ·cases r with
   | val q=>exact WA.val ⟨_,_,.inl rfl,.inr rfl,rfl⟩ (by first | (dsimp only [List.set];first | done | rfl) | rfl)
   | new q=>exact WA.new ⟨_,_,.inl rfl,.inl rfl,rfl⟩ (by first | (dsimp only [List.set];first | done | rfl) | rfl)
  ·cases r with
   | val q=>exact WA.val ⟨_,_,.inr rfl,.inr rfl,rfl⟩ (by first | (dsimp only [List.set];first | done | rfl) | rfl)
   | new q=>exact WA.new ⟨_,_,.inr rfl,.inl rfl,rfl⟩ (by first | (dsimp only [List.set];first | done | rfl) | rfl)
 rintro ρ ⟨c4,c9,h4,h9,rfl⟩
 generalize r.dat=bd at hb h9
 refine Ws.seq (Ws.If (Wt.Or (Wt.Not (Wt.V (We.F (Was.cons (We.v rfl (Was.cons (We.w rfl (Was.cons (We.w rfl (Was.cons (We.c (Was.nil (WF.val (CH xP xT xR hne n n1 n10 h hw (by omega)) ?_ rfl rfl)))))))))))))))
 refine Wb.mk (Wif.no rfl ?_)
 refine Wt.Not (Wt.V (We.F (Was.cons (We.v rfl (Was.cons (We.w rfl (Was.cons (We.w rfl (Was.cons (We.c (Was.nil (WF.val (tZ xP xT xR hne (CC (d:=hsD h) nd) (.lst (ups 0 n)) (.inl rfl) 0 rfl) ?_ rfl rfl))))))))))))
 refine Wb.mk (Wif.no rfl (Ws.nx ?_))
 refine Ws.seq (Ws.If (Wt.Or (Wt.Not (Wt.V (We.F (Was.cons (We.v rfl (Was.cons (We.os rfl h9 fun v9 p9=>?_)))))))))
 refine Was.cons (We.w rfl (Was.cons (We.c (Was.nil (WF.val (tZ xP xT xR hne (CC (d:=bd) nd) (.lst (ups 0 n)) (.inl rfl) 0 rfl) ?_ (by simp only [pks,p9];rfl) rfl)))))
 refine Wb.mk (Wif.no rfl ?_)
 refine Wt.Not (Wt.V (We.F (Was.cons (We.v rfl (Was.cons (We.os rfl h9 fun v9 p9=>?_))))))
 refine Was.cons (We.w rfl (Was.cons (We.c (Was.nil (WF.val (tZ xP xT xR hne (CD n1 n10 hb) (.lst (ups 0 n)) (.inr ⟨rfl,rfl⟩) 1 rfl) ?_ (by simp only [pks,p9];rfl) rfl)))))
 refine Wb.mk (Wif.no rfl (Ws.nx ?_))
 refine Ws.cut (fun ρ=>∃ (t y:Int),0≤t∧ρ=[.sh (.lst (ns.map Dat.int)),.sh (.int at_),.ow (aV y),.sh (.int n),c4,.ow (.lst (ups 0 n)),.ow (hsD h),.ow (.lst [.int n,.int (-1),.int (n+t),.bl true,.bl false,.non,.str [48],.lst [.int 0],.tup [.int 0]]),.sh d,c9]) ?_ ?_
 ·refine Ws.A (We.L (Was.cons (We.v rfl ?_))) (by decide)
  refine Was.cons (We.e1 (We.c (Wg1.mk (v:=.val (.int (-1))) ?_ rfl rfl)))
  refine Was.cons (We.e2 (We.v rfl ?_))
  refine We.take (We.e2 (We.c (We.c (Wg2.pow (z:=1000000000) ?_ rfl rfl (by decide) (by decide))))) rfl
  refine cB.mk (bJ ?_ rfl rfl (by decide) (by decide))
  refine Wg2.add ?_ rfl rfl
  refine Was.cons (We.c (Was.cons (We.c (Was.cons (We.c (Was.cons (We.c ?_)))))))
  refine Was.cons (We.L (Was.cons (We.c (Was.nil (WT.mk ?_ rfl rfl (by decide))))))
  refine Was.cons (We.T (Was.cons (We.c (Was.nil (WT.mk ?_ rfl rfl (by decide))))))
  refine Was.nil (WT.mk ?_ rfl rfl (z (by simp)))
  exact WA.new ⟨_,_,(bF x4 1000000000 (by decide)).1,rfl⟩ (by first | (dsimp only [List.set];first | done | rfl) | rfl)
 rintro ρ ⟨t,y,t0,rfl⟩
 refine Ws.cut (fun ρ=>∃ (d:Dat) (x:Int) (c7:Cell),gj [.int n,d]=some (.val (.bl false))∧ρ=[.sh (.lst (ns.map Dat.int)),.sh (.int at_),.ow (aV x),.sh (.int n),c4,.ow (.lst (ups 0 n)),.ow (hsD h),c7,.sh d,c9]) ?_ ?_
 ·refine Ws.A (We.e2 (We.w rfl ?_)) (by decide)
  refine We.take (We.c (cB.mk (bJ (m:=9) ?_ rfl rfl (by decide) (by decide)))) rfl
  obtain ⟨d,hd,nd⟩:∃ d,gIx (.lst [.int n,.int (-1),.int (n+t),.bl true,.bl false,.non,.str [48],.lst [.int 0],.tup [.int 0]]) (.int (y % 9))=some (.val d)∧gj [.int n,d]=some (.val (.bl false)):=by
   have hm:=bF y 9 (by decide)
   have:y % 9=0∨y % 9=1∨y % 9=2∨y % 9=3∨y % 9=4∨y % 9=5∨y % 9=6∨y % 9=7∨y % 9=8:=by omega
   rcases this with e | e | e | e | e | e | e | e | e<;>rw [e]
   ·exact ⟨_,rfl,fE n _ (by omega)⟩
   ·exact ⟨_,rfl,fE n _ (by omega)⟩
   ·exact ⟨_,rfl,fE n _ (by omega)⟩
   ·exact ⟨_,rfl,fU n _ rfl⟩
   ·exact ⟨_,rfl,fU n _ rfl⟩
   ·exact ⟨_,rfl,fU n _ rfl⟩
   ·exact ⟨_,rfl,fU n _ rfl⟩
   ·exact ⟨_,rfl,fU n _ rfl⟩
   ·exact ⟨_,rfl,fU n _ rfl⟩
  refine Wg2.ix ?_ rfl rfl hd
  exact WA.val ⟨d,_,_,nd,rfl⟩ (by first | (dsimp only [List.set];first | done | rfl) | rfl)
 rintro ρ ⟨f,x5,c7',nf,rfl⟩
 have al3:=p6 xP xT xR hne xR 3 (.inr (.inr ⟨rfl,rfl⟩))
 have al1:=p6 xP xT xR hne xT 1 (.inr (.inl ⟨rfl,rfl⟩))
 refine Ws.cut (fun ρ=>∃ c9:Cell,ρ=[.sh (.lst (ns.map Dat.int)),.sh (.int at_),.ow (aV x5),.sh (.int n),c4,.ow (.lst (ups 0 n)),.sh (hsD h),c7',.sh f,c9]) ?_ ?_
 ·refine Ws.If (Wt.Or (Wt.Not (Wt.V (We.F (Was.cons (We.F (Was.cons (We.v rfl (Was.cons (We.w rfl (Was.cons (We.v rfl (Was.nil (WF.box (JI xP xT xR n n1 n10 h hw (by omega) nf) ?_ rfl rfl rfl (by first | (dsimp only [List.set];first | done | rfl) | rfl)))))))))))))))
  refine Was.cons (We.c (Was.nil (WF.val al3 ?_ rfl rfl)))
  refine Wb.mk (Wif.no rfl ?_)
  rcases h9 with rfl | rfl
  ·refine Wt.Not (Wt.V (We.F (Was.cons (We.F (Was.cons (We.v rfl (Was.cons (We.w rfl (Was.cons (We.v rfl (Was.nil (WF.box (CK xP xT xR n1 n10 hb f) ?_ rfl rfl rfl (by first | (dsimp only [List.set];first | done | rfl) | rfl)))))))))))))
   refine Was.cons (We.c (Was.nil (WF.val al1 ?_ rfl rfl)))
   exact Wb.mk (Wif.no rfl (Ws.nx ⟨_,rfl⟩))
  ·refine Wt.Not (Wt.V (We.F (Was.cons (We.F (Was.cons (We.v rfl (Was.cons (We.v rfl (Was.cons (We.v rfl (Was.nil (WF.box (CK xP xT xR n1 n10 hb f) ?_ rfl rfl rfl (by first | (dsimp only [List.set];first | done | rfl) | rfl)))))))))))))
   refine Was.cons (We.c (Was.nil (WF.val al1 ?_ rfl rfl)))
   exact Wb.mk (Wif.no rfl (Ws.nx ⟨_,rfl⟩))
 rintro ρ ⟨c9',rfl⟩
 refine Ws.If (Wt.Or (Wt.V (We.e2 (We.F (Was.cons (We.v rfl (Was.cons (We.v rfl (Was.cons ?_)))))))) )
 refine We.drw (m:=n) rfl (by omega) (by unfold jM;omega) rfl fun p x6 p0 p1 ρ3 e=>?_
 subst e
 refine Was.nil (WF.val (FP xP xT xR n n1 n10 h hw (by omega) p p0 p1) ?_ rfl rfl)
 refine We.c (Wg2.E9 (Wb.mk (Wif.no rfl ?_)) rfl rfl)
 have eqh:eqD (hsD h) (hsD h)=true:=by
  unfold hsD
  rw [eqD]
  exact CL h
 refine Wt.V (We.e2 (We.v rfl (We.os rfl h4 fun v4 p4=>?_)))
 refine ⟨_,_,.val (.bl false),rfl,p4,?_,Wb.mk (Wif.f (Ws.nx (nx _ _ _ _ _ _ _ _)))⟩
 unfold gNe
 rw [show okD 8 (hsD h)=true from LX hvD h fun _=>rfl,eqh]
 rfl
theorem math (ns:List Int) (hl:ns.length≤63):pT xP xT xR [.lst (ns.map Dat.int)]=some (.val (.bl true)):=by
 apply Wr.eq
 unfold pT
 (refine Dm.Wr.fn ?_ rfl rfl;dsimp only [List.map,List.replicate,List.cons_append,List.nil_append])
 refine Ws.seq (Ws.For (Wi.R1 (We.B (Was.cons (We.c (Was.cons (We.B (Was.cons (We.c (Was.cons (We.B (Was.cons (We.v rfl (Was.nil (WB.B4 (enc:=Dat.int) (xs:=ns) ?_ rfl)))))))))))))) )
 refine Was.nil (WB.min2 ?_ rfl)
 refine Was.nil (WB.max2 ?_ rfl)
 generalize hT:(if (if (ns.length:Int)<8 then (ns.length:Int) else 8)>1 then (if (ns.length:Int)<8 then (ns.length:Int) else 8) else 1)=top
 have hb:top≤8∧1≤top:=by
  rw [← hT]
  constructor
  ·split<;>split<;>omega
  ·split<;>omega
 refine cB.mk ⟨?_,by unfold BIG;omega⟩
 refine Ws.inv (fun i:Nat=>Dat.int (0+(i:Nat))) _ _ (List.range top.toNat) _ _ _ _ _ (fun p q ρ=>∃ c1 c2 c3 c4 c5 c6 c7 c8 c9:Cell,ρ=[.sh (.lst (ns.map Dat.int)),c1,c2,c3,c4,c5,c6,c7,c8,c9]) ⟨_,_,_,_,_,_,_,_,_,rfl⟩ ?_ ?_
 ·rintro p i q ρ e ⟨c1,c2,c3,c4,c5,c6,c7,c8,c9,rfl⟩
  refine Dm.eu rfl (by first | (dsimp only [List.set];first | done | rfl) | rfl) ?_
  exact FQ xP xT xR hne ns _ (by omega) _ _ _ _ _ _ _ _ fun _ _ _ _ _ _ _ _=>⟨_,_,_,_,_,_,_,_,_,rfl⟩
 ·rintro ρ ⟨c1,c2,c3,c4,c5,c6,c7,c8,c9,rfl⟩
  exact Ws.R (We.c rfl)
end
end P
set_option maxHeartbeats 4000000
namespace Q
open PySem L2 Br Dm P
noncomputable def top (i:Nat):Stmt:=PySem.Challenge.pw_sinceply_k48_heavy_refused.main.body.getD i (.Pass ⟨0,0,0,0⟩)
structure Txt (mg:Str→Option Value) (K:PySem.W.Frag) (base:Heap) (xE xF xG xH xJ xK vC t7 xM oi p7 l8 p8 p_ qc qd qe l9 qf qg qh qi qj qk ql qm qo qp qq eL cC bI eN aq bX ah eO cD ak aT cE:Addr) (qt qu qv qw qx qy nW l_ qz mh kc iw kg kh ki kj ko iy kq kr ku kB kC kE kF kG kH kI nk:FuncData) (qA:Tok):Prop where
 t8:mg "Clash" = some (.ref eL)
 qB:mg "NoDeed" = some (.ref cC)
 kJ:mg "NoLayers" = some (.ref bI)
 t9:mg "NoNet" = some (.ref eN)
 qC:mg "NoPair" = some (.ref aq)
 nq:mg "NoPaper" = some (.ref bX)
 kK:mg "NoPlaces" = some (.ref ah)
 t_:mg "NoRow" = some (.ref eO)
 qD:mg "NoText" = some (.ref cD)
 qE:mg "NoTies" = some (.ref ak)
 fk:mg "PlyError" = some (.ref aT)
 qF:mg "Unlike" = some (.ref cE)
 ua:PyProof.Rows.OwnCls "NoPlaces" ah bmV "ValueError.__new__" mg base
 aQ:rM K ah
 qG:PyProof.Rows.OwnCls "NoTies" ak bmV "ValueError.__new__" mg base
 bA:rM K ak
 xN:PyProof.Rows.OwnCls "NoPair" aq bmV "ValueError.__new__" mg base
 bB:rM K aq
 jj:PySem.W.kitOne K (.ref aq) (.type "ValueError")=some true
 iz:PySem.W.kitOne K (.ref ah) (.type "ValueError")=some true
 jk:PySem.W.kitOne K (.ref ak) (.type "ValueError")=some true
 gf:PySem.W.lN K aq aT
 fF:PySem.W.lN K ah aT
 gg:PySem.W.lN K ak aT
 oj:PySem.W.kitOne K (.ref aq) (.ref eL)=some false
 nt:PySem.W.kitOne K (.ref aq) (.ref cC)=some false
 kL:PySem.W.kitOne K (.ref aq) (.ref bI)=some false
 oq:PySem.W.kitOne K (.ref aq) (.ref eN)=some false
 nu:PySem.W.kitOne K (.ref aq) (.ref aq)=some true
 mj:PySem.W.kitOne K (.ref aq) (.ref bX)=some false
 kM:PySem.W.kitOne K (.ref aq) (.ref ah)=some false
 ou:PySem.W.kitOne K (.ref aq) (.ref eO)=some false
 nv:PySem.W.kitOne K (.ref aq) (.ref cD)=some false
 ny:PySem.W.kitOne K (.ref aq) (.ref ak)=some false
 nA:PySem.W.kitOne K (.ref aq) (.ref cE)=some false
 mq:PySem.W.kitOne K (.ref ah) (.ref eL)=some false
 kN:PySem.W.kitOne K (.ref ah) (.ref cC)=some false
 jl:PySem.W.kitOne K (.ref ah) (.ref bI)=some false
 mw:PySem.W.kitOne K (.ref ah) (.ref eN)=some false
 kO:PySem.W.kitOne K (.ref ah) (.ref aq)=some false
 jO:PySem.W.kitOne K (.ref ah) (.ref bX)=some false
 jm:PySem.W.kitOne K (.ref ah) (.ref ah)=some true
 mz:PySem.W.kitOne K (.ref ah) (.ref eO)=some false
 kP:PySem.W.kitOne K (.ref ah) (.ref cD)=some false
 kQ:PySem.W.kitOne K (.ref ah) (.ref ak)=some false
 kR:PySem.W.kitOne K (.ref ah) (.ref cE)=some false
 oz:PySem.W.kitOne K (.ref ak) (.ref eL)=some false
 nB:PySem.W.kitOne K (.ref ak) (.ref cC)=some false
 kT:PySem.W.kitOne K (.ref ak) (.ref bI)=some false
 oA:PySem.W.kitOne K (.ref ak) (.ref eN)=some false
 nC:PySem.W.kitOne K (.ref ak) (.ref aq)=some false
 mC:PySem.W.kitOne K (.ref ak) (.ref bX)=some false
 kU:PySem.W.kitOne K (.ref ak) (.ref ah)=some false
 oB:PySem.W.kitOne K (.ref ak) (.ref eO)=some false
 nD:PySem.W.kitOne K (.ref ak) (.ref cD)=some false
 nE:PySem.W.kitOne K (.ref ak) (.ref ak)=some true
 nF:PySem.W.kitOne K (.ref ak) (.ref cE)=some false
 iA:mg "ValueError" = none
 GZ:mg "all" = none
 JJ:mg "bool" = none
 jn:mg "enumerate" = none
 Mb:mg "int" = none
 ai:mg "isinstance" = none
 jX:mg "len" = none
 qH:mg "list" = none
 CM:mg "max" = none
 yX:mg "min" = none
 cS:mg "range" = none
 G0:mg "sum" = none
 oK:mg "tuple" = none
 fK:∃ t,mg "MOST_HEAVY" = some (.int 40 t)
 Ny:mg "is_whole" = some (.ref xE)
 JK:mg "is_within" = some (.ref xF)
 Mc:mg "is_places" = some (.ref xG)
 FU:mg "is_place" = some (.ref xH)
 Nz:mg "is_pair" = some (.ref xJ)
 Me:mg "is_heavy_tie" = some (.ref xK)
 JL:mg "look_at_places" = some (.ref vC)
 nG:mg "look_at_heavy" = some (.ref t7)
 NB:mg "weight_to" = some (.ref xM)
 vE:mg "order" = some (.ref oi)
 Mf:mg "ties_ahead" = some (.ref p7)
 CN:mg "bands" = some (.ref l8)
 G1:mg "shortest_ways" = some (.ref p8)
 Mg:mg "side_weight" = some (.ref p_)
 CO:mg "room" = some (.ref qc)
 G3:mg "open_steps" = some (.ref qd)
 G4:mg "flow_to" = some (.ref qe)
 CQ:mg "lightest" = some (.ref l9)
 Mh:mg "_law_cell_at" = some (.ref qf)
 Mi:mg "_law_pool" = some (.ref qg)
 dF:mg "_law_take" = some (.ref qh)
 Mj:mg "_law_heavy" = some (.ref qi)
 CS:mg "_law_alone" = some (.ref qj)
 Mk:mg "_law_odd_tie" = some (.ref qk)
 Ml:mg "_law_odd_heavy" = some (.ref ql)
 Mm:mg "_law_told" = some (.ref qm)
 CT:mg "_law_first_told" = some (.ref qo)
 yY:mg "_law_all_told" = some (.ref qp)
 NG:mg "law" = some (.ref qq)
 Mn:Fun K "is_whole" "is_whole" (top 14) xE qt
 JM:Binds K qt ["thing"] []
 FW:Fun K "is_within" "is_within" (top 15) xF qu
 CU:Binds K qu ["thing","low","high"] []
 JN:Fun K "is_places" "is_places" (top 16) xG qv
 CV:Fun K "is_place" "is_place" (top 17) xH qw
 Am:Binds K qw ["n","thing"] []
 Mp:Fun K "is_pair" "is_pair" (top 19) xJ qx
 JO:Binds K qx ["n","a","b"] []
 JP:Fun K "is_heavy_tie" "is_heavy_tie" (top 18) xK qy
 FY:Binds K qv ["thing"] []
 CW:Fun K "look_at_places" "look_at_places" (top 20) vC nW
 FZ:Binds K qy ["n","thing"] []
 CY:Binds K nW ["n"] []
 jP:Fun K "look_at_heavy" "look_at_heavy" (top 23) t7 l_
 Mq:Fun K "weight_to" "weight_to" (top 25) xM qz
 kW:Binds K l_ ["n","heavy"] []
 JQ:Binds K qz ["heavy","place","row"] []
 mD:BL K "order" "order" (top 24) oi mh
 G5:Fun K "ties_ahead" "ties_ahead" (top 27) p7 kc
 CZ:Binds K kc ["heavy","place","ahead"] []
 sj:Fun K "bands" "bands" (top 26) l8 iw
 C0:Fun K "shortest_ways" "shortest_ways" (top 29) p8 kg
 G6:Fun K "side_weight" "side_weight" (top 31) p_ kh
 yZ:Fun K "room" "room" (top 35) qc ki
 vF:Binds K ki ["heavy","flow","push"] []
 C1:Fun K "open_steps" "open_steps" (top 34) qd kj
 y9:Binds K kg ["steps","a"] []
 y_:Binds K kj ["n","heavy","flow"] []
 C2:Fun K "flow_to" "flow_to" (top 33) qe ko
 C3:Binds K kh ["heavy","side"] []
 za:Binds K ko ["n","heavy","place","most"] []
 sq:Fun K "lightest" "lightest" (top 32) l9 iy
 G7:Fun K "_law_cell_at" "_law_cell_at" (top 37) qf kq
 C4:Binds K kq ["script","k"] []
 G8:Fun K "_law_pool" "_law_pool" (top 38) qg kr
 cW:Fun K "_law_take" "_law_take" (top 39) qh ku
 cF:Binds K ku ["pool","many"] []
 G9:Fun K "_law_heavy" "_law_heavy" (top 40) qi kB
 zb:Fun K "_law_alone" "_law_alone" (top 41) qj kC
 G_:Fun K "_law_odd_tie" "_law_odd_tie" (top 42) qk kE
 C5:Binds K kE ["pool","n"] []
 Hg:Fun K "_law_odd_heavy" "_law_odd_heavy" (top 43) ql kF
 An:Binds K mh ["n","heavy","first"] []
 sr:Binds K mh ["n","heavy","first"] [.int 0 qA]
 vG:Binds K iw ["n","heavy","row"] []
 vH:Binds K iy ["n","heavy"] []
 Hh:Fun K "_law_told" "_law_told" (top 44) qm kG
 zc:Fun K "_law_first_told" "_law_first_told" (top 45) qo kH
 vJ:Binds K kC ["caught","kind"] []
 C6:Binds K kG ["which","n","heavy","row"] []
 vK:Fun K "_law_all_told" "_law_all_told" (top 46) qp kI
 C7:Binds K kr ["script","at"] []
 C8:Binds K kB ["pool","n","most"] []
 C9:Binds K kF ["pool","n","heavy"] []
 vL:Binds K kH ["n","heavy","first"] []
 su:Binds K kI ["n","heavy","row","kind"] []
 Mr:Fun K "law" "law" (top 47) qq nk
section
variable {P':Program} {w:World} {K:PySem.W.Frag} {mg:Str→Option Value} {base:Heap} {xE xF xG xH xJ xK vC t7 xM oi p7 l8 p8 p_ qc qd qe l9 qf qg qh qi qj qk ql qm qo qp qq eL cC bI eN aq bX ah eO cD ak aT cE:Addr}
variable {qt qu qv qw qx qy nW l_ qz mh kc iw kg kh ki kj ko iy kq kr ku kB kC kE kF kG kH kI nk:FuncData} {qA:Tok}
theorem Ms:aK ["thing"] ["thing"] (aj (top 14)):=fsc rfl rfl rfl rfl (by decide +kernel)
theorem Mt:aK ["thing","low","high"] ["thing","low","high"] (aj (top 15)):=fsc rfl rfl rfl rfl (by decide +kernel)
theorem Mu:aK ["thing"] ["thing"] (aj (top 16)):=fsc rfl rfl rfl rfl (by decide +kernel)
theorem Mv:aK ["n","thing"] ["n","thing"] (aj (top 17)):=fsc rfl rfl rfl rfl (by decide +kernel)
theorem Mw:aK ["n","a","b"] ["n","a","b"] (aj (top 19)):=fsc rfl rfl rfl rfl (by decide +kernel)
theorem Mx:aK ["n","thing"] ["n","thing"] (aj (top 18)):=fsc rfl rfl rfl rfl (by decide +kernel)
theorem Hi:aK ["n"] ["n"] (aj (top 20)):=fsc rfl rfl rfl rfl (by decide +kernel)
theorem C_:aK ["n","heavy"] ["n","heavy"] (aj (top 23)):=fsc rfl rfl rfl rfl (by decide +kernel)
theorem JR:(["n","heavy","tie"]:List Str).Nodup:=by decide +kernel
theorem JS:(["n","heavy","tie"]:List Str).Nodup:=by decide +kernel
theorem My:aK ["heavy","place","row"] ["heavy","place","row"] (aj (top 25)):=fsc rfl rfl rfl rfl (by decide +kernel)
theorem xO:(["heavy","place","row","a","b","weight"]:List Str).Nodup:=by decide +kernel
theorem qI:aK ["n","heavy","first","row","left","weights"] ["n","heavy","first"] (aj (top 24)):=fsc rfl rfl rfl rfl (by decide +kernel)
theorem JT:(["n","heavy","first","row","left","weights","place"]:List Str).Nodup:=by decide +kernel
theorem JU:(["n","heavy","first","row","left","weights","place"]:List Str).Nodup:=by decide +kernel
theorem xQ:aK ["heavy","place","ahead","found","other"] ["heavy","place","ahead"] (aj (top 27)):=fsc rfl rfl rfl rfl (by decide +kernel)
theorem zd:(["heavy","place","ahead","found","other","at","tie"]:List Str).Nodup:=by decide +kernel
theorem gA:aK ["n","heavy","row","found","rank","place","high","at","low"] ["n","heavy","row"] (aj (top 26)):=fsc rfl rfl rfl rfl (by decide +kernel)
theorem F0:(["n","heavy","row","found","rank","place","high","%7","low","at"]:List Str).Nodup:=by decide +kernel
theorem qJ:aK ["steps","a","ways","pending","place","step"] ["steps","a"] (aj (top 29)):=fsc rfl rfl rfl rfl (by decide +kernel)
theorem JV:aK ["heavy","side"] ["heavy","side"] (aj (top 31)):=fsc rfl rfl rfl rfl (by decide +kernel)
theorem uc:(["heavy","side","a","b","weight"]:List Str).Nodup:=by decide +kernel
theorem JX:aK ["heavy","flow","push"] ["heavy","flow","push"] (aj (top 35)):=fsc rfl rfl rfl rfl (by decide +kernel)
theorem ud:aK ["n","heavy","flow","steps","at","tie"] ["n","heavy","flow"] (aj (top 34)):=fsc rfl rfl rfl rfl (by decide +kernel)
theorem F2:(["n","heavy","flow","steps","at","tie","place"]:List Str).Nodup:=by decide +kernel
theorem gB:aK ["n","heavy","place","most","flow","total","reached","pushes","amount","at","sign"] ["n","heavy","place","most"] (aj (top 33)):=fsc rfl rfl rfl rfl (by decide +kernel)
theorem F3:(["n","heavy","place","most","flow","total","reached","pushes","amount","at","sign","tie"]:List Str).Nodup:=by decide +kernel
theorem F4:(["n","heavy","place","most","flow","total","reached","pushes","amount","at","sign","step"]:List Str).Nodup:=by decide +kernel
theorem F5:(["n","heavy","place","most","flow","total","reached","pushes","amount","at","sign","push"]:List Str).Nodup:=by decide +kernel
theorem F6:(["n","heavy","place","most","flow","total","reached","pushes","amount","at","sign","other"]:List Str).Nodup:=by decide +kernel
theorem iB:aK ["n","heavy","side","weight","place","found"] ["n","heavy"] (aj (top 32)):=fsc rfl rfl rfl rfl (by decide +kernel)
theorem F7:(["n","heavy","side","weight","%4","found","place"]:List Str).Nodup:=by decide +kernel
theorem JY:aK ["script","k"] ["script","k"] (aj (top 37)):=fsc rfl rfl rfl rfl (by decide +kernel)
theorem jo:aK ["script","at","cell","big","turn","one"] ["script","at"] (aj (top 38)):=fsc rfl rfl rfl rfl (by decide +kernel)
theorem Dc:aK ["pool","many","number"] ["pool","many"] (aj (top 39)):=fsc rfl rfl rfl rfl (by decide +kernel)
theorem iC:aK ["pool","n","most","sort","heavy","k","a","b","weight"] ["pool","n","most"] (aj (top 40)):=fsc rfl rfl rfl rfl (by decide +kernel)
theorem qK:aK ["caught","kind","marks"] ["caught","kind"] (aj (top 41)):=fsc rfl rfl rfl rfl (by decide +kernel)
theorem F8:(["caught","kind","marks","k"]:List Str).Nodup:=by decide +kernel
theorem nI:aK ["pool","n","a","b","some"] ["pool","n"] (aj (top 42)):=fsc rfl rfl rfl rfl (by decide +kernel)
theorem xS:aK ["pool","n","heavy","way","at"] ["pool","n","heavy"] (aj (top 43)):=fsc rfl rfl rfl rfl (by decide +kernel)
theorem fL:aK ["which","n","heavy","row","caught","found","e"] ["which","n","heavy","row"] (aj (top 44)):=fsc rfl rfl rfl rfl (by decide +kernel)
theorem jq:aK ["n","heavy","first","caught","e"] ["n","heavy","first"] (aj (top 45)):=fsc rfl rfl rfl rfl (by decide +kernel)
theorem ue:aK ["n","heavy","row","kind","which","caught","found"] ["n","heavy","row","kind"] (aj (top 46)):=fsc rfl rfl rfl rfl (by decide +kernel)
theorem fM:aK ["script","at","pool","n","heavy","row","handed","some","odd","bad"] ["script"] (aj (top 47)):=fsc rfl rfl rfl rfl (by decide +kernel)
variable (T:Txt mg K base xE xF xG xH xJ xK vC t7 xM oi p7 l8 p8 p_ qc qd qe l9 qf qg qh qi qj qk ql qm qo qp qq eL cC bI eN aq bX ah eO cD ak aT cE qt qu qv qw qx qy nW l_ qz mh kc iw kg kh ki kj ko iy kq kr ku kB kC kE kF kG kH kI nk qA)
include T
theorem Mz :
  aW P' w K mg base CX0 1 xE qt ["thing"] (spD w_):=by
 refine T.Mn.ok Ms (fun vs H Q E h=>bh h) (fun cdv A outer s H vs Q E hr h=>?_)
 exact ⟨_,(aC (s_r (o9 (rG Eu (by rfl) rfl T.Mb rfl T.ai (d_v 0)) (uS (Lh (rG Bl (by rfl) rfl T.JJ rfl T.ai (d_v 0))))))),fH (n:=1) (m:=0) rfl h⟩
theorem Dd :
  aW P' w K mg base CX0 2 xF qu ["thing","low","high"] (spD lR):=by
 refine T.FW.ok Mt (fun vs H Q E h=>bh h) (fun cdv A outer s H vs Q E hr h=>?_)
 exact ⟨_,(aC (s_r (o9 (aL (Mz T) (Br.hm hr) rfl T.Ny T.Mn.kp T.JM (aa (d_v 0) af)) (uS (Ex Gh Gs Gh Gs (d_v 1) (d_v 0) (d_v 2)))))),fH (n:=3) (m:=0) rfl h⟩
theorem Hj :
  aW P' w K mg base CX0 3 xG qv ["thing"] (spD n_):=by
 refine T.JN.ok Mu (fun vs H Q E h=>bh h) (fun cdv A outer s H vs Q E hr h=>?_)
 exact ⟨_,(aC (s_r (aL (Dd T) (Br.hm hr) rfl T.JK T.FW.kp T.CU (aa (d_v 0) (aa d_i (aa d_i af)))))),fH (n:=1) (m:=0) rfl h⟩
theorem ze :
  aW P' w K mg base CX0 3 xH qw ["n","thing"] (spD gj):=by
 refine T.CV.ok Mv (fun vs H Q E h=>bh h) (fun cdv A outer s H vs Q E hr h=>?_)
 exact ⟨_,(aC (s_r (aL (Dd T) (Br.hm hr) rfl T.JK T.FW.kp T.CU (aa (d_v 1) (aa d_i (aa (rE (d_v 0) d_i) af)))))),fH (n:=2) (m:=0) rfl h⟩
theorem MA :
  aW P' w K mg base CX0 4 xJ qx ["n","a","b"] (spD lS):=by
 refine T.Mp.ok Mw (fun vs H Q E h=>bh h) (fun cdv A outer s H vs Q E hr h=>?_)
 exact ⟨_,(aC (s_r (o9 (aL (ze T) (Br.hm hr) rfl T.FU T.CV.kp T.Am (aa (d_v 0) (aa (d_v 1) af))) (o9 (aL (ze T) (Br.hm hr) rfl T.FU T.CV.kp T.Am (aa (d_v 0) (aa (d_v 2) af))) (uS (MY hr (d_v 1) (d_v 2))))))),fH (n:=3) (m:=0) rfl h⟩
theorem Hl :
  aW P' w K mg base CX0 5 xK qy ["n","thing"] (spD gb):=by
 refine T.JP.ok Mx (fun vs H Q E h=>bh h) (fun cdv A outer s H vs Q E hr h=>?_)
 exact ⟨_,(ao (fP (t_w (w_or (fC (fD (rG kit_tuple (by rfl) rfl T.oK rfl T.ai (d_v 1)))) (jT (IQ hr (jS rfl T.jX (aa (d_v 1) af)) d_i)))) (aC (s_r d_b)) dw)
  (aC (s_r (o9 (aL (MA T) (Br.hm hr) rfl T.Nz T.Mp.kp T.JO (aa (d_v 0) (aa (cz (d_v 1) d_i) (aa (cz (d_v 1) d_i) af)))) (o9 (MZ (cz (d_v 1) d_i) (cz (d_v 1) d_i)) (uS (aL (Dd T) (Br.hm hr) rfl T.JK T.FW.kp T.CU (aa (cz (d_v 1) d_i) (aa d_i (aa (o8 d_i d_i) af)))))))))),fH (n:=2) (m:=0) rfl h⟩
theorem Ho :
  aW P' w K mg base CX0 4 vC nW ["n"] (spD vf):=by
 refine T.CW.ok Hi (fun vs H Q E h=>bh h) (fun cdv A outer s H vs Q E hr h=>?_)
 exact ⟨_,(aC (fP (fC (fD (aL (Hj T) (Br.hm hr) rfl T.Mc T.JN.kp T.FY (aa (d_v 0) af)))) (aC lI) dw)),fH (n:=1) (m:=0) rfl h⟩
theorem fS :
  aW P' w K mg base (CXE P' w ah) 4 vC nW ["n"] (spX ah aS):=by
 exact okY (n:=1) (m:=0) T.CW Hi rfl rfl (fun cdv A outer s H E hr=>(bq (n9 (fC (fD (aL (Hj T) (Br.hm hr) rfl T.Mc T.JN.kp T.FY (aa (d_v 0) af)))) (bq (y_x (x_raise T.ua PySem.F.excBase_ValueError rfl))) Ac)))
theorem vM :
  aW P' w K mg base CX0 6 t7 l_ ["n","heavy"] (spD lT):=by
 refine T.jP.ok C_ (fun vs H Q E h=>bh h) (fun cdv A outer s H vs Q E hr h=>?_)
 obtain ⟨fq,eS⟩:=T.fK
 exact ⟨_,(ao (s_e (aL (Ho T) (Br.hm hr) rfl T.JL T.CW.kp T.CY (aa (d_v 0) af)))
  (ao (fP (t_w (w_or (fC (fD (rG o_ (by rfl) rfl T.qH rfl T.ai (d_v 1)))) (jT (zR (jS rfl T.jX (aa (d_v 1) af)) (d_g rfl eS))))) (aC lI) dw)
  (aC (fP (fC (fD (GA rfl rfl T.GZ (aa (rK 1 ["n","heavy"] ["tie"] (c_n 2 JR rfl rfl) (d_v 1) (fun _ _ _ _ _=>g9) (fun _ _ _ _ _=>(aL (Hl T) (Br.hm hr) rfl T.Me T.JP.kp T.FZ (aa (d_v 0) (aa (d_v 2) af))))) af)))) (aC lI) dw)))),fH (n:=2) (m:=0) rfl h⟩
theorem aU :
  aW P' w K mg base (CXE P' w ah) 6 t7 l_ ["n","heavy"] (spX ah aD):=by
 obtain ⟨fq,eS⟩:=T.fK
 exact okY (n:=2) (m:=0) T.jP C_ rfl rfl (fun cdv A outer s H E hr=>(bq (y_x (cA (x_call (fS T) (Br.hm hr) rfl T.JL T.CW.kp T.CY pI (aa (d_v 0) af))))))
theorem bg :
  aW P' w K mg base (CXE P' w ak) 6 t7 l_ ["n","heavy"] (spX ak aI):=by
 obtain ⟨fq,eS⟩:=T.fK
 exact okY (n:=2) (m:=0) T.jP C_ rfl rfl (fun cdv A outer s H E hr=>(BY (s_e (aL (Ho T) (Br.hm hr) rfl T.JL T.CW.kp T.CY (aa (d_v 0) af))) (Ng (bq (n9 (t_w (w_or (fC (fD (rG o_ (by rfl) rfl T.qH rfl T.ai (d_v 1)))) (jT (zR (jS rfl T.jX (aa (d_v 1) af)) (d_g rfl eS))))) (bq (y_x (x_raise T.qG PySem.F.excBase_ValueError rfl))) Ac)) (BY (fP (t_w (w_or (fC (fD (rG o_ (by rfl) rfl T.qH rfl T.ai (d_v 1)))) (jT (zR (jS rfl T.jX (aa (d_v 1) af)) (d_g rfl eS))))) (aC lI) dw) (bq (n9 (fC (fD (GA rfl rfl T.GZ (aa (rK 1 ["n","heavy"] ["tie"] (c_n 2 JS rfl rfl) (d_v 1) (fun _ _ _ _ _=>g9) (fun _ _ _ _ _=>(aL (Hl T) (Br.hm hr) rfl T.Me T.JP.kp T.FZ (aa (d_v 0) (aa (d_v 2) af))))) af)))) (bq (y_x (x_raise T.qG PySem.F.excBase_ValueError rfl))) Ac))))))
theorem MB :
  aW P' w K mg base CX0 1 xM qz ["heavy","place","row"] (spD Fc):=by
 refine T.Mq.ok My (fun vs H Q E h=>bh h) (fun cdv A outer s H vs Q E hr h=>?_)
 exact ⟨_,(aC (s_r (BI rfl rfl T.G0 (aa (rK 0 ["heavy","place","row"] ["a","b","weight"] (c_t rfl (fun _ _ _ _ _=>(bV 3 xO (bV 4 xO (bV 5 xO j4))))) (d_v 0) (fun _ _ _ _ _=>pe (t_w (w_or (t_w (w_and (gM hr (d_v 3) (d_v 1)) (i7 (Et hr (d_v 4) (d_v 2))))) (jT (t_w (w_and (gM hr (d_v 4) (d_v 1)) (i7 (Et hr (d_v 3) (d_v 2))))))))) (fun _ _ _ _ _=>(d_v 5))) af)))),fH (n:=3) (m:=0) rfl h⟩
theorem Hq :
  aW P' w K mg base CX0 7 oi mh ["n","heavy","first"] (spD tN):=by
 refine T.mD.ok qI (fun vs H Q E h=>bh h) (fun cdv A outer s H vs Q E hr h=>?_)
 exact ⟨_,(ao (s_e (aL (vM T) (Br.hm hr) rfl T.nG T.jP.kp T.kW (aa (d_v 0) (aa (d_v 1) af))))
  (ao (fP (fC (fD (aL (ze T) (Br.hm hr) rfl T.FU T.CV.kp T.Am (aa (d_v 0) (aa (d_v 2) af))))) (aC lI) dw)
  (ao (s_a 3 qI.nd (b_ (aa (d_v 2) af)))
  (ao (IT 100 PassesOwn.never (zQ (jS rfl T.jX (aa (d_v 3) af)) (d_v 0))
  (ao (Ll 4 ["n","heavy","first","row","left","weights"] ["place"] qI.nd (c_n 6 JT rfl rfl) (tu rfl T.cS (aa (d_v 0) af)) (fun _ _ _ _ _=>pe (Lf hr (d_v 6) (d_v 3))) (fun _ _ _ _ _=>(d_v 6)))
  (ao (Lq 5 4 ["n","heavy","first","row","left","weights"] ["place"] qI.nd (c_n 6 JU rfl rfl) (d_v 4) (fun _ _ _ _ _=>g9) (fun _ _ _ _ _=>(aL (MB T) (Br.hm hr) rfl T.NB T.Mq.kp T.JQ (aa (d_v 1) (aa (d_v 6) (aa (d_v 3) af))))))
  (aC (Bk 3 (cz (d_v 4) (EU (d_v 5) (Jd rfl rfl T.CM (aa (d_v 5) af)))))))))
  (aC (s_r (d_v 3))))))),fH (n:=3) (m:=3) rfl h⟩
theorem gh :
  aW P' w K mg base (CXE P' w ah) 7 oi mh ["n","heavy","first"] (spX ah bO):=by
 exact Jr (n:=3) (m:=3) T.mD qI rfl rfl (fun cdv A outer s H E hr=>(bq (y_x (cA (x_call (aU T) (Br.hm hr) rfl T.nG T.jP.kp T.kW pI (aa (d_v 0) (aa (d_v 1) af)))))))
theorem gU :
  aW P' w K mg base (CXE P' w ak) 7 oi mh ["n","heavy","first"] (spX ak cg):=by
 exact Jr (n:=3) (m:=3) T.mD qI rfl rfl (fun cdv A outer s H E hr=>(bq (y_x (cA (x_call (bg T) (Br.hm hr) rfl T.nG T.jP.kp T.kW pI (aa (d_v 0) (aa (d_v 1) af)))))))
theorem gW :
  aW P' w K mg base (CXE P' w aq) 7 oi mh ["n","heavy","first"] (spX aq dJ):=by
 exact Jr (n:=3) (m:=3) T.mD qI rfl rfl (fun cdv A outer s H E hr=>(BY (s_e (aL (vM T) (Br.hm hr) rfl T.nG T.jP.kp T.kW (aa (d_v 0) (aa (d_v 1) af)))) (bq (n9 (fC (fD (aL (ze T) (Br.hm hr) rfl T.FU T.CV.kp T.Am (aa (d_v 0) (aa (d_v 2) af))))) (bq (y_x (x_raise T.xN PySem.F.excBase_ValueError rfl))) Ac))))
theorem JZ :
  aW P' w K mg base CX0 1 p7 kc ["heavy","place","ahead"] (spD yM):=by
 refine T.G5.ok xQ (fun vs H Q E h=>bh h) (fun cdv A outer s H vs Q E hr h=>?_)
 exact ⟨_,(ao (s_a 3 xQ.nd (b_ af))
  (ao (jU PassesOwn.never rfl (i_S (d_v 2)) (g_n 4 xQ.nd)
  (aC (Ly 3 (Bp ["heavy","place","ahead","found","other"] ["at","tie"] (c_t rfl (fun _ _ _ _ _=>(bV 5 zd (bV 6 zd j4)))) (IZ rfl T.jn (d_v 0)) (fun _ _ _ _ _=>pe (t_w (w_and (Et hr (d_v 1) (GB (d_v 6) o_n (o_s d_i))) (i7 (Et hr (d_v 4) (GB (d_v 6) o_n (o_s d_i))))))) (fun _ _ _ _ _=>(d_v 5))))))
  (aC (s_r (d_v 3))))),fH (n:=3) (m:=2) rfl h⟩
theorem J0 :
  aW P' w K mg base CX0 7 l8 iw ["n","heavy","row"] (spD pR):=by
 refine T.sj.ok gA (fun vs H Q E h=>bh h) (fun cdv A outer s H vs Q E hr h=>?_)
 exact ⟨_,(ao (s_e (aL (vM T) (Br.hm hr) rfl T.nG T.jP.kp T.kW (aa (d_v 0) (aa (d_v 1) af))))
  (ao (s_a 3 gA.nd Ls)
  (ao (jU PassesOwn.never rfl (IZ rfl T.jn (d_v 2)) (g_t rfl (bV 4 gA.nd (bV 5 gA.nd j4)))
  (ao (s_a 6 gA.nd d_i)
  (aC (jU PassesOwn.never rfl (i_S (aL (JZ T) (Br.hm hr) rfl T.Mf T.G5.kp T.CZ (aa (d_v 1) (aa (d_v 5) (aa (IU (d_v 2) o_n (o_s (d_v 4))) af))))) (g_n 7 gA.nd)
  (ao (s_a 8 gA.nd (d_v 6))
  (ao (s_a 6 gA.nd (bK (d_v 8) (cz (cz (d_v 1) (d_v 7)) d_i)))
  (aC (Bx 3 hr (d_v 7) (bD (aa (d_v 8) (aa (d_v 6) af)))))))))))
  (aC (s_r (Bp ["n","heavy","row","found","rank","place","high","%7","low"] ["at"] (c_n 9 F0 rfl rfl) (tu rfl T.cS (aa (jS rfl T.jX (aa (d_v 1) af)) af)) (fun _ _ _ _ _=>g9) (fun _ _ _ _ _=>(Jc hr (d_v 3) (d_v 9))))))))),fH (n:=3) (m:=6) rfl h⟩
theorem kX :
  aW P' w K mg base (CXE P' w ah) 7 l8 iw ["n","heavy","row"] (spX ah cu):=by
 exact okY (n:=3) (m:=6) T.sj gA rfl rfl (fun cdv A outer s H E hr=>(bq (y_x (cA (x_call (aU T) (Br.hm hr) rfl T.nG T.jP.kp T.kW pI (aa (d_v 0) (aa (d_v 1) af)))))))
theorem nJ :
  aW P' w K mg base (CXE P' w ak) 7 l8 iw ["n","heavy","row"] (spX ak dM):=by
 exact okY (n:=3) (m:=6) T.sj gA rfl rfl (fun cdv A outer s H E hr=>(bq (y_x (cA (x_call (bg T) (Br.hm hr) rfl T.nG T.jP.kp T.kW pI (aa (d_v 0) (aa (d_v 1) af)))))))
theorem De :
  aW P' w K mg base CX0 1 p8 kg ["steps","a"] (spD lU):=by
 refine T.C0.ok qJ (fun vs H Q E h=>bh h) (fun cdv A outer s H vs Q E hr h=>?_)
 exact ⟨_,(ao (s_a 2 qJ.nd (M8 (d_v 1) (b_ af)))
  (ao (s_a 3 qJ.nd (b_ (aa (d_v 1) af)))
  (ao (IT 100 PassesOwn.never (M_ (d_v 3))
  (ao (s_a 4 qJ.nd (EH 3 d_i))
  (aC (jU PassesOwn.never rfl (i_S (cz (d_v 0) (d_v 4))) (g_n 5 qJ.nd)
  (aC (fP (Bw hr (cz (d_v 5) d_i) (d_v 2)) (ao (Bx 2 hr (cz (d_v 5) d_i) (bK (Jc hr (d_v 2) (d_v 4)) (b_ (aa (d_v 5) af))))
  (aC (Bk 3 (cz (d_v 5) d_i)))) dw))))))
  (aC (s_r (d_v 2)))))),fH (n:=2) (m:=4) rfl h⟩
theorem J2 :
  aW P' w K mg base CX0 1 p_ kh ["heavy","side"] (spD yN):=by
 refine T.G6.ok JV (fun vs H Q E h=>bh h) (fun cdv A outer s H vs Q E hr h=>?_)
 exact ⟨_,(aC (s_r (BI rfl rfl T.G0 (aa (rK 0 ["heavy","side"] ["a","b","weight"] (c_t rfl (fun _ _ _ _ _=>(bV 2 uc (bV 3 uc (bV 4 uc j4))))) (d_v 0) (fun _ _ _ _ _=>pe (IQ hr (D4 hr (d_v 2) (d_v 1)) (D4 hr (d_v 3) (d_v 1)))) (fun _ _ _ _ _=>(d_v 4))) af)))),fH (n:=2) (m:=0) rfl h⟩
theorem xU :
  aW P' w K mg base CX0 1 qc ki ["heavy","flow","push"] (spD lV):=by
 refine T.yZ.ok JX (fun vs H Q E h=>bh h) (fun cdv A outer s H vs Q E hr h=>?_)
 exact ⟨_,(aC (s_r (rE (cz (cz (d_v 0) (cz (d_v 2) d_i)) d_i) (iK (cz (d_v 2) d_i) (cz (d_v 1) (cz (d_v 2) d_i)))))),fH (n:=3) (m:=0) rfl h⟩
theorem Df :
  aW P' w K mg base CX0 2 qd kj ["n","heavy","flow"] (spD nU):=by
 refine T.C1.ok ud (fun vs H Q E h=>bh h) (fun cdv A outer s H vs Q E hr h=>?_)
 exact ⟨_,(Jk 3 ["n","heavy","flow","steps","at","tie"] ["place"] ud.nd (c_n 6 F2 rfl rfl) (tu rfl T.cS (aa (d_v 0) af)) (LN PassesOwn.never rfl (IZ rfl T.jn (d_v 1)) (g_t rfl (bV 4 ud.nd (bV 5 ud.nd j4)))
  (Jj (LM (zR (aL (xU T) (Br.hm hr) rfl T.CO T.yZ.kp T.vF (aa (d_v 1) (aa (d_v 2) (aa (bD (aa (d_v 4) (aa d_i af))) af)))) d_i) (BQ (GG (cz (d_v 5) d_i) (bD (aa (bD (aa (d_v 4) (aa d_i af))) (aa (cz (d_v 5) d_i) af))))) GF)
  (BQ (LM (zR (aL (xU T) (Br.hm hr) rfl T.CO T.yZ.kp T.vF (aa (d_v 1) (aa (d_v 2) (aa (bD (aa (d_v 4) (aa (rF d_i) af))) af)))) d_i) (BQ (GG (cz (d_v 5) d_i) (bD (aa (bD (aa (d_v 4) (aa (rF d_i) af))) (aa (cz (d_v 5) d_i) af))))) GF))))
  (aC (s_r (d_v 3)))),fH (n:=3) (m:=3) rfl h⟩
theorem Dg :
  aW P' w K mg base CX0 3 qe ko ["n","heavy","place","most"] (spD pS):=by
 refine T.C2.ok gB (fun vs H Q E h=>bh h) (fun cdv A outer s H vs Q E hr h=>?_)
 exact ⟨_,(ao (s_a 4 gB.nd (rK 1 ["n","heavy","place","most","flow","total","reached","pushes","amount","at","sign"] ["tie"] (c_n 11 F3 rfl rfl) (d_v 1) (fun _ _ _ _ _=>g9) (fun _ _ _ _ _=>d_i)))
  (ao (s_a 5 gB.nd d_i)
  (ao (s_a 6 gB.nd (aL (De T) (Br.hm hr) rfl T.G1 T.C0.kp T.y9 (aa (pO 1 (Df T) (Br.hm hr) rfl T.G3 T.C1.kp T.y_ (aa (d_v 0) (aa (d_v 1) (aa (d_v 4) af)))) (aa d_i af))))
  (ao (IT 10000000000000000000000000000000000000000 PassesOwn.never (t_w (w_and (zQ (d_v 5) (d_v 3)) (i7 (Lu hr (d_v 2) (d_v 6)))))
  (ao (Ll 7 ["n","heavy","place","most","flow","total","reached","pushes","amount","at","sign"] ["step"] gB.nd (c_n 11 F4 rfl rfl) (i_S (Jc hr (d_v 6) (d_v 2))) (fun _ _ _ _ _=>g9) (fun _ _ _ _ _=>(cz (d_v 11) d_i)))
  (ao (s_a 8 gB.nd (Jo rfl rfl T.yX (aa (bK (rK 7 ["n","heavy","place","most","flow","total","reached","pushes","amount","at","sign"] ["push"] (c_n 11 F5 rfl rfl) (d_v 7) (fun _ _ _ _ _=>g9) (fun _ _ _ _ _=>(pO 1 (xU T) (Br.hm hr) rfl T.CO T.yZ.kp T.vF (aa (d_v 1) (aa (d_v 4) (aa (d_v 11) af)))))) (b_ (aa (rE (d_v 3) (d_v 5)) af))) af)))
  (ao (jU PassesOwn.never rfl (i_S (d_v 7)) (g_t rfl (bV 9 gB.nd (bV 10 gB.nd j4)))
  (aC (Gz 4 (d_v 9) (bK (cz (d_v 4) (d_v 9)) (iK (d_v 10) (d_v 8))))))
  (ao (s_a 5 gB.nd (bK (d_v 5) (d_v 8)))
  (aC (s_a 6 gB.nd (aL (De T) (Br.hm hr) rfl T.G1 T.C0.kp T.y9 (aa (pO 1 (Df T) (Br.hm hr) rfl T.G3 T.C1.kp T.y_ (aa (d_v 0) (aa (d_v 1) (aa (d_v 4) af)))) (aa d_i af))))))))))
  (aC (s_r (bD (aa (d_v 5) (aa (d_v 4) (aa (yt rfl T.oK (aa (Bp ["n","heavy","place","most","flow","total","reached","pushes","amount","at","sign"] ["other"] (c_n 11 F6 rfl rfl) (tu rfl T.cS (aa (d_v 0) af)) (fun _ _ _ _ _=>pe (Bw hr (d_v 11) (d_v 6))) (fun _ _ _ _ _=>(d_v 11))) af)) af)))))))))),fH (n:=4) (m:=7) rfl h⟩
theorem J3 :
  aW P' w K mg base CX0 7 l9 iy ["n","heavy"] (spD lW):=by
 refine T.sq.ok iB (fun vs H Q E h=>bh h) (fun cdv A outer s H vs Q E hr h=>?_)
 exact ⟨_,(ao (s_e (aL (vM T) (Br.hm hr) rfl T.nG T.jP.kp T.kW (aa (d_v 0) (aa (d_v 1) af))))
  (ao (fP (gM hr (d_v 0) d_i) (aC (s_r d_n)) dw)
  (ao (s_a 2 iB.nd (Jp rfl rfl T.oK rfl T.cS (aa d_i (aa (d_v 0) af))))
  (ao (s_a 3 iB.nd (aL (J2 T) (Br.hm hr) rfl T.Mg T.G6.kp T.C3 (aa (d_v 1) (aa (d_v 2) af))))
  (ao (jU PassesOwn.never rfl (Li rfl T.cS (aa d_i (aa (d_v 0) af))) (g_n 4 iB.nd)
  (ao (s_a 5 iB.nd (aL (Dg T) (Br.hm hr) rfl T.G4 T.C2.kp T.za (aa (d_v 0) (aa (d_v 1) (aa (d_v 4) (aa (d_v 3) af))))))
  (aC (fP (zQ (cz (d_v 5) d_i) (d_v 3)) (ao (s_a 3 iB.nd (cz (d_v 5) d_i))
  (aC (s_a 2 iB.nd (cz (d_v 5) d_i)))) dw))))
  (aC (s_r (bD (aa (d_v 3) (aa (d_v 2) (aa (Bp ["n","heavy","side","weight","%4","found"] ["place"] (c_n 6 F7 rfl rfl) (Li rfl T.cS (aa d_i (aa (d_v 0) af))) (fun _ _ _ _ _=>g9) (fun _ _ _ _ _=>(cz (aL (Dg T) (Br.hm hr) rfl T.G4 T.C2.kp T.za (aa (d_v 0) (aa (d_v 1) (aa (d_v 6) (aa (d_v 3) af))))) d_i))) af))))))))))),fH (n:=2) (m:=4) rfl h⟩
theorem iQ :
  aW P' w K mg base (CXE P' w ah) 7 l9 iy ["n","heavy"] (spX ah bP):=by
 exact okY (n:=2) (m:=4) T.sq iB rfl rfl (fun cdv A outer s H E hr=>(bq (y_x (cA (x_call (aU T) (Br.hm hr) rfl T.nG T.jP.kp T.kW pI (aa (d_v 0) (aa (d_v 1) af)))))))
theorem jQ :
  aW P' w K mg base (CXE P' w ak) 7 l9 iy ["n","heavy"] (spX ak bZ):=by
 exact okY (n:=2) (m:=4) T.sq iB rfl rfl (fun cdv A outer s H E hr=>(bq (y_x (cA (x_call (bg T) (Br.hm hr) rfl T.nG T.jP.kp T.kW pI (aa (d_v 0) (aa (d_v 1) af)))))))
theorem J4 :
  aW P' w K mg base CX0 1 qf kq ["script","k"] (spD vg):=by
 refine T.G7.ok JY (fun vs H Q E h=>bh h) (fun cdv A outer s H vs Q E hr h=>?_)
 exact ⟨_,(ao (fP (zQ (d_v 1) (jS rfl T.jX (aa (d_v 0) af))) (aC (s_r (cz (d_v 0) (d_v 1)))) dw)
  (aC (s_r d_i))),fH (n:=2) (m:=0) rfl h⟩
theorem J_ :
  aW P' w K mg base CX0 2 qg kr ["script","at"] (spD vh):=by
 refine T.G8.ok jo (fun vs H Q E h=>bh h) (fun cdv A outer s H vs Q E hr h=>?_)
 exact ⟨_,(ao (s_a 2 jo.nd (aL (J4 T) (Br.hm hr) rfl T.Mh T.G7.kp T.C4 (aa (d_v 0) (aa (d_v 1) af))))
  (ao (fP (M0 (d_v 2) (o8 d_i d_i)) (aC (s_r (b_ (aa (d_v 2) af)))) dw)
  (ao (s_a 3 jo.nd d_i)
  (ao (jU PassesOwn.never rfl (tu rfl T.cS (aa d_i af)) (g_n 4 jo.nd)
  (ao (s_a 5 jo.nd (nN (iK (bK (bK (bK (nN (d_v 2) d_i) (iK (iK d_i (d_v 4)) (d_v 4))) (iK d_i (d_v 1))) d_i) d_i) d_i))
  (ao (s_a 5 jo.nd (nN (iK (d_v 5) (d_v 5)) d_i))
  (ao (s_a 5 jo.nd (nN (iK (bK (d_v 5) (iK d_i (d_v 4))) d_i) d_i))
  (aC (s_a 3 jo.nd (bK (iK (d_v 3) d_i) (nN (Gy (d_v 5) d_i) d_i))))))))
  (aC (s_r (b_ (aa (d_v 3) af)))))))),fH (n:=2) (m:=4) rfl h⟩
theorem bR :
  aW P' w K mg base CX0 1 qh ku ["pool","many"] (spM bW):=by
 refine T.cW.ok Dc (fun vs H Q E h=>lJ h) (fun cdv A outer s H vs Q E hr h=>?_)
 exact ⟨_,(ao (s_a 2 Dc.nd (nN (cz (d_v 0) d_i) (d_v 1)))
  (ao (Gz 0 d_i (Gy (cz (d_v 0) d_i) (d_v 1)))
  (aC (s_r (d_v 2))))),yw (n:=2) (m:=1) rfl h⟩
theorem Ka :
  aW P' w K mg base CX0 2 qi kB ["pool","n","most"] (spM vj):=by
 refine T.G9.ok iC (fun vs H Q E h=>lJ h) (fun cdv A outer s H vs Q E hr h=>?_)
 exact ⟨_,(ao (s_a 3 iC.nd (aR (bR T) (Br.hm hr) rfl T.dF T.cW.kp T.cF (aa (d_v 0) (aa d_i af))))
  (ao (s_a 4 iC.nd (b_ af))
  (ao (fP (zQ (d_v 1) d_i) (aC (s_r (d_v 4))) dw)
  (ao (jU PassesOwn.never rfl (tu rfl T.cS (aa (aR (bR T) (Br.hm hr) rfl T.dF T.cW.kp T.cF (aa (d_v 0) (aa (bK (d_v 2) d_i) af))) af)) (g_n 5 iC.nd)
  (ao (s_a 6 iC.nd (aR (bR T) (Br.hm hr) rfl T.dF T.cW.kp T.cF (aa (d_v 0) (aa (d_v 1) af))))
  (ao (s_a 7 iC.nd (nN (bK (bK (d_v 6) d_i) (aR (bR T) (Br.hm hr) rfl T.dF T.cW.kp T.cF (aa (d_v 0) (aa (rE (d_v 1) d_i) af)))) (d_v 1)))
  (ao (fP (t_w (w_and (gM hr (d_v 3) d_i) (i7 (gM hr (aR (bR T) (Br.hm hr) rfl T.dF T.cW.kp T.cF (aa (d_v 0) (aa d_i af))) d_i)))) (aC (s_a 7 iC.nd (nN (bK (d_v 6) d_i) (d_v 1)))) dw)
  (ao (s_a 8 iC.nd (bK d_i (aR (bR T) (Br.hm hr) rfl T.dF T.cW.kp T.cF (aa (d_v 0) (aa (cz (b_ (aa d_i (aa d_i (aa d_i (aa d_i af))))) (d_v 3)) af)))))
  (ao (fP (gM hr (d_v 3) d_i) (aC (s_a 8 iC.nd (rE (iK (d_v 8) (o8 d_i d_i)) (aR (bR T) (Br.hm hr) rfl T.dF T.cW.kp T.cF (aa (d_v 0) (aa d_i af)))))) dw)
  (aC (Bk 4 (bD (aa (wL rfl rfl T.yX (aa (d_v 6) (aa (d_v 7) af))) (aa (Bj rfl rfl T.CM (aa (d_v 6) (aa (d_v 7) af))) (aa (d_v 8) af))))))))))))
  (aC (s_r (d_v 4))))))),yw (n:=3) (m:=6) rfl h⟩
theorem xV :
  aW P' w K mg base CX0 1 qj kC ["caught","kind"] (spD (rX ah ak aq)):=by
 refine T.zb.ok qK (fun vs H Q E h=>bh h) (fun cdv A outer s H vs Q E hr h=>?_)
 exact ⟨_,(ao (s_a 2 qK.nd (b_ (aa (bf (bE T.aQ T.jm rfl T.kK rfl T.ai (d_v 0)) (bf (bE T.bA T.kU rfl T.kK rfl T.ai (d_v 0)) (bf (bE T.bB T.kM rfl T.kK rfl T.ai (d_v 0)) iM))) (aa (bf (bE T.aQ T.kQ rfl T.qE rfl T.ai (d_v 0)) (bf (bE T.bA T.nE rfl T.qE rfl T.ai (d_v 0)) (bf (bE T.bB T.ny rfl T.qE rfl T.ai (d_v 0)) iM))) (aa (bf (bE T.aQ T.jl rfl T.kJ rfl T.ai (d_v 0)) (bf (bE T.bA T.kT rfl T.kJ rfl T.ai (d_v 0)) (bf (bE T.bB T.kL rfl T.kJ rfl T.ai (d_v 0)) iM))) af)))))
  (ao (s_a 2 qK.nd (bK (d_v 2) (b_ (aa (bf (bE T.aQ T.kO rfl T.qC rfl T.ai (d_v 0)) (bf (bE T.bA T.nC rfl T.qC rfl T.ai (d_v 0)) (bf (bE T.bB T.nu rfl T.qC rfl T.ai (d_v 0)) iM))) (aa (bf (bE T.aQ T.mw rfl T.t9 rfl T.ai (d_v 0)) (bf (bE T.bA T.oA rfl T.t9 rfl T.ai (d_v 0)) (bf (bE T.bB T.oq rfl T.t9 rfl T.ai (d_v 0)) iM))) (aa (bf (bE T.aQ T.kR rfl T.qF rfl T.ai (d_v 0)) (bf (bE T.bA T.nF rfl T.qF rfl T.ai (d_v 0)) (bf (bE T.bB T.nA rfl T.qF rfl T.ai (d_v 0)) iM))) af))))))
  (ao (s_a 2 qK.nd (bK (d_v 2) (b_ (aa (bf (bE T.aQ T.kP rfl T.qD rfl T.ai (d_v 0)) (bf (bE T.bA T.nD rfl T.qD rfl T.ai (d_v 0)) (bf (bE T.bB T.nv rfl T.qD rfl T.ai (d_v 0)) iM))) (aa (bf (bE T.aQ T.jO rfl T.nq rfl T.ai (d_v 0)) (bf (bE T.bA T.mC rfl T.nq rfl T.ai (d_v 0)) (bf (bE T.bB T.mj rfl T.nq rfl T.ai (d_v 0)) iM))) (aa (bf (bE T.aQ T.mz rfl T.t_ rfl T.ai (d_v 0)) (bf (bE T.bA T.oB rfl T.t_ rfl T.ai (d_v 0)) (bf (bE T.bB T.ou rfl T.t_ rfl T.ai (d_v 0)) iM))) af))))))
  (ao (s_a 2 qK.nd (bK (d_v 2) (b_ (aa (bf (bE T.aQ T.kN rfl T.qB rfl T.ai (d_v 0)) (bf (bE T.bA T.nB rfl T.qB rfl T.ai (d_v 0)) (bf (bE T.bB T.nt rfl T.qB rfl T.ai (d_v 0)) iM))) (aa (bf (bE T.aQ T.mq rfl T.t8 rfl T.ai (d_v 0)) (bf (bE T.bA T.oz rfl T.t8 rfl T.ai (d_v 0)) (bf (bE T.bB T.oj rfl T.t8 rfl T.ai (d_v 0)) iM))) af)))))
  (aC (s_r (o9 (Le hr (d_v 2) (Bp ["caught","kind","marks"] ["k"] (c_n 3 F8 rfl rfl) (tu rfl T.cS (aa d_i af)) (fun _ _ _ _ _=>g9) (fun _ _ _ _ _=>(Le hr (d_v 3) (d_v 1))))) (uS (bf (wU T.aQ T.iz rfl rfl T.iA rfl T.ai (d_v 0)) (bf (wU T.bA T.jk rfl rfl T.iA rfl T.ai (d_v 0)) (bf (wU T.bB T.jj rfl rfl T.iA rfl T.ai (d_v 0)) iM))))))))))),fH (n:=2) (m:=1) rfl h⟩
theorem Kc :
  aW P' w K mg base CX0 2 qk kE ["pool","n"] (spM rY):=by
 refine T.G_.ok nI (fun vs H Q E h=>lJ h) (fun cdv A outer s H vs Q E hr h=>?_)
 exact ⟨_,(ao (s_a 2 nI.nd (aR (bR T) (Br.hm hr) rfl T.dF T.cW.kp T.cF (aa (d_v 0) (aa (d_v 1) af))))
  (ao (s_a 3 nI.nd (wL rfl rfl T.yX (aa (bK (d_v 2) d_i) (aa (d_v 1) af))))
  (@ao _ _ _ _ _ (@s_a _ _ _ _ 4 _ _ nI.nd (@b_ _ _ _ _ (@aa _ _ _ _ _ (bD (aa (d_v 3) (aa (d_v 2) (aa d_i af)))) (@aa _ _ _ _ _ (bD (aa (d_v 2) (aa (d_v 2) (aa d_i af)))) (@aa _ _ _ _ _ (bD (aa (d_v 2) (aa (d_v 1) (aa d_i af)))) (@aa _ _ _ _ _ (bD (aa (rF d_i) (aa (d_v 2) (aa d_i af)))) (@aa _ _ _ _ _ (bD (aa (d_v 2) (aa (bK (d_v 1) (aR (bR T) (Br.hm hr) rfl T.dF T.cW.kp T.cF (aa (d_v 0) (aa (o8 d_i d_i) af)))) (aa d_i af)))) (@aa _ _ _ _ _ (bD (aa (d_v 2) (aa (d_v 3) (aa d_i af)))) (@aa _ _ _ _ _ (bD (aa (d_v 2) (aa (d_v 3) (aa (rF d_i) af)))) af rfl) rfl) rfl) rfl) rfl) rfl) rfl)) rfl (by first | exact Or.inl rfl | exact Or.inr rfl) rfl (by first | exact Or.inl rfl | exact Or.inr rfl))
  (ao (s_a 4 nI.nd (bK (d_v 4) (b_ (@aa _ _ _ _ _ (bD (aa (d_v 2) (aa (d_v 3) (aa (bK (o8 d_i d_i) d_i) af)))) (@aa _ _ _ _ _ (bD (aa (d_v 2) (aa (d_v 3) (aa d_b af)))) (@aa _ _ _ _ _ (bD (aa d_b (aa d_i (aa d_i af)))) (@aa _ _ _ _ _ (bD (aa (d_v 2) (aa (d_v 3) (aa d_s af)))) (@aa _ _ _ _ _ (bD (aa (d_v 2) (aa (d_v 3) af))) (@aa _ _ _ _ _ (bD (aa (d_v 2) (aa (d_v 3) (aa d_i (aa d_i af))))) (@aa _ _ _ _ _ (b_ (aa (d_v 2) (aa (d_v 3) (aa d_i af)))) af rfl) rfl) rfl) rfl) rfl) rfl) rfl))))
  (ao (s_a 4 nI.nd (bK (d_v 4) (b_ (@aa _ _ _ _ _ d_n (@aa _ _ _ _ _ (d_v 2) (@aa _ _ _ _ _ (bD af) (@aa _ _ _ _ _ (bD (aa d_s (aa (d_v 3) (aa d_i af)))) (@aa _ _ _ _ _ (bD (aa (d_v 2) (aa d_n (aa d_i af)))) (@aa _ _ _ _ _ (bD (aa (d_v 2) (aa (d_v 3) (aa d_n af)))) (@aa _ _ _ _ _ (bD (aa d_b (aa (d_v 3) (aa d_i af)))) (@aa _ _ _ _ _ (bD (aa d_i (aa d_b (aa d_i af)))) af rfl) rfl) rfl) rfl) rfl) rfl) rfl) rfl))))
  (aC (s_r (cz (d_v 4) (aR (bR T) (Br.hm hr) rfl T.dF T.cW.kp T.cF (aa (d_v 0) (aa (jS rfl T.jX (aa (d_v 4) af)) af))))))))))),yw (n:=2) (m:=3) rfl h⟩
theorem Kd :
  aW P' w K mg base CX0 3 ql kF ["pool","n","heavy"] (spM vm):=by
 refine T.Hg.ok xS (fun vs H Q E h=>lJ h) (fun cdv A outer s H vs Q E hr h=>?_)
 exact ⟨_,(ao (s_a 3 xS.nd (aR (bR T) (Br.hm hr) rfl T.dF T.cW.kp T.cF (aa (d_v 0) (aa d_i af))))
  (ao (s_a 4 xS.nd (aR (bR T) (Br.hm hr) rfl T.dF T.cW.kp T.cF (aa (d_v 0) (aa (bK (jS rfl T.jX (aa (d_v 2) af)) d_i) af))))
  (ao (fP (gM hr (d_v 3) d_i) (aC (s_r (cz (b_ (@aa _ _ _ _ _ (yt rfl T.oK (aa (d_v 2) af)) (@aa _ _ _ _ _ d_n (@aa _ _ _ _ _ d_i (@aa _ _ _ _ _ Ls (@aa _ _ _ _ _ d_s (@aa _ _ _ _ _ d_s af rfl) rfl) rfl) rfl) rfl) rfl)) (aR (bR T) (Br.hm hr) rfl T.dF T.cW.kp T.cF (aa (d_v 0) (aa d_i af)))))) dw)
  (ao (fP (t_w (w_and (gM hr (d_v 3) d_i) (i7 (zR (d_v 1) d_i)))) (aC (s_r (iK (b_ (aa (bD (aa d_i (aa d_i (aa d_i af)))) af)) (bK d_i (aR (bR T) (Br.hm hr) rfl T.dF T.cW.kp T.cF (aa (d_v 0) (aa d_i af))))))) dw)
  (aC (s_r (bK (bK (IU (d_v 2) o_n (o_s (d_v 4))) (b_ (aa (aR (Kc T) (Br.hm hr) rfl T.Mk T.G_.kp T.C5 (aa (d_v 0) (aa (d_v 1) af))) af))) (IU (d_v 2) (o_s (d_v 4)) o_n)))))))),yw (n:=3) (m:=2) rfl h⟩
theorem Ke :
  aW P' w K mg base CX0 8 qm kG ["which","n","heavy","row"] (spD (rZ ah ak aq)):=by
 refine T.Hh.ok fL (fun vs H Q E h=>bh h) (fun cdv A outer s H vs Q E hr h=>?_)
 exact ⟨_,(ao (s_a 4 fL.nd d_n)
  (ao (s_a 5 fL.nd d_n)
  (ao (Ab (BZ (fun pn xe=>(aC (fP (gM hr (d_v 0) d_i) (aC (s_a 5 fL.nd (aL (vM T) (Br.hm hr) rfl T.nG T.jP.kp T.kW (aa (d_v 1) (aa (d_v 2) af))))) (aC (fP (gM hr (d_v 0) d_i) (aC (s_e (EY (Hq T) (Br.hm hr) rfl T.vE T.mD.kp T.sr (aa (d_v 1) (aa (d_v 2) af))))) (aC (fP (gM hr (d_v 0) d_i) (aC (s_e (aL (J0 T) (Br.hm hr) rfl T.CN T.sj.kp T.vG (aa (d_v 1) (aa (d_v 2) (aa (d_v 3) af)))))) (aC (s_e (aL (J3 T) (Br.hm hr) rfl T.CQ T.sq.kp T.vH (aa (d_v 1) (aa (d_v 2) af))))))))))))) (Ab (m8 (ie:=6) rfl rfl rfl fL.nd rfl rfl rfl T.fk T.fF (fun pn xe E hp=>(bq (n9 (gM hr (d_v 0) d_i) (bq (y_x (x_a 5 fL.nd (x_call (aU T) (Br.hm hr) rfl T.nG T.jP.kp T.kW hp (aa (d_v 1) (aa (d_v 2) af)))))) (bq (n9 (gM hr (d_v 0) d_i) (bq (y_x (cA (tK (gh T) (Br.hm hr) rfl T.vE T.mD.kp T.sr hp (aa (d_v 1) (aa (d_v 2) af)))))) (bq (n9 (gM hr (d_v 0) d_i) (bq (y_x (cA (x_call (kX T) (Br.hm hr) rfl T.CN T.sj.kp T.vG hp (aa (d_v 1) (aa (d_v 2) (aa (d_v 3) af))))))) (bq (y_x (cA (x_call (iQ T) (Br.hm hr) rfl T.CQ T.sq.kp T.vH hp (aa (d_v 1) (aa (d_v 2) af))))))))))))) (fun A' xe=>(aC (s_a 4 fL.nd (d_v 6))))) (Ab (m8 (ie:=6) rfl rfl rfl fL.nd rfl rfl rfl T.fk T.gg (fun pn xe E hp=>(bq (n9 (gM hr (d_v 0) d_i) (bq (y_x (x_a 5 fL.nd (x_call (bg T) (Br.hm hr) rfl T.nG T.jP.kp T.kW hp (aa (d_v 1) (aa (d_v 2) af)))))) (bq (n9 (gM hr (d_v 0) d_i) (bq (y_x (cA (tK (gU T) (Br.hm hr) rfl T.vE T.mD.kp T.sr hp (aa (d_v 1) (aa (d_v 2) af)))))) (bq (n9 (gM hr (d_v 0) d_i) (bq (y_x (cA (x_call (nJ T) (Br.hm hr) rfl T.CN T.sj.kp T.vG hp (aa (d_v 1) (aa (d_v 2) (aa (d_v 3) af))))))) (bq (y_x (cA (x_call (jQ T) (Br.hm hr) rfl T.CQ T.sq.kp T.vH hp (aa (d_v 1) (aa (d_v 2) af))))))))))))) (fun A' xe=>(aC (s_a 4 fL.nd (d_v 6))))) (m8 (ie:=6) rfl rfl rfl fL.nd rfl rfl rfl T.fk T.gf (fun pn xe E hp=>(bq (n9 (gM hr (d_v 0) d_i) Ac (bq (n9 (gM hr (d_v 0) d_i) (bq (y_x (cA (tK (gW T) (Br.hm hr) rfl T.vE T.mD.kp T.sr hp (aa (d_v 1) (aa (d_v 2) af)))))) Ac))))) (fun A' xe=>(aC (s_a 4 fL.nd (d_v 6))))))))
  (aC (s_r (bD (aa (d_v 4) (aa (d_v 5) af)))))))),fH (n:=4) (m:=3) rfl h⟩
theorem xW :
  aW P' w K mg base CX0 8 qo kH ["n","heavy","first"] (spD (jW ah ak aq)):=by
 refine T.zc.ok jq (fun vs H Q E h=>bh h) (fun cdv A outer s H vs Q E hr h=>?_)
 exact ⟨_,(ao (s_a 3 jq.nd d_n)
  (ao (Ab (BZ (fun pn xe=>(aC (s_e (aL (Hq T) (Br.hm hr) rfl T.vE T.mD.kp T.An (aa (d_v 0) (aa (d_v 1) (aa (d_v 2) af)))))))) (Ab (m8 (ie:=4) rfl rfl rfl jq.nd rfl rfl rfl T.fk T.fF (fun pn xe E hp=>(bq (y_x (cA (x_call (gh T) (Br.hm hr) rfl T.vE T.mD.kp T.An hp (aa (d_v 0) (aa (d_v 1) (aa (d_v 2) af)))))))) (fun A' xe=>(aC (s_a 3 jq.nd (d_v 4))))) (Ab (m8 (ie:=4) rfl rfl rfl jq.nd rfl rfl rfl T.fk T.gg (fun pn xe E hp=>(bq (y_x (cA (x_call (gU T) (Br.hm hr) rfl T.vE T.mD.kp T.An hp (aa (d_v 0) (aa (d_v 1) (aa (d_v 2) af)))))))) (fun A' xe=>(aC (s_a 3 jq.nd (d_v 4))))) (m8 (ie:=4) rfl rfl rfl jq.nd rfl rfl rfl T.fk T.gf (fun pn xe E hp=>(bq (y_x (cA (x_call (gW T) (Br.hm hr) rfl T.vE T.mD.kp T.An hp (aa (d_v 0) (aa (d_v 1) (aa (d_v 2) af)))))))) (fun A' xe=>(aC (s_a 3 jq.nd (d_v 4))))))))
  (aC (s_r (d_v 3))))),fH (n:=3) (m:=2) rfl h⟩
theorem uf :
  aW P' w K mg base CX0 9 qp kI ["n","heavy","row","kind"] (spD (lX ah ak aq)):=by
 refine T.vK.ok ue (fun vs H Q E h=>bh h) (fun cdv A outer s H vs Q E hr h=>?_)
 exact ⟨_,(ao (jU PassesOwn.never rfl (tu rfl T.cS (aa d_i af)) (g_n 4 ue.nd)
  (ao (s_u rfl (bV 5 ue.nd (bV 6 ue.nd j4)) (aL (Ke T) (Br.hm hr) rfl T.Mm T.Hh.kp T.C6 (aa (d_v 4) (aa (d_v 0) (aa (d_v 1) (aa (d_v 2) af))))))
  (aC (fP (t_w (w_or (wV (d_v 6) d_n) (w_or (t_w (w_and (zQ (d_v 3) d_i) (i7 (fC (fD (aL (xV T) (Br.hm hr) rfl T.CS T.zb.kp T.vJ (aa (d_v 5) (aa (d_v 3) af)))))))) (jT (t_w (w_and (gM hr (d_v 3) d_i) (i7 (wV (d_v 5) d_n)))))))) (aC (s_r d_b)) dw))))
  (aC (s_r d_b))),fH (n:=4) (m:=3) rfl h⟩
theorem Kf :
  aW P' w K mg base CX0 10 qq nk ["script"] (spD (pT ah ak aq)):=by
 refine T.Mr.ok fM (fun vs H Q E h=>bh h) (fun cdv A outer s H vs Q E hr h=>?_)
 exact ⟨_,(ao (jU PassesOwn.never rfl (tu rfl T.cS (aa (Bj rfl rfl T.CM (aa d_i (aa (wL rfl rfl T.yX (aa d_i (aa (jS rfl T.jX (aa (d_v 0) af)) af))) af))) af)) (g_n 1 fM.nd)
  (ao (s_a 2 fM.nd (aL (J_ T) (Br.hm hr) rfl T.Mi T.G8.kp T.C7 (aa (d_v 0) (aa (d_v 1) af))))
  (ao (s_a 3 fM.nd (bK d_i (aR (bR T) (Br.hm hr) rfl T.dF T.cW.kp T.cF (aa (d_v 2) (aa d_i af)))))
  (ao (s_a 4 fM.nd (aR (Ka T) (Br.hm hr) rfl T.Mj T.G9.kp T.C8 (aa (d_v 2) (aa (d_v 3) (aa d_i af)))))
  (ao (s_a 5 fM.nd (I0 rfl rfl T.qH rfl T.cS (aa (d_v 3) af)))
  (ao (s_a 6 fM.nd (IS rfl T.qH (aa (d_v 4) af)))
  (@ao _ _ _ _ _ (@s_a _ _ _ _ 7 _ _ fM.nd (@b_ _ _ _ _ (@aa _ _ _ _ _ d_i (@aa _ _ _ _ _ d_i (@aa _ _ _ _ _ (rE (rF d_i) (aR (bR T) (Br.hm hr) rfl T.dF T.cW.kp T.cF (aa (d_v 2) (aa d_i af)))) (@aa _ _ _ _ _ (bK d_i (aR (bR T) (Br.hm hr) rfl T.dF T.cW.kp T.cF (aa (d_v 2) (aa (o8 d_i d_i) af)))) (@aa _ _ _ _ _ d_b (@aa _ _ _ _ _ d_b (@aa _ _ _ _ _ d_n (@aa _ _ _ _ _ d_s (@aa _ _ _ _ _ (b_ (aa (d_v 3) af)) (@aa _ _ _ _ _ (bD (aa (d_v 3) af)) af rfl) rfl) rfl) rfl) rfl) rfl) rfl) rfl) rfl) rfl)) rfl (by first | exact Or.inl rfl | exact Or.inr rfl) rfl (by first | exact Or.inl rfl | exact Or.inr rfl))
  (ao (s_a 8 fM.nd (cz (d_v 7) (aR (bR T) (Br.hm hr) rfl T.dF T.cW.kp T.cF (aa (d_v 2) (aa d_i af)))))
  (ao (s_a 9 fM.nd (aR (Kd T) (Br.hm hr) rfl T.Ml T.Hg.kp T.C9 (aa (d_v 2) (aa (d_v 3) (aa (d_v 4) af)))))
  (ao (fP (t_w (w_or (fC (fD (aL (uf T) (Br.hm hr) rfl T.yY T.vK.kp T.su (aa (d_v 3) (aa (d_v 6) (aa (d_v 5) (aa d_i af))))))) (jT (fC (fD (aL (uf T) (Br.hm hr) rfl T.yY T.vK.kp T.su (aa (d_v 8) (aa (d_v 6) (aa (d_v 5) (aa d_i af)))))))))) (aC (s_r d_b)) dw)
  (ao (fP (t_w (w_or (fC (fD (aL (uf T) (Br.hm hr) rfl T.yY T.vK.kp T.su (aa (d_v 8) (aa (d_v 9) (aa (d_v 5) (aa d_i af))))))) (jT (fC (fD (aL (uf T) (Br.hm hr) rfl T.yY T.vK.kp T.su (aa (d_v 3) (aa (d_v 9) (aa (d_v 5) (aa d_i af)))))))))) (aC (s_r d_b)) dw)
  (@ao _ _ _ _ _ (@s_a _ _ _ _ 7 _ _ fM.nd (@b_ _ _ _ _ (@aa _ _ _ _ _ (d_v 3) (@aa _ _ _ _ _ (rF d_i) (@aa _ _ _ _ _ (bK (d_v 3) (aR (bR T) (Br.hm hr) rfl T.dF T.cW.kp T.cF (aa (d_v 2) (aa (o8 d_i d_i) af)))) (@aa _ _ _ _ _ d_b (@aa _ _ _ _ _ d_b (@aa _ _ _ _ _ d_n (@aa _ _ _ _ _ d_s (@aa _ _ _ _ _ (b_ (aa d_i af)) (@aa _ _ _ _ _ (bD (aa d_i af)) af rfl) rfl) rfl) rfl) rfl) rfl) rfl) rfl) rfl)) rfl (by first | exact Or.inl rfl | exact Or.inr rfl) rfl (by first | exact Or.inl rfl | exact Or.inr rfl))
  (ao (s_a 8 fM.nd (cz (d_v 7) (aR (bR T) (Br.hm hr) rfl T.dF T.cW.kp T.cF (aa (d_v 2) (aa d_i af)))))
  (ao (fP (t_w (w_or (fC (fD (aL (xV T) (Br.hm hr) rfl T.CS T.zb.kp T.vJ (aa (aL (xW T) (Br.hm hr) rfl T.CT T.zc.kp T.vL (aa (d_v 3) (aa (d_v 6) (aa (d_v 8) af)))) (aa d_i af))))) (jT (fC (fD (aL (xV T) (Br.hm hr) rfl T.CS T.zb.kp T.vJ (aa (aL (xW T) (Br.hm hr) rfl T.CT T.zc.kp T.vL (aa (d_v 3) (aa (d_v 9) (aa (d_v 8) af)))) (aa d_i af)))))))) (aC (s_r d_b)) dw)
  (aC (fP (t_w (w_or (wV (aL (xW T) (Br.hm hr) rfl T.CT T.zc.kp T.vL (aa (d_v 3) (aa (d_v 6) (aa (aR (bR T) (Br.hm hr) rfl T.dF T.cW.kp T.cF (aa (d_v 2) (aa (d_v 3) af))) af)))) d_n) (jT (IQ hr (d_v 6) (d_v 4))))) (aC (s_r d_b)) dw))))))))))))))))
  (aC (s_r d_b))),fH (n:=1) (m:=9) rfl h⟩
end
theorem all_mk {l:PySem.W.OpenLaw} {w:World} {K:PySem.W.Frag} {h:Heap} {mg:Str→Option Value} {fa xE xF xG xH xJ xK vC t7 xM oi p7 l8 p8 p_ qc qd qe l9 qf qg qh qi qj qk ql qm qo qp qq eL cC bI eN aq bX ah eO cD ak aT cE:Addr} {qt qu qv qw qx qy nW l_ qz kc iw kg kh ki kj ko iy kq kr ku kB kC kE kF kG kH kI nk:FuncData} (X:K.In h) (G:h.Ns mainGlobals mg) (hfa:mg "law" = some (.ref fa))
  {MC zf:Option Addr} {MD:Array (Option Value)} {ME zg zh zj vN zk:Value} {vO:Addr} {qA:Tok} {Dh:Nat} {Ao:Value} {Aq:Option Addr} {Ar:Array (Option Value)}
  {fq:Tok}
  (Di:cX K "is_whole" (top 14) xE qt)
  (Dj:cX K "is_within" (top 15) xF qu)
  (Dl:cX K "is_places" (top 16) xG qv)
  (Dq:cX K "is_place" (top 17) xH qw)
  (Dr:cX K "is_pair" (top 19) xJ qx)
  (Dt:cX K "is_heavy_tie" (top 18) xK qy)
  (Du:cX K "look_at_places" (top 20) vC nW)
  (Dv:cX K "look_at_heavy" (top 23) t7 l_)
  (Dw:cX K "weight_to" (top 25) xM qz)
  (Kg:PySem.W.nsIn K mainGlobals "order" = some (some (.ref oi))) (Kh:K.lookup oi=some ⟨ME,MC,.func (PySem.W.fnOf "order" "order" (aZ (top 24)) (aO (top 24)) (aj (top 24)) (.ref vO) zg zh zj zf vN zk),MD⟩) (Kl:PySem.W.codeIn K vN "order" = true) (Km:PySem.W.keepIn K (.ref oi)=true)
  (F9:K.lookup vO=some ⟨Ao,Aq,.seq #[.int 0 qA] Dh,Ar⟩)
  (vP:cX K "ties_ahead" (top 27) p7 kc)
  (vQ:cX K "bands" (top 26) l8 iw)
  (vR:cX K "shortest_ways" (top 29) p8 kg)
  (vS:cX K "side_weight" (top 31) p_ kh)
  (vU:cX K "room" (top 35) qc ki)
  (vV:cX K "open_steps" (top 34) qd kj)
  (vW:cX K "flow_to" (top 33) qe ko)
  (vX:cX K "lightest" (top 32) l9 iy)
  (vY:cX K "_law_cell_at" (top 37) qf kq)
  (vZ:cX K "_law_pool" (top 38) qg kr)
  (v5:cX K "_law_take" (top 39) qh ku)
  (v7:cX K "_law_heavy" (top 40) qi kB)
  (v8:cX K "_law_alone" (top 41) qj kC)
  (v_:cX K "_law_odd_tie" (top 42) qk kE)
  (wc:cX K "_law_odd_heavy" (top 43) ql kF)
  (we:cX K "_law_told" (top 44) qm kG)
  (wg:cX K "_law_first_told" (top 45) qo kH)
  (wj:cX K "_law_all_told" (top 46) qp kI)
  (sy:cX K "law" (top 47) qq nk)
  (iD:PySem.W.nsIn K mainGlobals "ValueError" = some none)
  (Dy:PySem.W.nsIn K mainGlobals "all" = some none)
  (xX:PySem.W.nsIn K mainGlobals "bool" = some none)
  (jr:PySem.W.nsIn K mainGlobals "enumerate" = some none)
  (Dz:PySem.W.nsIn K mainGlobals "int" = some none)
  (iE:PySem.W.nsIn K mainGlobals "isinstance" = some none)
  (DB:PySem.W.nsIn K mainGlobals "len" = some none)
  (xY:PySem.W.nsIn K mainGlobals "list" = some none)
  (DC:PySem.W.nsIn K mainGlobals "max" = some none)
  (DG:PySem.W.nsIn K mainGlobals "min" = some none)
  (ug:PySem.W.nsIn K mainGlobals "range" = some none)
  (DH:PySem.W.nsIn K mainGlobals "sum" = some none)
  (uh:PySem.W.nsIn K mainGlobals "tuple" = some none)
  (iF:PySem.W.nsIn K mainGlobals "MOST_HEAVY" = some (some (.int 40 fq)))
  (uo:PySem.W.nsIn K mainGlobals "Clash" = some (some (.ref eL)))
  (qL:PySem.W.nsIn K mainGlobals "NoDeed" = some (some (.ref cC)))
  (kY:PySem.W.nsIn K mainGlobals "NoLayers" = some (some (.ref bI)))
  (uq:PySem.W.nsIn K mainGlobals "NoNet" = some (some (.ref eN)))
  (mE:PySem.W.nsIn K mainGlobals "NoPair" = some (some (.ref aq)))
  (nK:PySem.W.nsIn K mainGlobals "NoPaper" = some (some (.ref bX)))
  (iG:PySem.W.nsIn K mainGlobals "NoPlaces" = some (some (.ref ah)))
  (ur:PySem.W.nsIn K mainGlobals "NoRow" = some (some (.ref eO)))
  (qM:PySem.W.nsIn K mainGlobals "NoText" = some (some (.ref cD)))
  (mF:PySem.W.nsIn K mainGlobals "NoTies" = some (some (.ref ak)))
  (kZ:PySem.W.nsIn K mainGlobals "PlyError" = some (some (.ref aT)))
  (qN:PySem.W.nsIn K mainGlobals "Unlike" = some (some (.ref cE)))
  (gi:PySem.W.excIn K ah bmV "ValueError.__new__" = true)
  (gC:PySem.W.findIn K (.ref ah) "__getattribute__" = some (some (.builtin "BaseException.__getattribute__")))
  (gD:PySem.W.findIn K (.ref ah) "__getattr__" = some none)
  (gE:PySem.W.findIn K (.ref ah) "__class__" = some (some (.builtin "object.__class__")))
  (gF:PySem.W.mroIn K ah (.type "BaseException")=some true)
  (gG:PySem.W.mroIn K ah (.type "object")=some true)
  (gH:(PySem.W.clsIn K ah).isSome=true)
  (iH:PySem.W.excIn K ak bmV "ValueError.__new__" = true)
  (jt:PySem.W.findIn K (.ref ak) "__getattribute__" = some (some (.builtin "BaseException.__getattribute__")))
  (ju:PySem.W.findIn K (.ref ak) "__getattr__" = some none)
  (jv:PySem.W.findIn K (.ref ak) "__class__" = some (some (.builtin "object.__class__")))
  (jx:PySem.W.mroIn K ak (.type "BaseException")=some true)
  (jy:PySem.W.mroIn K ak (.type "object")=some true)
  (jz:(PySem.W.clsIn K ak).isSome=true)
  (iI:PySem.W.excIn K aq bmV "ValueError.__new__" = true)
  (jA:PySem.W.findIn K (.ref aq) "__getattribute__" = some (some (.builtin "BaseException.__getattribute__")))
  (jB:PySem.W.findIn K (.ref aq) "__getattr__" = some none)
  (jC:PySem.W.findIn K (.ref aq) "__class__" = some (some (.builtin "object.__class__")))
  (jD:PySem.W.mroIn K aq (.type "BaseException")=some true)
  (jE:PySem.W.mroIn K aq (.type "object")=some true)
  (jF:(PySem.W.clsIn K aq).isSome=true)
  (b4:PySem.W.kitOne K (.ref aq) (.type "ValueError")=some true)
  (bS:PySem.W.kitOne K (.ref ah) (.type "ValueError")=some true)
  (b5:PySem.W.kitOne K (.ref ak) (.type "ValueError")=some true)
  (dG:PySem.W.typeIn K (.ref aT)=some (.type "type"))
  (dH:(PySem.W.clsIn K aT).isSome=true)
  (dI:PySem.W.mroIn K aT (.type "BaseException")=some true)
  (cG:PySem.W.mroIn K aq (.ref aT)=some true)
  (b7:PySem.W.mroIn K ah (.ref aT)=some true)
  (cH:PySem.W.mroIn K ak (.ref aT)=some true)
  (eT:PySem.W.kitOne K (.ref aq) (.ref eL)=some false)
  (dN:PySem.W.kitOne K (.ref aq) (.ref cC)=some false)
  (cI:PySem.W.kitOne K (.ref aq) (.ref bI)=some false)
  (eU:PySem.W.kitOne K (.ref aq) (.ref eN)=some false)
  (dO:PySem.W.kitOne K (.ref aq) (.ref aq)=some true)
  (cY:PySem.W.kitOne K (.ref aq) (.ref bX)=some false)
  (cJ:PySem.W.kitOne K (.ref aq) (.ref ah)=some false)
  (eW:PySem.W.kitOne K (.ref aq) (.ref eO)=some false)
  (dP:PySem.W.kitOne K (.ref aq) (.ref cD)=some false)
  (dQ:PySem.W.kitOne K (.ref aq) (.ref ak)=some false)
  (dR:PySem.W.kitOne K (.ref aq) (.ref cE)=some false)
  (cZ:PySem.W.kitOne K (.ref ah) (.ref eL)=some false)
  (cK:PySem.W.kitOne K (.ref ah) (.ref cC)=some false)
  (b8:PySem.W.kitOne K (.ref ah) (.ref bI)=some false)
  (c_:PySem.W.kitOne K (.ref ah) (.ref eN)=some false)
  (cL:PySem.W.kitOne K (.ref ah) (.ref aq)=some false)
  (ck:PySem.W.kitOne K (.ref ah) (.ref bX)=some false)
  (b9:PySem.W.kitOne K (.ref ah) (.ref ah)=some true)
  (dc:PySem.W.kitOne K (.ref ah) (.ref eO)=some false)
  (cM:PySem.W.kitOne K (.ref ah) (.ref cD)=some false)
  (cN:PySem.W.kitOne K (.ref ah) (.ref ak)=some false)
  (cO:PySem.W.kitOne K (.ref ah) (.ref cE)=some false)
  (eX:PySem.W.kitOne K (.ref ak) (.ref eL)=some false)
  (dS:PySem.W.kitOne K (.ref ak) (.ref cC)=some false)
  (cP:PySem.W.kitOne K (.ref ak) (.ref bI)=some false)
  (eY:PySem.W.kitOne K (.ref ak) (.ref eN)=some false)
  (dU:PySem.W.kitOne K (.ref ak) (.ref aq)=some false)
  (dg:PySem.W.kitOne K (.ref ak) (.ref bX)=some false)
  (cQ:PySem.W.kitOne K (.ref ak) (.ref ah)=some false)
  (eZ:PySem.W.kitOne K (.ref ak) (.ref eO)=some false)
  (dW:PySem.W.kitOne K (.ref ak) (.ref cD)=some false)
  (dX:PySem.W.kitOne K (.ref ak) (.ref ak)=some true)
  (dY:PySem.W.kitOne K (.ref ak) (.ref cE)=some false) :
  ∃ fd:FuncData,(∀ (s:Shared) (v:Value),BindsTo s fd ⟨[v],[]⟩ [("script",v)])∧∀ base:Heap,K.In base→base.Ns mainGlobals mg→aW l.prog w K mg base CX0 10 fa fd ["script"] (spD (pT ah ak aq)):=by
 have e:=hfa.symm.trans (sy.m X G)
 cases e
 have JM:=Di.F.wW (ps:=["thing"]) rfl fun _ _ _ _ _ _ _=>rfl
 have CU:=Dj.F.gx (ps:=["thing","low","high"]) rfl fun _ _ _ _ _ _ _ _ _=>rfl
 have FY:=Dl.F.wW (ps:=["thing"]) rfl fun _ _ _ _ _ _ _=>rfl
 have Am:=Dq.F.f_ (ps:=["n","thing"]) rfl fun _ _ _ _ _ _ _ _=>rfl
 have JO:=Dr.F.gx (ps:=["n","a","b"]) rfl fun _ _ _ _ _ _ _ _ _=>rfl
 have FZ:=Dt.F.f_ (ps:=["n","thing"]) rfl fun _ _ _ _ _ _ _ _=>rfl
 have CY:=Du.F.wW (ps:=["n"]) rfl fun _ _ _ _ _ _ _=>rfl
 have kW:=Dv.F.f_ (ps:=["n","heavy"]) rfl fun _ _ _ _ _ _ _ _=>rfl
 have JQ:=Dw.F.gx (ps:=["heavy","place","row"]) rfl fun _ _ _ _ _ _ _ _ _=>rfl
 have mD:=EV (st:=top 24) Kh Kl Km
 have An:Binds K (PySem.W.fnOf "order" "order" (aZ (top 24)) (aO (top 24)) (aj (top 24)) (.ref vO) zg zh zj zf vN zk) ["n","heavy","first"] []:=fun s us hIn hl=>match us,hl with | [_,_,_],_=>PySem.W.binds_K hIn rfl F9 rfl rfl rfl
 have sr:Binds K (PySem.W.fnOf "order" "order" (aZ (top 24)) (aO (top 24)) (aj (top 24)) (.ref vO) zg zh zj zf vN zk) ["n","heavy","first"] [.int 0 qA]:=fun s us hIn hl=>zW (C:=fun us=>BindsTo s (PySem.W.fnOf "order" "order" (aZ (top 24)) (aO (top 24)) (aj (top 24)) (.ref vO) zg zh zj zf vN zk) ⟨us,[]⟩ ((["n","heavy","first"]:List Str).zip (us++[.int 0 qA]))) (by simpa using hl) fun _ _=>PySem.W.binds_K hIn rfl F9 rfl rfl rfl
 have CZ:=vP.F.gx (ps:=["heavy","place","ahead"]) rfl fun _ _ _ _ _ _ _ _ _=>rfl
 have vG:=vQ.F.gx (ps:=["n","heavy","row"]) rfl fun _ _ _ _ _ _ _ _ _=>rfl
 have y9:=vR.F.f_ (ps:=["steps","a"]) rfl fun _ _ _ _ _ _ _ _=>rfl
 have C3:=vS.F.f_ (ps:=["heavy","side"]) rfl fun _ _ _ _ _ _ _ _=>rfl
 have vF:=vU.F.gx (ps:=["heavy","flow","push"]) rfl fun _ _ _ _ _ _ _ _ _=>rfl
 have y_:=vV.F.gx (ps:=["n","heavy","flow"]) rfl fun _ _ _ _ _ _ _ _ _=>rfl
 have za:=vW.F.wX (ps:=["n","heavy","place","most"]) rfl fun _ _ _ _ _ _ _ _ _ _=>rfl
 have vH:=vX.F.f_ (ps:=["n","heavy"]) rfl fun _ _ _ _ _ _ _ _=>rfl
 have C4:=vY.F.f_ (ps:=["script","k"]) rfl fun _ _ _ _ _ _ _ _=>rfl
 have C7:=vZ.F.f_ (ps:=["script","at"]) rfl fun _ _ _ _ _ _ _ _=>rfl
 have cF:=v5.F.f_ (ps:=["pool","many"]) rfl fun _ _ _ _ _ _ _ _=>rfl
 have C8:=v7.F.gx (ps:=["pool","n","most"]) rfl fun _ _ _ _ _ _ _ _ _=>rfl
 have vJ:=v8.F.f_ (ps:=["caught","kind"]) rfl fun _ _ _ _ _ _ _ _=>rfl
 have C5:=v_.F.f_ (ps:=["pool","n"]) rfl fun _ _ _ _ _ _ _ _=>rfl
 have C9:=wc.F.gx (ps:=["pool","n","heavy"]) rfl fun _ _ _ _ _ _ _ _ _=>rfl
 have C6:=we.F.wX (ps:=["which","n","heavy","row"]) rfl fun _ _ _ _ _ _ _ _ _ _=>rfl
 have vL:=wg.F.gx (ps:=["n","heavy","first"]) rfl fun _ _ _ _ _ _ _ _ _=>rfl
 have su:=wj.F.wX (ps:=["n","heavy","row","kind"]) rfl fun _ _ _ _ _ _ _ _ _ _=>rfl
 refine ⟨_,fun s v=>sy.Nf (fun _ _ _ _ _ _ _=>rfl) s v,fun base Xb _=>?_⟩
 have T:Txt mg K base _ _ _ _ _ _ _ _ _ _ _ _ _ _ _ _ _ _ _ _ _ _ _ _ _ _ _ _ _ _ _ _ _ _ _ _ _ _ _ _ _ _ _ _ _ _ _ _ _ _ _ _ _ _ _ _ _ _ _ _ _ _ _ _ _ _ _ _ _ _ _:=⟨mgo X G uo,mgo X G qL,mgo X G kY,mgo X G uq,mgo X G mE,mgo X G nK,mgo X G iG,mgo X G ur,mgo X G qM,mgo X G mF,mgo X G kZ,mgo X G qN,pJ Xb (mgo X G iG) gi,⟨⟨gC,gD,gE,gF,gG⟩,gH⟩,pJ Xb (mgo X G mF) iH,⟨⟨jt,ju,jv,jx,jy⟩,jz⟩,pJ Xb (mgo X G mE) iI,⟨⟨jA,jB,jC,jD,jE⟩,jF⟩,b4,bS,b5,⟨dG,dH,dI,cG⟩,⟨dG,dH,dI,b7⟩,⟨dG,dH,dI,cH⟩,eT,dN,cI,eU,dO,cY,cJ,eW,dP,dQ,dR,cZ,cK,b8,c_,cL,ck,b9,dc,cM,cN,cO,eX,dS,cP,eY,dU,dg,cQ,eZ,dW,dX,dY,mno X G iD,mno X G Dy,mno X G xX,mno X G jr,mno X G Dz,mno X G iE,mno X G DB,mno X G xY,mno X G DC,mno X G DG,mno X G ug,mno X G DH,mno X G uh,⟨_,mgo X G iF⟩,Di.m X G,Dj.m X G,Dl.m X G,Dq.m X G,Dr.m X G,Dt.m X G,Du.m X G,Dv.m X G,Dw.m X G,mgo X G Kg,vP.m X G,vQ.m X G,vR.m X G,vS.m X G,vU.m X G,vV.m X G,vW.m X G,vX.m X G,vY.m X G,vZ.m X G,v5.m X G,v7.m X G,v8.m X G,v_.m X G,wc.m X G,we.m X G,wg.m X G,wj.m X G,sy.m X G,Di.F,JM,Dj.F,CU,Dl.F,Dq.F,Am,Dr.F,JO,Dt.F,FY,Du.F,FZ,CY,Dv.F,Dw.F,kW,JQ,mD,vP.F,CZ,vQ.F,vR.F,vS.F,vU.F,vF,vV.F,y9,y_,vW.F,C3,za,vX.F,vY.F,C4,vZ.F,v5.F,cF,v7.F,v8.F,v_.F,C5,wc.F,An,sr,vG,vH,we.F,wg.F,vJ,C6,wj.F,C7,C8,C9,vL,su,sy.F⟩
 exact Kf T
theorem walk {av aF aG:Nat} {l:PySem.W.OpenLaw} {q:Program} {loose:List Str} {XP:(Str→Option Value)→Heap→Prop} {YP:World→Heap→Prop} {d:DefRec} {K:Params→PySem.W.Frag} (hn:l.most=some 63) (hdf:d.params.defaults=[])
  (hY:∀ (w:World) (h:Heap),YP w h→(K w.params).In h) (M:∀ ns:List Int,ns.length≤63→pT av aF aG [.lst (ns.map Dat.int)]=some (.val (.bl true))) (hK:∀ w:World,Bq (K w.params)=true)
  (F:∀ (w:World) (mg:Str→Option Value) (fa:Addr) (h:Heap),(K w.params).In h→h.Ns mainGlobals mg→mg d.name=some (.ref fa) →
   ∃ fd:FuncData,(∀ (s:Shared) (u:Value),BindsTo s fd ⟨[u],[]⟩ [("script",u)])∧∀ base:Heap,(K w.params).In base→base.Ns mainGlobals mg→aW l.prog w (K w.params) mg base CX0 10 fa fd ["script"] (spD (pT av aF aG))) :
  PySem.W.WalkO q loose XP YP l.row.toRowW d [] (fun f vs=>PySem.call f vs):=
 L2.D3 (n:=63) (k:=10) (x := "script") (CX:=fun _=>CX0) (sp:=fun _=>spD (pT av aF aG)) hn (by decide) hdf ⟨rfl,by decide,by decide⟩ hY F
  (fun w H a ns hl hO hS=>IY (M ns hl) (hK w) hS) fun _ _ _ _ _ z=>z
open PySem PySem.W PySem.W.X
theorem DJ {q:Program} {loose:List Str} {XP:(Str→Option Value)→Heap→Prop} {r:RowW} {d:DefRec} {kwd:List (Str×Expr)} {run:Value→List Value→Sem Value} {K:Params→Frag} {as:List Addr} {n t:Nat} (e:∀ P,as=(K P).map (·.1))
  (W:WalkO q loose XP (fun w h=>(K w.params).In h) r d kwd run):WalkX q loose XP (obsZ as) (valZ K n t) r d kwd run:=
 fun w s₀ s₁ mg mb G y a o pm cd doc dV kV ho hd hcd hD hmg hg args vals as' L=>W w s₀ s₁ mg mb G (InK.keeps w _ _ (z_facts e y).2.1 L.keeps) a o pm cd doc dV kV ho hd hcd hD hmg hg args vals as'
end Q
noncomputable def PySem.W.Fast.tw6236595244357864329:PySem.Program:=PySem.Challenge.pw_sinceply_k48_heavy_refused
theorem PySem.W.Fast.te6236595244357864329:PySem.Challenge.pw_sinceply_k48_heavy_refused=PySem.W.Fast.tw6236595244357864329:=rfl
namespace PySem.W.Fast
def tw11703332286938421902:=0
def tw9595134555766622559:=0
def tw9913552324878016681:=0
def tw15779085533363404540:=0
def tw2051560961266850185:=0
def tw10993678957076280388:=0
def tw17298868790291443464:=0
def tw7281083760037286837:=0
def tw8430575805052248053:=0
def tw5793510708002831154:=0
def tw6713846758914247295:=0
def tw921786362293440097:=0
def tw7934815920311609057:=0
def tw17519692919903431295:=0
def tw9590732806243115540:=0
def tw15611788308778885301:=0
def tw2470009340510914878:=0
def tw16785758658786328601:=0
def tw9463261029370502104:=0
def tw11680459012072316753:=0
def tw5650110599066280206:=0
def tw9010250686812573868:=0
def tw12248497500500043785:=0
def tw6496686246212496445:=0
def tw8406807193704920632:=0
def tw10924894284879332207:=0
def tw14860664777391930360:=0
def tw11839663357017584655:=0
def tw3825919984434753281:=0
def tw5091674479693708836:=0
def tw10980315297194248697:=0
def tw1176877714805176530:=0
def tw9484722991102444070:=0
def tw2353720118762276612:=0
def tw13211247182743040365:=0
def tw10575537425964160209:=0
def tw10730391471690147107:=0
def tw8892738699840891363:=0
def tw7686594402481265564:=0
def tw755484454955225316:=0
def tw4558829379144023139:=0
def tw2282555638541192199:=0
def tw6257967672580548099:=0
def tw5641010809554359953:=0
def tw1603799809539549664:=0
def tw12023732904962512121:=0
def tw2925087739706859570:=0
def tw1739195941993607762:=0
def tw3707231769347857948:=0
def tw18248138178441968817:=0
def tw14989139947002742919:=0
def tw10644665217604825954:=0
def tw1708272580207238225:=0
def tw2674556494391050582:=0
def tw7512679580750226286:=0
def tw4748138123261013160:=0
def tw2426639503384848:=0
def tw10569309181110126494:=0
def tw6006001436143681168:=0
def tw12028991784668058934:=0
def tw5082594097797407582:=0
def tw4120275347173932982:=0
def tw9353671341494467090:=0
def tw12922904955337842225:=0
def tw7093505391857887185:=0
def tw2920623613237540428:=0
def tw566315613515898437:=0
def tw3632856089728682079:=0
def tw3874012021808437679:=0
def tw8900263177812859415:=0
def tw10914929606497306387:=0
def tw6171891096084713981:=0
def tw18148241969190391450:=0
def tw4308381876683664195:=0
def tw3733706414780453351:=0
def tw3780638566810687785:=0
def tw3419451280437068523:=0
def tw15480318458097902955:=0
def tw797729856011138732:=0
def tw10088711894155756728:=0
def tw2614875610392030005:=0
def tw1784986816499002528:=0
def tw8665244651067415768:=0
def tw6802822591804703871:=0
def tw14085740068602650344:=0
def tw2774066452497373257:=0
def tw8362044280969873291:=0
def tw13636096305199659775:=0
def tw833020349556319568:=0
def tw1240435178549016305:=0
def tw4547409860894020367:=0
def tw13375704221403736419:=0
def tw5196223858280138913:=0
def tw13375420072698410514:=0
def tw13978978187224969359:=0
def tw6687153460404260622:=0
def tw6204566242940016451:=0
def tw10472692430716612680:=0
def tw11155282938403376170:=0
def tw15066344414384905291:=0
def tw14529802586346693006:=0
def tw8257608235667309243:=0
def tw9248866178006398920:=0
def tw15511980931573223763:=0
def tw3945817252074204499:=0
def tw18128496204051380396:=0
def tw1658509220575649416:=0
def tw3681137198299825488:=0
def tw13959984642072479346:=0
def tw2571532040028174448:=0
def tw3748254275281802373:=0
def tw2748146174506251537:=0
def tw17693516383911939882:=0
def tw12754258977977494320:=0
def tw13119318762309826879:=0
def tw15281361166895972526:=0
def tw16377867440497331342:=0
def tw10548480514403752886:=0
def tw11964751387192325715:=0
def tw12617950056590398630:=0
def tw10554453026221765275:=0
def tw4834996862799893637:=0
def tw13228504901329043556:=0
def tw1010450546051779428:=0
def tw14332325006800988290:=0
def tw1324762155882103196:=0
def tw1168902470057920114:=0
def tw2267237331636363442:=0
def tw5724573252977959464:=0
def tw9917082131985501276:=0
def tw15456555054049645901:=0
def tw4850717987239640159:=0
def tw15778664544134824783:=0
def tw5428800696144362858:=0
def tw15086747919585293017:=0
def tw9383132032933715277:=0
def tw15444526379047082313:=0
def tw14544868355613220049:=0
def tw13981220592798593432:=0
def tw6476151554776771214:=0
def tw3659258320732208015:=0
def tw16993330840035070322:=0
def tw13048264978596455009:=0
def tw10493886435923503691:=0
def tw13088251823313164270:=0
def tw12699375010058031460:=0
def tw10389486934476754717:=0
def tw12218495727602399121:=0
def tw13136805942946908565:=0
def tw7155327325335137397:=0
def tw16964147749129872575:=0
def tw2584243701325449284:=0
def tw4191917751373518054:=0
def tw3685764887816851153:=0
def tw15651725038995122256:=0
def tw15822104826672070266:=0
def tw12987522044888235436:=0
def tw391493765823654139:=0
def tw17805273918030478283:=0
def tw1284184619460956654:=0
def tw7441960833216929977:=0
def tw12238911422476573064:=0
def tw12158022152966253932:=0
def tw4470223473453981202:=0
def tw13789347121481787549:=0
def tw17153508119865109116:=0
def tw14176485563982615756:=0
def tw8364234309009897119:=0
def tw3081588374780424430:=0
def tw15549374895751794608:=0
def tw16238819519567382414:=0
def tw9622641171753622875:=0
def tw9524110288509293333:=0
def tw12877159986832035851:=0
def tw2059049326096315489:=0
def tw7204828512676585923:=0
def tw15827212960203045169:=0
def tw5927725222677622151:=0
def tw12108944533281283950:=0
def tw5764196765954961187:=0
def tw3321049308670301565:=0
def tw17136840487649063748:=0
def tw10527548989454216620:=0
def tw5349284654645313431:=0
def tw1247614789462027952:=0
def tw13418677064745078627:=0
def tw18335371201809172219:=0
def tw8529462907897945312:=0
def tw5948320087534849159:=0
def tw14589887424918241572:=0
def tw11345389184897551146:=0
def tw17735286284648464390:=0
def tw8322591346974993064:=0
def tw10451812070976462019:=0
def tw1636140003733259065:=0
def tw16947801954580514467:=0
def tw10192716663555626519:=0
def tw5877832214238470550:=0
def tw12540377874959928216:=0
def tw7919632213723507986:=0
def tw3654830401407209668:=0
def tw8403580975062580424:=0
def tw17312614350043493639:=0
def tw10704876493104177786:=0
def tw11392748940669494687:=0
def tw14651302366599879352:=0
def tw519804916459622804:=0
def tw8441037454036122168:=0
def tw3925321272628689832:=0
def tw12561042899689044853:=0
def tw10354165419474096918:=0
def tw17164622159225909375:=0
def tw17500172581116779060:=0
def tw10611724537266150561:=0
def tw5682912737689462721:=0
def tw381806285373819972:=0
def tw15053306683503980387:=0
def tw17346575866985027644:=0
def tw12161662548319367940:=0
def tw10145139487738607214:=0
def tw17890622276670602678:=0
def tw7217851755079863166:=0
def tw3725691404128929476:=0
def tw8425967917326333584:=0
def tw3518798867875015395:=0
def tw9737876697376663697:=0
def tw14445037329054381928:=0
def tw11494838942189072372:=0
def tw15601542260506529045:=0
def tw12059299097337812249:=0
def tw12710205833461022748:=0
def tw18052938949040433048:=0
def tw8254623954448864052:=0
def tw4649656227091690010:=0
def tw11061288645493291387:=0
def tw16815371001725013636:=0
def tw10052285789933978495:=0
def tw11375768506008242962:=0
def tw13795240003305809612:=0
def tw7642418841916715470:=0
def tw9031669098884076915:=0
def tw773785815113874377:=0
def tw7750383345232948471:=0
def tw8269019353163743928:=0
def tw15647439787252112769:=0
def tw5014089521898396490:=0
def tw17662960562038848293:=0
def tw13373530686320929240:=0
def tw3349760442320829089:=0
def tw917459563281605238:=0
def tw16675150266811737650:=0
def tw16432871304241018998:=0
def tw10991385078595127157:=0
def tw16658643593902423861:=0
def tw11702864576672059552:=0
def tw41468703304024428:=0
def tw8855427460885520029:=0
def tw15156965001109133461:=0
def tw1627203768098987674:=0
def tw9483552770749557884:=0
def tw9356345963732840849:=0
def tw4956069170058558780:=0
def tw3529089391468058158:=0
def tw12012618754056690338:=0
def tw17866332621293314661:=0
def tw5662634135534116044:=0
def tw5826359584874407614:=0
def tw4728029866907406817:=0
def tw8332958219465204014:=0
def tw10248424197839766203:=0
def tw2488441923738525057:=0
def tw14270283761944524353:=0
def tw15942058624418881050:=0
def tw5053434047843909983:=0
def tw12448496188024226906:=0
def tw7359441274765961792:=0
def tw7979052165562348398:=0
def tw11688133081451223070:=0
def tw16538687920324307533:=0
def tw841762825999013321:=0
def tw9835515701064436167:=0
def tw6252128639640680521:=0
def tw16124163687549582413:=0
def tw17772668135997443156:=0
def tw15099914384682957415:=0
def tw7845882125905515192:=0
def tw2601734322669978831:=0
def tw10449236471876756730:=0
def tw13951055204433967852:=0
def tw7272627401411812800:=0
def tw9388294331686961245:=0
def tw13864069559548042786:=0
def tw1057790729331022735:=0
def tw10771471989872015834:=0
def tw15618032510442174145:=0
def tw2177459316888961960:=0
def tw11216940510883727024:=0
def tw2251194297382374909:=0
def tw2222750299574641478:=0
def tw9383281647391165715:=0
def tw11853423660556743269:=0
def tw9681255570388088681:=0
def tw17457449218876213200:=0
def tw6920414693988296700:=0
def tw6720993679283428660:=0
def tw16502444537299304147:=0
def tw17658798800819566580:=0
def tw12588371392321863554:=0
def tw10763122169011613430:=0
def tw13599447493781231550:=0
def tw2270525676126443400:=0
def tw16330576068196802398:=0
def tw14029394856607043868:=0
def tw12018485463784431584:=0
def tw8761614850127451445:=0
def tw4862422709297510524:=0
def tw702286564008673761:=0
def tw10090104256670407422:=0
def tw14099868680792977134:=0
def tw13712096972857461840:=0
def tw81566074509598116:=0
def tw1028891082202738793:=0
def tw6422826503460246542:=0
def tw6546302835395424776:=0
def tw12978676214944761843:=0
def tw5529108368644899031:=0
def tw16213241872272320565:=0
def tw2953040364086884769:=0
def tw1080049812792718706:=0
def tw14509333674855268112:=0
def tw14363293984490327671:=0
def tw3227740863837692317:=0
def tw11236855242137564770:=0
def tw13848387553225065860:=0
def tw8720135368948022914:=0
def tw1744568266977447024:=0
def tw17192779227333333888:=0
def tw8809521152811048684:=0
def tw16299734427947511776:=0
def tw11105104803408015519:=0
def tw11978322056094366636:=0
def tw11294501006562891020:=0
def tw5069510926872167502:=0
def tw14498793484788194516:=0
def tw15308374545480783380:=0
def tw13547677953750418924:=0
def tw16373821151575414118:=0
def tw14357929777932110071:=0
def tw9043236125959228888:=0
def tw15105037099176021949:=0
def tw11307720362831058617:=0
def tw4978367160424066424:=0
def tw15231602575981211498:=0
def tw16524419722160882074:=0
def tw1384167272526423542:=0
def tw12829624912320986107:=0
def tw11823570886286791300:=0
def tw7297108369971508228:=0
def tw8016865210868078323:=0
end PySem.W.Fast
open PySem PySem.W PyProof.Rows
set_option maxRecDepth 100000 in
set_option maxHeartbeats 0 in
theorem PySem.Challenge.cw_sinceply_k48_heavy_refused_holds : PySem.Challenge.rw_sinceply_k48_heavy_refused.Holds := by
 w_on;o_law;z_head;(case hw=>w_witness2)
 k_fill
 refine' Q.DJ (fun _=>rfl) (Q.walk (l:=PySem.Challenge.rw_sinceply_k48_heavy_refused) rfl rfl (fun w h Y=>Y) (P.math _ _ _ ?ne) ?noL ?fnS)
 case noL=>intro w;rfl
 case fnS=>
  intro w mg fa h KX G hmg
  refine' Q.all_mk KX G hmg ?Di ?Dj ?Dl ?Dq ?Dr ?Dt ?Du ?Dv ?Dw ?Kg ?Kh ?Kl ?Km ?F9 ?vP ?vQ ?vR ?vS ?vU ?vV ?vW ?vX ?vY ?vZ ?v5 ?v7 ?v8 ?v_ ?wc ?we ?wg ?wj ?sy ?iD ?Dy ?xX ?jr ?Dz ?iE ?DB ?xY ?DC ?DG ?ug ?DH ?uh ?iF ?uo ?qL ?kY ?uq ?mE ?nK ?iG ?ur ?qM ?mF ?kZ ?qN ?gi ?gC ?gD ?gE ?gF ?gG ?gH ?iH ?jt ?ju ?jv ?jx ?jy ?jz ?iI ?jA ?jB ?jC ?jD ?jE ?jF ?b4 ?bS ?b5 ?dG ?dH ?dI ?cG ?b7 ?cH ?eT ?dN ?cI ?eU ?dO ?cY ?cJ ?eW ?dP ?dQ ?dR ?cZ ?cK ?b8 ?c_ ?cL ?ck ?b9 ?dc ?cM ?cN ?cO ?eX ?dS ?cP ?eY ?dU ?dg ?cQ ?eZ ?dW ?dX ?dY
  (case Di=>refine' Br.aY ?e ?l ?c ?k;(case e=>k_is);(case l=>k_is);(case c=>k_is);(case k=>k_is))
  (case Dj=>refine' Br.aY ?e ?l ?c ?k;(case e=>k_is);(case l=>k_is);(case c=>k_is);(case k=>k_is))
  (case Dl=>refine' Br.aY ?e ?l ?c ?k;(case e=>k_is);(case l=>k_is);(case c=>k_is);(case k=>k_is))
  (case Dq=>refine' Br.aY ?e ?l ?c ?k;(case e=>k_is);(case l=>k_is);(case c=>k_is);(case k=>k_is))
  (case Dr=>refine' Br.aY ?e ?l ?c ?k;(case e=>k_is);(case l=>k_is);(case c=>k_is);(case k=>k_is))
  (case Dt=>refine' Br.aY ?e ?l ?c ?k;(case e=>k_is);(case l=>k_is);(case c=>k_is);(case k=>k_is))
  (case Du=>refine' Br.aY ?e ?l ?c ?k;(case e=>k_is);(case l=>k_is);(case c=>k_is);(case k=>k_is))
  (case Dv=>refine' Br.aY ?e ?l ?c ?k;(case e=>k_is);(case l=>k_is);(case c=>k_is);(case k=>k_is))
  (case Dw=>refine' Br.aY ?e ?l ?c ?k;(case e=>k_is);(case l=>k_is);(case c=>k_is);(case k=>k_is))
  (case Kg=>k_is)
  (case Kh=>k_is)
  (case Kl=>k_is)
  (case Km=>k_is)
  (case F9=>k_is)
  (case vP=>refine' Br.aY ?e ?l ?c ?k;(case e=>k_is);(case l=>k_is);(case c=>k_is);(case k=>k_is))
  (case vQ=>refine' Br.aY ?e ?l ?c ?k;(case e=>k_is);(case l=>k_is);(case c=>k_is);(case k=>k_is))
  (case vR=>refine' Br.aY ?e ?l ?c ?k;(case e=>k_is);(case l=>k_is);(case c=>k_is);(case k=>k_is))
  (case vS=>refine' Br.aY ?e ?l ?c ?k;(case e=>k_is);(case l=>k_is);(case c=>k_is);(case k=>k_is))
  (case vU=>refine' Br.aY ?e ?l ?c ?k;(case e=>k_is);(case l=>k_is);(case c=>k_is);(case k=>k_is))
  (case vV=>refine' Br.aY ?e ?l ?c ?k;(case e=>k_is);(case l=>k_is);(case c=>k_is);(case k=>k_is))
  (case vW=>refine' Br.aY ?e ?l ?c ?k;(case e=>k_is);(case l=>k_is);(case c=>k_is);(case k=>k_is))
  (case vX=>refine' Br.aY ?e ?l ?c ?k;(case e=>k_is);(case l=>k_is);(case c=>k_is);(case k=>k_is))
  (case vY=>refine' Br.aY ?e ?l ?c ?k;(case e=>k_is);(case l=>k_is);(case c=>k_is);(case k=>k_is))
  (case vZ=>refine' Br.aY ?e ?l ?c ?k;(case e=>k_is);(case l=>k_is);(case c=>k_is);(case k=>k_is))
  (case v5=>refine' Br.aY ?e ?l ?c ?k;(case e=>k_is);(case l=>k_is);(case c=>k_is);(case k=>k_is))
  (case v7=>refine' Br.aY ?e ?l ?c ?k;(case e=>k_is);(case l=>k_is);(case c=>k_is);(case k=>k_is))
  (case v8=>refine' Br.aY ?e ?l ?c ?k;(case e=>k_is);(case l=>k_is);(case c=>k_is);(case k=>k_is))
  (case v_=>refine' Br.aY ?e ?l ?c ?k;(case e=>k_is);(case l=>k_is);(case c=>k_is);(case k=>k_is))
  (case wc=>refine' Br.aY ?e ?l ?c ?k;(case e=>k_is);(case l=>k_is);(case c=>k_is);(case k=>k_is))
  (case we=>refine' Br.aY ?e ?l ?c ?k;(case e=>k_is);(case l=>k_is);(case c=>k_is);(case k=>k_is))
  (case wg=>refine' Br.aY ?e ?l ?c ?k;(case e=>k_is);(case l=>k_is);(case c=>k_is);(case k=>k_is))
  (case wj=>refine' Br.aY ?e ?l ?c ?k;(case e=>k_is);(case l=>k_is);(case c=>k_is);(case k=>k_is))
  (case sy=>refine' Br.aY ?e ?l ?c ?k;(case e=>k_is);(case l=>k_is);(case c=>k_is);(case k=>k_is))
  (case iD=>k_is)
  (case Dy=>k_is)
  (case xX=>k_is)
  (case jr=>k_is)
  (case Dz=>k_is)
  (case iE=>k_is)
  (case DB=>k_is)
  (case xY=>k_is)
  (case DC=>k_is)
  (case DG=>k_is)
  (case ug=>k_is)
  (case DH=>k_is)
  (case uh=>k_is)
  (case iF=>k_is)
  (case uo=>k_is)
  (case qL=>k_is)
  (case kY=>k_is)
  (case uq=>k_is)
  (case mE=>k_is)
  (case nK=>k_is)
  (case iG=>k_is)
  (case ur=>k_is)
  (case qM=>k_is)
  (case mF=>k_is)
  (case kZ=>k_is)
  (case qN=>k_is)
  (case gi=>first | k_is | kit_is | kernel_rfl)
  (case gC=>first | k_is | kit_is | kernel_rfl)
  (case gD=>first | k_is | kit_is | kernel_rfl)
  (case gE=>first | k_is | kit_is | kernel_rfl)
  (case gF=>first | k_is | kit_is | kernel_rfl)
  (case gG=>first | k_is | kit_is | kernel_rfl)
  (case gH=>first | k_is | kit_is | kernel_rfl)
  (case iH=>first | k_is | kit_is | kernel_rfl)
  (case jt=>first | k_is | kit_is | kernel_rfl)
  (case ju=>first | k_is | kit_is | kernel_rfl)
  (case jv=>first | k_is | kit_is | kernel_rfl)
  (case jx=>first | k_is | kit_is | kernel_rfl)
  (case jy=>first | k_is | kit_is | kernel_rfl)
  (case jz=>first | k_is | kit_is | kernel_rfl)
  (case iI=>first | k_is | kit_is | kernel_rfl)
  (case jA=>first | k_is | kit_is | kernel_rfl)
  (case jB=>first | k_is | kit_is | kernel_rfl)
  (case jC=>first | k_is | kit_is | kernel_rfl)
  (case jD=>first | k_is | kit_is | kernel_rfl)
  (case jE=>first | k_is | kit_is | kernel_rfl)
  (case jF=>first | k_is | kit_is | kernel_rfl)
  (case b4=>first | k_is | kit_is | kernel_rfl)
  (case bS=>first | k_is | kit_is | kernel_rfl)
  (case b5=>first | k_is | kit_is | kernel_rfl)
  (case dG=>first | k_is | kit_is | kernel_rfl)
  (case dH=>first | k_is | kit_is | kernel_rfl)
  (case dI=>first | k_is | kit_is | kernel_rfl)
  (case cG=>first | k_is | kit_is | kernel_rfl)
  (case b7=>first | k_is | kit_is | kernel_rfl)
  (case cH=>first | k_is | kit_is | kernel_rfl)
  (case eT=>first | k_is | kit_is | kernel_rfl)
  (case dN=>first | k_is | kit_is | kernel_rfl)
  (case cI=>first | k_is | kit_is | kernel_rfl)
  (case eU=>first | k_is | kit_is | kernel_rfl)
  (case dO=>first | k_is | kit_is | kernel_rfl)
  (case cY=>first | k_is | kit_is | kernel_rfl)
  (case cJ=>first | k_is | kit_is | kernel_rfl)
  (case eW=>first | k_is | kit_is | kernel_rfl)
  (case dP=>first | k_is | kit_is | kernel_rfl)
  (case dQ=>first | k_is | kit_is | kernel_rfl)
  (case dR=>first | k_is | kit_is | kernel_rfl)
  (case cZ=>first | k_is | kit_is | kernel_rfl)
  (case cK=>first | k_is | kit_is | kernel_rfl)
  (case b8=>first | k_is | kit_is | kernel_rfl)
  (case c_=>first | k_is | kit_is | kernel_rfl)
  (case cL=>first | k_is | kit_is | kernel_rfl)
  (case ck=>first | k_is | kit_is | kernel_rfl)
  (case b9=>first | k_is | kit_is | kernel_rfl)
  (case dc=>first | k_is | kit_is | kernel_rfl)
  (case cM=>first | k_is | kit_is | kernel_rfl)
  (case cN=>first | k_is | kit_is | kernel_rfl)
  (case cO=>first | k_is | kit_is | kernel_rfl)
  (case eX=>first | k_is | kit_is | kernel_rfl)
  (case dS=>first | k_is | kit_is | kernel_rfl)
  (case cP=>first | k_is | kit_is | kernel_rfl)
  (case eY=>first | k_is | kit_is | kernel_rfl)
  (case dU=>first | k_is | kit_is | kernel_rfl)
  (case dg=>first | k_is | kit_is | kernel_rfl)
  (case cQ=>first | k_is | kit_is | kernel_rfl)
  (case eZ=>first | k_is | kit_is | kernel_rfl)
  (case dW=>first | k_is | kit_is | kernel_rfl)
  (case dX=>first | k_is | kit_is | kernel_rfl)
  (case dY=>first | k_is | kit_is | kernel_rfl)
 case ne=>decide
end
