import PyProof.Rows.All
import Wide.All
import OpenK.AllK
import Wide.FinOn
import Lean
import PyProof.EqAt
import PyProof.EqKinds
import PyProof.TupleCall
import KE.KRevIter
import PyProof.EnumMake
import PyProof.EnumFor
import PyProof.ListRange
import PyProof.Rows.Range3
import PyProof.ZipIter
import PyProof.SumWalk
import PyProof.WalksMore
import PyProof.Rows.SetFrom
import PyProof.SetRoads
import PyProof.Rows.SortRunsK
import PyProof.Rows.SortWalk
import KE.KSortTup
import PyProof.Rows.Own
import PyProof.StationsW
import OpenK.KRaise
import KE.KIsAll
import PyProof.ExcArgsOwn
import PyProof.RulesAs
import PyProof.Ns1
import PyProof.Rows.Catch
import OpenK.KOwn
import PyProof.ExcBaseAll.ValueError
import KE.KDictSum
import PyProof.AttrMiss
import PyProof.IsiH_list
import KE.KDictOf
import PyProof.DictList
import KE.KDictList
import PyProof.FactsAll.set
import PyProof.Rows.TupAdd
import KE.KDictMeth
import PyProof.DictWalks
import PyProof.TupleKey
import PyProof.DictStraight
import PyProof.IsRules
import KE.KRevSl
import PySem.Challenge.RW_sinceply_k27_hangs_refused
noncomputable section
set_option Elab.async false
set_option linter.all false

set_option maxRecDepth 100000
namespace L2
open PySem PySem.Spec PyProof.Rows
noncomputable abbrev Key:=Sum Int Str
noncomputable def pQ:Key→Value→Bool
 | .inl k,v=>Value.isInt k v
 | .inr x,v=>Value.isStrOf x v
noncomputable def MR (w:World):Key→Int
 | .inl k=>hashInt k
 | .inr x=>hashStr w x
theorem bD:∀ {k:Key} {v:Value},pQ k v=true→(∃ i t,k=Sum.inl i∧v=Value.int i t)∨(∃ x t,k=Sum.inr x∧v=Value.str x t)
 | .inl i,v,h=>by
  obtain ⟨t,e⟩:=Value.isInt_shape (k:=i) (v:=v) h
  exact .inl ⟨i,t,rfl,e⟩
 | .inr x,v,h=>by
  obtain ⟨t,e⟩:=Value.isStrOf_shape (x:=x) (v:=v) h
  exact .inr ⟨x,t,rfl,e⟩
theorem yh (i:Int) (t:Tok):pQ (.inl i) (.int i t)=true:=by simp [pQ,Value.isInt]
theorem yi (x:Str) (t:Tok):pQ (.inr x) (.str x t)=true:=by simp [pQ,Value.isStrOf]
theorem GH (a b:Int):decide ((Sum.inl a:Key)=Sum.inl b)=(a == b):=by
 by_cases e:a=b
 ·subst e;simp
 ·have h:¬ (Sum.inl a:Key)=Sum.inl b:=fun q=>e (Sum.inl.inj q)
  rw [decide_eq_false h]
  exact (beq_eq_false_iff_ne.mpr e).symm
theorem GI (a b:Str):decide ((Sum.inr a:Key)=Sum.inr b)=decide (a=b):=by
 by_cases e:a=b
 ·subst e;simp
 ·have h:¬ (Sum.inr a:Key)=Sum.inr b:=fun q=>e (Sum.inr.inj q)
  rw [decide_eq_false h,decide_eq_false e]
theorem GJ (a:Int) (b:Str):decide ((Sum.inl a:Key)=Sum.inr b)=false:=decide_eq_false (fun q=>nomatch q)
theorem GK (a:Str) (b:Int):decide ((Sum.inr a:Key)=Sum.inl b)=false:=decide_eq_false (fun q=>nomatch q)
noncomputable def bh (prog:Program) (w:World):PySem.KeyKind prog w Key where
 is:=pQ
 hash:=MR w
 inj:=fun v a b ha hb=>by
  rcases bD ha with ⟨i,t,rfl,rfl⟩ | ⟨x,t,rfl,rfl⟩
  ·rcases bD hb with ⟨j,u,rfl,e⟩ | ⟨y,u,rfl,e⟩
   ·injection e with e1 _;rw [e1]
   ·exact nomatch e
  ·rcases bD hb with ⟨j,u,rfl,e⟩ | ⟨y,u,rfl,e⟩
   ·exact nomatch e
   ·injection e with e1 _;rw [e1]
 byValue:=fun k v h=>by
  rcases bD h with ⟨i,t,rfl,rfl⟩ | ⟨x,t,rfl,rfl⟩<;>rfl
 pyHash:=fun hv h=>by
  rcases bD hv with ⟨i,t,rfl,rfl⟩ | ⟨x,t,rfl,rfl⟩
  ·exact wpAny_pyHash_int h
  ·exact wpAny_pyHash_str h
 eqBool:=fun hu hv h=>by
  rcases bD hu with ⟨i,t,rfl,rfl⟩ | ⟨x,t,rfl,rfl⟩
  ·rcases bD hv with ⟨j,u,rfl,rfl⟩ | ⟨y,u,rfl,rfl⟩
   ·rw [GH] at h;exact wpAny_eqBool_int h
   ·rw [GJ] at h;exact SeqAt.EqAt.int_str i t y u _ _ _ _ h
  ·rcases bD hv with ⟨j,u,rfl,rfl⟩ | ⟨y,u,rfl,rfl⟩
   ·rw [GK] at h;exact SeqAt.EqAt.str_int x t j u _ _ _ _ h
   ·rw [GI] at h;exact wpAny_eqBool_str h
 «strs»:=fun k x t v h=>by
  rcases bD h with ⟨i,u,rfl,e⟩ | ⟨y,u,rfl,e⟩
  ·exact nomatch e
  ·injection e with e1 _
   subst e1
   cases v<;>rfl
theorem rW (prog:Program) (w:World) (i:Int) (t:Tok):(bh prog w).is (.inl i) (.int i t)=true:=yh i t
theorem rX (prog:Program) (w:World) (x:Str) (t:Tok):(bh prog w).is (.inr x) (.str x t)=true:=yi x t
inductive V where
 | non | bl (b:Bool) | int (i:Int) | str (x:Str) | byt (b:Array UInt8) | flt (b:UInt64) | ref (a:Addr) | ty (n:String)
 deriving DecidableEq
noncomputable def RelV:V→Value→Prop
 | .non,u=>u=Value.none
 | .bl b,u=>u=Value.bool b
 | .int i,u=>∃ t,u=Value.int i t
 | .str x,u=>∃ t,u=Value.str x t
 | .byt b,u=>∃ t,u=Value.bytes b t
 | .flt b,u=>∃ t,u=Value.float b t
 | .ref a,u=>u=Value.ref a
 | .ty n,u=>u=Value.type n
noncomputable abbrev Vals:List V→List Value→Prop:=Paired RelV
theorem Vals.length {xs:List V} {us:List Value} (r:Vals xs us):xs.length=us.length:=Paired.length r
theorem Vals.get:∀ {xs:List V} {us:List Value} {i:Nat} {x:V},Vals xs us→xs[i]?=some x→∃ u,us[i]?=some u∧RelV x u
 | _,_,_,_,.nil,e=>by simp at e
 | _,_,0,_,.cons r _,e=>by simp at e;subst e;exact ⟨_,rfl,r⟩
 | _,_,i+1,x,.cons _ t,e=>by
  obtain ⟨u,h1,h2⟩:=Vals.get (i:=i) (x:=x) t (by simpa using e)
  exact ⟨u,by simpa using h1,h2⟩
theorem Vals.set {x:V} {u:Value} (r:RelV x u):∀ {xs:List V} {us:List Value} (i:Nat),Vals xs us→Vals (xs.set i x) (us.set i u)
 | _,_,_,.nil=>.nil
 | _,_,0,.cons _ t=>.cons r t
 | _,_,i+1,.cons q t=>.cons q (Vals.set r i t)
theorem Vals.append:∀ {xs ys:List V} {us ws:List Value},Vals xs us→Vals ys ws→Vals (xs++ys) (us++ws)
 | _,_,_,_,.nil,s=>s
 | _,_,_,_,.cons r t,s=>.cons r (Vals.append t s)
noncomputable def jG:Option V→Option Value→Prop
 | some v,some u=>RelV v u
 | none,none=>True
 | _,_=>False
noncomputable def KV {κ:Type}:List (κ×V)→List (κ×Value)→Prop:=Paired fun (p:κ×V) (q:κ×Value)=>p.1=q.1∧RelV p.2 q.2
noncomputable def kV:Key→V
 | .inl i=>.int i
 | .inr x=>.str x
inductive HO where
 | lst (xs:List V)
 | tup (xs:List V)
 | dK (kvs:List (Key×V)) | dT (kvs:List (List Key×V))
 | set (S:Int→Bool) (n:Nat)
 | ins (C dx:Addr) (fs:List (Str×V))
 | own (x:Addr)
 | xd (fs:List (Str×V))
 | met (f x:Addr)
 | rng (lo hi:Int)
 | frz (o:Obj) (u:HO)
 | tbl (ps:Array Value)
 | ext (φ:Heap→Prop)
noncomputable abbrev Hp:=Addr→Option HO
noncomputable def upd (H:Hp) (a:Addr) (o:HO):Hp:=fun b=>if b=a then some o else H b
theorem aq {H:Hp} {a:Addr} {o:HO}:upd H a o a=some o:=by unfold upd;rw [if_pos rfl]
theorem ao {H:Hp} {a b:Addr} {o:HO} (h:b≠a):upd H a o b=H b:=by unfold upd;rw [if_neg h]
theorem Kl {H:Hp} {a b:Addr} {o u:HO} (h:H a=some o) (h':H b=some u) (d:o≠u):a≠b:=by
 intro e;subst e;rw [h] at h';exact d (Option.some.inj h')
theorem aI {H:Hp} {a b:Addr} {o:HO} (h:H a=some o) (h':H b=none):a≠b:=by
 intro e;subst e;rw [h] at h';cases h'
section
variable (P:Program) (w:World)
noncomputable def aT (H:Hp) (h:Heap) (a:Addr):HO→Prop
 | .lst xs=>xs.length≤sizeLine∧∃ (its:List Value) (n:Nat),Vals xs its∧h.get? a=some { cls:=.type "list",data:=.seq its.toArray n }
 | .tup xs=>xs.length≤sizeLine∧∃ its:List Value,Vals xs its∧IsTup h a its.toArray
 | .dK kvs=>kvs.length≤sizeLine∧(a == sysModules)=false∧∃ vs,KV kvs vs∧h.DictOf (bh P w) a vs
 | .dT kvs=>kvs.length≤sizeLine∧(a == sysModules)=false∧∃ xs:List (List Key×Addr×Value),
   Paired (fun (p:List Key×V) (q:List Key×Addr×Value)=>p.1=q.1∧H q.2.1=some (.tup (p.1.map kV))∧RelV p.2 q.2.2) kvs xs ∧
   ∃ o es ep,h.get? a=some o∧o.ExactDict∧o.data=.dict es ep∧es.toList=xs.map (entryOfKey (tupleKind (bh P w)))∧(xs.map (·.1)).Nodup
 | .set S n=>h.SetOf (intKind P w) a S n
 | .ins C dx fs=>H dx=some (.own a)∧fs.length≤1000∧dx≠a∧h.get? a=some (PySem.W.instObj C dx) ∧
   ∃ mA,h.Ns1 dx mA∧(∀ f,jG (fs.lookup f) (mA f))∧PySem.Within mA (fs.map (·.1))
 | .own _=>∃ o,h.get? a=some o
 | .xd fs=>∃ mA,h.Ns1 a mA∧∀ f,jG (fs.lookup f) (mA f)
 | .rng lo hi=>∃ t u v,h.get? a=some { cls:=.type "range",data:=.fields #[.int lo t,.int hi u,.int 1 v] }
 | .frz o u=>h.get? a=some o∧aT H h a u
 | .tbl ps=>h.get? a=some { cls:=.none,data:=.fields ps }
 | .met f x=>h.get? a=some (PySem.W.methodObj (.ref f) (.ref x))
 | .ext φ=>φ h∧(∃ o,h.get? a=some o)∧∀ h1 h2:Heap,φ h1→(∀ o,h1.get? a=some o→h2.get? a=some o)→φ h2
noncomputable def HOk (H:Hp) (h:Heap):Prop:=∀ a o,H a=some o→aT P w H h a o
end
section
variable {P:Program} {w:World} {H H':Hp} {h h':Heap} {a:Addr} {o:HO}
theorem aT.lt (x:aT P w H h a o):a<h.objs.size:=by
 cases o with
 | lst xs=>obtain ⟨_,_,_,_,e⟩:=x;exact Heap.lt_size e
 | tup xs=>obtain ⟨_,_,_,p⟩:=x;exact p.lt
 | dK kvs=>obtain ⟨_,_,_,_,o,_,_,e,_⟩:=x;exact Heap.lt_size e
 | dT kvs=>obtain ⟨_,_,_,_,o,_,_,e,_⟩:=x;exact Heap.lt_size e
 | set S n=>obtain ⟨o,_,_,_,e,_⟩:=x;exact Heap.lt_size e
 | ins C dx fs=>obtain ⟨_,_,_,e,_⟩:=x;exact Heap.lt_size e
 | own y=>obtain ⟨_,e⟩:=x;exact Heap.lt_size e
 | xd fs=>obtain ⟨_,⟨_,_,_,e,_⟩,_⟩:=x;exact Heap.lt_size e
 | rng lo hi=>obtain ⟨_,_,_,e⟩:=x;exact Heap.lt_size e
 | frz ob u=>obtain ⟨e,_⟩:=x;exact Heap.lt_size e
 | tbl ps=>exact Heap.lt_size (show h.get? a=some _ from x)
 | met f y=>exact Heap.lt_size (show h.get? a=some _ from x)
 | ext φ=>obtain ⟨_,⟨_,e⟩,_⟩:=x;exact Heap.lt_size e
theorem Paired.GL {α β:Type} {F G:α→β→Prop}:∀ {l₁:List α} {l₂:List β},Paired F l₁ l₂→(∀ a b,F a b→G a b)→Paired G l₁ l₂
 | _,_,.nil,_=>.nil
 | _,_,.cons r t,f=>.cons (f _ _ r) (Paired.GL t f)
theorem aT.stay (x:aT P w H h a o) (k:∀ b u,(b=a∨H b=some (.own a))→h.get? b=some u→h'.get? b=some u)
  (ho:∀ b,H b=some (.own a)→H' b=some (.own a)) (ht:∀ b xs,H b=some (.tup xs)→H' b=some (.tup xs)):aT P w H' h' a o:=by
 induction o with
 | lst xs=>obtain ⟨z,its,n,r,e⟩:=x;exact ⟨z,its,n,r,k _ _ (.inl rfl) e⟩
 | tup xs=>obtain ⟨z,its,r,ob,e,c⟩:=x;exact ⟨z,its,r,ob,k _ _ (.inl rfl) e,c⟩
 | dK kvs=>obtain ⟨z,y,vs,r,ob,es,ep,e,c⟩:=x;exact ⟨z,y,vs,r,ob,es,ep,k _ _ (.inl rfl) e,c⟩
 | dT kvs=>
  obtain ⟨z,y,xs,r,ob,es,ep,e,c⟩:=x
  exact ⟨z,y,xs,Paired.GL r fun p q z=>⟨z.1,ht _ _ z.2.1,z.2.2⟩,ob,es,ep,k _ _ (.inl rfl) e,c⟩
 | set S n=>obtain ⟨ob,es,ep,t,e,c⟩:=x;exact ⟨ob,es,ep,t,k _ _ (.inl rfl) e,c⟩
 | ins C dx fs=>
  obtain ⟨d,z,ne,e,mA,⟨od,es,ep,e2,c⟩,r⟩:=x
  exact ⟨ho _ d,z,ne,k _ _ (.inl rfl) e,mA,⟨od,es,ep,k _ _ (.inr d) e2,c⟩,r⟩
 | own y=>obtain ⟨ob,e⟩:=x;exact ⟨ob,k _ _ (.inl rfl) e⟩
 | xd fs=>obtain ⟨mA,⟨od,es,ep,e,c⟩,r⟩:=x;exact ⟨mA,⟨od,es,ep,k _ _ (.inl rfl) e,c⟩,r⟩
 | rng lo hi=>obtain ⟨t,u,v,e⟩:=x;exact ⟨t,u,v,k _ _ (.inl rfl) e⟩
 | frz ob u ih=>obtain ⟨e,q⟩:=x;exact ⟨k _ _ (.inl rfl) e,ih q⟩
 | tbl ps=>
  have e:h.get? a=some { cls:=.none,data:=.fields ps }:=x
  show h'.get? a=some { cls:=.none,data:=.fields ps }
  exact k a _ (.inl rfl) e
 | met f y=>
  have e:h.get? a=some (PySem.W.methodObj (.ref f) (.ref y)):=x
  show h'.get? a=some (PySem.W.methodObj (.ref f) (.ref y))
  exact k a _ (.inl rfl) e
 | ext φ=>obtain ⟨p,⟨o,e⟩,st⟩:=x;exact ⟨st _ _ p fun o q=>k _ _ (.inl rfl) q,⟨o,k _ _ (.inl rfl) e⟩,st⟩
theorem HOk.lt (x:HOk P w H h) (e:H a=some o):a<h.objs.size:=(x a o e).lt
theorem HOk.fresh (x:HOk P w H h) (e:h.objs.size≤a):H a=none:=by
 cases q:H a with
 | none=>rfl
 | some u=>exact absurd (Nat.lt_of_lt_of_le (x.lt q) e) (Nat.lt_irrefl _)
theorem HOk.kept (x:HOk P w H h) (k:∀ b u,h.get? b=some u→h'.get? b=some u):HOk P w H h':=fun a o e=>
 (x a o e).stay (fun b u _ q=>k b u q) (fun _ q=>q) fun _ _ q=>q
theorem HOk.laid (x:HOk P w H h) (k:∀ b u,h.get? b=some u→h'.get? b=some u) (hp:h.objs.size≤a) (new:aT P w (upd H a o) h' a o):HOk P w (upd H a o) h':=fun b u e=>by
 have hn:=x.fresh hp
 by_cases hb:b=a
 ·subst hb;rw [aq] at e;cases e;exact new
 ·rw [ao hb] at e
  exact (x b u e).stay (fun c v _ q=>k c v q) (fun c q=>by rw [ao (aI q hn)];exact q) fun c xs q=>by rw [ao (aI q hn)];exact q
end
noncomputable def Rd (H:Hp) (a:Addr) (u:HO):Prop:=H a=some u∨∃ o,H a=some (.frz o u)
theorem Rd.ok {P:Program} {w:World} {H:Hp} {h:Heap} {a:Addr} {u:HO} (r:Rd H a u) (x:HOk P w H h):aT P w H h a u:=by
 rcases r with r | ⟨o,r⟩
 ·exact x a u r
 ·obtain ⟨_,q⟩:=x a _ r
  exact q
noncomputable def Mut:Option HO→Prop
 | some (.lst _)=>True
 | some (.dK _)=>True
 | some (.dT _)=>True
 | some (.set _ _)=>True
 | some (.ins _ _ _)=>True
 | some (.ext _)=>True
 | _=>False
section
variable {P:Program} {w:World} {H:Hp} {h h':Heap} {x e:Addr} {o':HO}
theorem HOk.write (ok:HOk P w H h) (mu:Mut (H x)) (he:e=x∨H e=some (.own x)) (k:∀ b u,b≠e→h.get? b=some u→h'.get? b=some u) (heo:∃ u,h'.get? e=some u)
  (new:aT P w (upd H x o') h' x o'):HOk P w (upd H x o') h':=fun b u q=>by
 have Km:∀ c y,H c=some (.own y)→c≠x:=fun c y r z=>by subst z;rw [r] at mu;exact mu
 have MS:∀ c xs,H c=some (.tup xs)→c≠x:=fun c xs r z=>by subst z;rw [r] at mu;exact mu
 by_cases hb:b=x
 ·subst hb;rw [aq] at q;cases q;exact new
 ·rw [ao hb] at q
  by_cases hbe:b=e
  ·have q':H b=some (.own x):=by
    rcases he with z | z
    ·exact absurd (hbe.trans z) hb
    ·rw [hbe];exact z
   rw [q] at q';cases q'
   obtain ⟨v,hv⟩:=heo
   exact ⟨v,by rw [hbe];exact hv⟩
  ·refine (ok b u q).stay (fun c v hc r=>k c v ?_ r) (fun c r=>by rw [ao (Km c b r)];exact r) fun c xs r=>by rw [ao (MS c xs r)];exact r
   rcases hc with rfl | hc
   ·exact hbe
   ·rintro rfl
    rcases he with z | z
    ·exact Km c b hc z
    ·rw [hc] at z;cases z;exact hb rfl
end
structure Un (fs ex:List Addr) (H H':Hp) (h h':Heap):Prop where
 keep:∀ b o,h.get? b=some o→H b=none→b∉fs→b∉ex→h'.get? b=some o
 slot:∀ b o,h.get? b=some o→H b=none→b∈fs→b∉ex→∃ sl,h'.get? b=some { o with slots:=sl }
 free:∀ b o,h.get? b=some o→H b=none→b∉ex→H' b=none
 there:∀ b o,h.get? b=some o→b∉ex→∃ o',h'.get? b=some o'
 tups:∀ b xs,H b=some (.tup xs)→H' b=some (.tup xs)
 l6:∀ b o u,H b=some (.frz o u)→H' b=some (.frz o u)
 mG:∀ b ps,H b=some (.tbl ps)→∃ more,H' b=some (.tbl (ps++more))
section
variable {fs fs' ex ex':List Addr} {H H1 H2:Hp} {h h1 h2 h':Heap} {a x e:Addr} {o:HO}
theorem Un.any (u:Un fs ex H H1 h h1) {b:Addr} {ob:Obj} (q:h.get? b=some ob) (n:H b=none) (hx:b∉ex):∃ sl,h1.get? b=some { ob with slots:=sl }:=by
 by_cases hb:b∈fs
 ·exact u.slot b ob q n hb hx
 ·exact ⟨ob.slots,u.keep b ob q n hb hx⟩
theorem Un.kept (k:∀ b u,h.get? b=some u→h'.get? b=some u):Un fs ex H H h h':=
 ⟨fun b ob q _ _ _=>k b ob q,fun b ob q _ _ _=>⟨ob.slots,k b ob q⟩,fun _ _ _ n _=>n,fun b ob q _=>⟨ob,k b ob q⟩,fun _ _ q=>q,fun _ _ _ q=>q,fun _ ps q=>⟨#[],by rw [q];simp⟩⟩
theorem Un.refl:Un fs ex H H h h:=Un.kept fun _ _ q=>q
theorem Un.laid (k:∀ b u,h.get? b=some u→h'.get? b=some u) (hp:h.objs.size≤a) (hn:H a=none):Un fs ex H (upd H a o) h h' where
 keep:=fun b u q _ _ _=>k b u q
 slot:=fun b u q _ _ _=>⟨u.slots,k b u q⟩
 free:=fun b u q n _=>by rw [ao (Nat.ne_of_lt (Nat.lt_of_lt_of_le (Heap.lt_size q) hp))];exact n
 there:=fun b u q _=>⟨u,k b u q⟩
 tups:=fun b xs q=>by rw [ao (aI q hn)];exact q
 l6:=fun b u xs q=>by rw [ao (aI q hn)];exact q
 mG:=fun b ps q=>⟨#[],by rw [ao (aI q hn),q];simp⟩
theorem Un.write (mu:Mut (H x)) (he:e=x∨H e=some (.own x)) (k:∀ b u,b≠e→h.get? b=some u→h'.get? b=some u) (heo:∃ u,h'.get? e=some u):Un fs ex H (upd H x o) h h':=by
 have hx:∀ b,H b=none→b≠x:=fun b n z=>by subst z;rw [n] at mu;exact mu
 have hb:∀ b,H b=none→b≠e:=fun b n z=>by
  subst z
  rcases he with r | r
  ·exact hx b n r
  ·rw [n] at r;cases r
 have hm:∀ b u,H b=some u→¬ Mut (some u)→b≠x:=fun b u q nm z=>by subst z;rw [q] at mu;exact nm mu
 refine ⟨fun b u q n _ _=>k b u (hb b n) q,fun b u q n _ _=>⟨u.slots,k b u (hb b n) q⟩,fun b u q n _=>by rw [ao (hx b n)];exact n,fun b u q _=>?_,
  fun b xs q=>by rw [ao (hm b _ q fun z=>z)];exact q,fun b u xs q=>by rw [ao (hm b _ q fun z=>z)];exact q,fun b ps q=>⟨#[],by rw [ao (hm b _ q fun z=>z),q];simp⟩⟩
 by_cases hbe:b=e
 ·subst hbe;exact heo
 ·exact ⟨u,k b u hbe q⟩
end
noncomputable def trk (h:Heap) (H:Hp):List Addr:=(List.range h.objs.size).filter fun a=>(H a).isSome
noncomputable def qv (h:Heap) (H:Hp):Heap:=PySem.W.hideAll h (trk h H)
theorem yj (h:Heap) (H:Hp):(qv h H).objs.size=h.objs.size:=PySem.W.hideAll_size _ _
theorem zz {h:Heap} {H:Hp} {b:Addr} {o:Obj} (e:h.get? b=some o) (n:H b=none):(qv h H).get? b=some o:=
 PySem.W.hideAll_get _ e fun hm=>by
  have q:(H b).isSome=true:=(List.mem_filter.mp hm).2
  rw [n] at q;simp at q
theorem Df {h:Heap} {H:Hp} {b:Addr} {o:Obj} (e:(qv h H).get? b=some o):h.get? b=some o∧H b=none:=by
 have e':h.get? b=some o:=PySem.W.of_hideAll (trk h H) e
 refine ⟨e',?_⟩
 cases q:H b with
 | none=>rfl
 | some x=>
  have hm:b∈trk h H:=List.mem_filter.mpr ⟨List.mem_range.mpr (Heap.lt_size e'),by simp [q]⟩
  have z:(qv h H).get? b=none:=PySem.W.hideAll_none (trk h H) hm
  rw [z] at e;cases e
structure Mod (K:PySem.W.Frag) (mg:Str→Option Value) (base:Heap):Prop where
 kin:K.In base
 glob:base.Ns mainGlobals mg
 blt:∃ mb,base.Ns builtinsNs mb∧∀ x:Str,x ≠ "__name__" → mb x=bootBuiltins x
 nolimit:base.NoLimit
structure Cx where
 prog:Program
 w:World
 K:PySem.W.Frag
 mg:Str→Option Value
 base:Heap
 A:Around
 N:List Str
 s₀:Shared
 H₀:Hp
 env:Env
 outer:List Env
 stack:List Env
 ex:List Addr
 fn:Str→Bool
 calm:Bool
 pn:List (Addr×Obj)
 xe:Value→Shared→Prop
noncomputable def frs (l:List Env):List Addr:=l.filterMap (·.frame)
noncomputable abbrev Cx.fs (X:Cx):List Addr:=frs X.outer
noncomputable def Vis (sc:Scope) (x:Str):Prop:=sc.names.lookup x=some .local∨sc.names.lookup x=some .cell∨sc.names.lookup x=some .free
noncomputable def Loc (sc:Scope) (x:Str):Prop:=sc.names.lookup x=some .local∨sc.names.lookup x=some .cell
noncomputable def Look (env:Env) (h:Heap) (m:Str→Option Value) (x:Str) (u:Value):Prop:=
 (env.kindOf x=some .local∧m x=some u)∨((env.kindOf x=some .cell∨env.kindOf x=some .free)∧∃ c,env.cells.lookup x=some c∧h.IsCell c (some u))
structure Cx.Ok (X:Cx):Prop where
 mod:Mod X.K X.mg X.base
 kind:X.env.scope.kind=.function
 glob:X.env.globals=mainGlobals
 blt:X.env.builtins=builtinsNs
 above:X.s₀.heap.objs.size≤X.env.locals
 inj:∀ x y c,X.env.cells.lookup x=some c→X.env.cells.lookup y=some c→x=y
 has:∀ x,(X.env.kindOf x=some .cell∨X.env.kindOf x=some .free)→∃ c,X.env.cells.lookup x=some c
 cab:∀ x c,X.fn x=true→X.env.cells.lookup x=some c→X.s₀.heap.objs.size≤c
 hd:X.calm=true→X.A.handled=none
 frames:X.A.frames=some X.stack
 stk:X.stack=X.outer∨(X.stack=X.env::X.outer∧X.env.frame=some X.env.locals)
 exf:∀ b∈X.ex,b≠X.env.locals∧∀ x c,X.env.cells.lookup x=some c→c≠b
 bs:∀ b o,X.base.get? b=some o→X.s₀.heap.get? b=some o∧X.H₀ b=none
 bsz:X.base.objs.size≤X.s₀.heap.objs.size
 zA:∀ b o,X.base.get? b=some o→b∉X.ex
 Dg:∀ b∈X.ex,b∉X.fs
 l7:X.s₀.heap.FunFrames X.base X.outer
 frf:∀ b∈X.fs,X.H₀ b=none
structure Inv (X:Cx) (pins:List (Addr×Obj)) (σ:List (Option V)) (H:Hp) (s:Shared):Prop where
 ok:X.Ok
 os:s.os=X.s₀.os
 bare:AllBare s.gens
 base:Un X.fs X.ex X.H₀ H X.s₀.heap s.heap
 loc:∃ m,s.heap.Ns X.env.locals m∧∀ (i:Nat) (x:Str) (v:V),X.N[i]?=some x→σ[i]?=some (some v)→Vis X.env.scope x→∃ u,RelV v u∧Look X.env s.heap m x u
 cell:∀ x c,X.env.cells.lookup x=some c→∃ v,s.heap.IsCell c v
 free:H X.env.locals=none
 cY:∀ x c,X.env.cells.lookup x=some c→H c=none
 pin:∀ p∈X.pn++pins,s.heap.get? p.1=some p.2∧H p.1=none∧p.1≠X.env.locals∧p.1∉X.fs∧∀ v,p.2.data≠.cell v
 hok:HOk X.prog X.w H s.heap
 len:σ.length=X.N.length
section
variable {X:Cx} {pins:List (Addr×Obj)} {σ:List (Option V)} {H H':Hp} {s:Shared} {h':Heap}
theorem Cx.Ok.MT (ok:X.Ok) {b:Addr} {o:Obj} (e:X.base.get? b=some o):b∉X.fs:=fun hb=>by
 have:=(ok.l7.mem hb).1
 rw [e] at this;cases this
theorem Inv.bs (I:Inv X pins σ H s):∀ b o,X.base.get? b=some o→s.heap.get? b=some o∧H b=none:=fun b o e=>
 ⟨I.base.keep b o (I.ok.bs b o e).1 (I.ok.bs b o e).2 (I.ok.MT e) (I.ok.zA b o e),I.base.free b o (I.ok.bs b o e).1 (I.ok.bs b o e).2 (I.ok.zA b o e)⟩
theorem Inv.bk (I:Inv X pins σ H s):∀ b o,X.base.get? b=some o→s.heap.get? b=some o:=fun b o e=>(I.bs b o e).1
theorem Inv.mod (I:Inv X pins σ H s):Mod X.K X.mg X.base:=I.ok.mod
theorem Inv.kIn (I:Inv X pins σ H s):X.K.In s.heap:=I.ok.mod.kin.keeps I.bk
theorem Inv.lt (I:Inv X pins σ H s):X.env.locals<s.heap.objs.size:=let ⟨_,hn,_⟩:=I.loc;hn.lt
theorem Inv.sz (I:Inv X pins σ H s):X.s₀.heap.objs.size≤s.heap.objs.size:=Nat.le_trans I.ok.above (Nat.le_of_lt I.lt)
theorem Inv.MU (I:Inv X pins σ H s) {a:Addr} (h:s.heap.objs.size≤a):a∉X.fs:=fun hb=>by
 obtain ⟨_,o,ho,_⟩:=I.ok.l7.mem hb
 exact absurd (Nat.lt_of_lt_of_le (Heap.lt_size ho) (Nat.le_trans I.sz h)) (Nat.lt_irrefl _)
theorem Inv.cne (I:Inv X pins σ H s):∀ x c,X.env.cells.lookup x=some c→c≠X.env.locals:=fun x c e z=>by
 obtain ⟨v,o,ho,hd⟩:=I.cell x c e
 obtain ⟨m,⟨o',es,ep,ho',hd',_⟩,_⟩:=I.loc
 rw [z,ho'] at ho;cases ho;rw [hd'] at hd;cases hd
theorem Inv.l7 (I:Inv X pins σ H s):s.heap.FunFrames X.base X.outer:=by
 have all:∀ (l:List Env),(∀ b∈frs l,b∈X.fs)→X.s₀.heap.FunFrames X.base l→s.heap.FunFrames X.base l:=by
  intro l
  induction l with
  | nil=>intro _ _;trivial
  | cons env r ih=>
   intro hs hl
   obtain ⟨hk,⟨L,o,hf,hn,ho,hd⟩,hr⟩:=hl
   have hL:L∈X.fs:=hs L (by unfold frs;rw [List.filterMap_cons,hf];exact List.mem_cons_self)
   obtain ⟨sl,e⟩:=I.base.slot L o ho (I.ok.frf L hL) hL fun z=>I.ok.Dg L z hL
   exact ⟨hk,⟨L,_,hf,hn,e,hd⟩,ih (fun b hb=>hs b (by unfold frs;rw [List.filterMap_cons,hf];exact List.mem_cons_of_mem _ hb)) hr⟩
 exact all X.outer (fun _ hb=>hb) I.ok.l7
theorem Inv.stack (I:Inv X pins σ H s):s.heap.FunFrames X.base X.stack:=by
 rcases I.ok.stk with e | ⟨e,hf⟩
 ·rw [e];exact I.l7
 ·rw [e]
  obtain ⟨m,hn,_⟩:=I.loc
  refine .cons (by rw [I.ok.kind];decide) hf hn ?_ I.l7
  exact Heap.get?_none_of_le (Nat.le_trans I.ok.bsz I.ok.above)
theorem Inv.mH (I:Inv X pins σ H s):∀ b∈frs X.stack,b∈X.env.locals::X.fs:=fun b hb=>by
 rcases I.ok.stk with e | ⟨e,hf⟩
 ·rw [e] at hb;exact List.mem_cons_of_mem _ hb
 ·rw [e] at hb
  unfold frs at hb
  rw [List.filterMap_cons,hf] at hb
  exact hb
theorem Inv.qw (I:Inv X pins σ H s):∀ b∈frs X.stack,H b=none:=fun b hb=>by
 rcases List.mem_cons.mp (I.mH b hb) with e | hb
 ·rw [e];exact I.free
 ·obtain ⟨_,o,ho,_⟩:=I.ok.l7.mem hb
  exact I.base.free b o ho (I.ok.frf b hb) fun z=>I.ok.Dg b z hb
theorem Inv.step {g':Array GenState} {t':Nat} {d':Drawn} {ch:List Addr} (I:Inv X pins σ H s)
  (hch:∀ b∈ch,(b∈X.ex∨X.s₀.heap.objs.size≤b)∧b≠X.env.locals∧(∀ x c,X.env.cells.lookup x=some c→c≠b)∧∀ p∈X.pn++pins,p.1≠b)
  (keep:∀ b o,b≠X.env.locals→b∉X.fs→b∉ch→s.heap.get? b=some o→H b=none→h'.get? b=some o)
  (slot:∀ b o,b≠X.env.locals→b∈X.fs→b∉ch→s.heap.get? b=some o→H b=none→∃ sl,h'.get? b=some { o with slots:=sl }) (free:∀ b o,b∉ch→s.heap.get? b=some o→H b=none→H' b=none)
  (there:∀ b o,b∉ch→s.heap.get? b=some o→∃ o',h'.get? b=some o')
  (tups:∀ b xs,H b=some (.tup xs)→H' b=some (.tup xs)) (l6:∀ b o u,H b=some (.frz o u)→H' b=some (.frz o u)) (mG:∀ b ps,H b=some (.tbl ps)→∃ more,H' b=some (.tbl (ps++more)))
  (ns:∀ m,s.heap.Ns X.env.locals m→h'.Ns X.env.locals m) (hok:HOk X.prog X.w H' h') (hg:AllBare g') :
  Inv X pins σ H' { s with heap:=h',gens:=g',drawn:=d',toks:=t' }:=by
 have neL:∀ b o,X.s₀.heap.get? b=some o→b≠X.env.locals:=fun b o e=>Nat.ne_of_lt (Nat.lt_of_lt_of_le (Heap.lt_size e) I.ok.above)
 have neC:∀ b o,X.s₀.heap.get? b=some o→b∉X.ex→b∉ch:=fun b o e hx hb=>by
  rcases (hch b hb).1 with z | z
  ·exact hx z
  ·exact absurd (Nat.lt_of_lt_of_le (Heap.lt_size e) z) (Nat.lt_irrefl _)
 have cellK:∀ x c,X.env.cells.lookup x=some c→∀ v,s.heap.IsCell c v→h'.IsCell c v:=fun x c e v ⟨o,ho,hd⟩=>by
  have nch:c∉ch:=fun z=>(hch c z).2.2.1 x c e rfl
  by_cases hc:c∈X.fs
  ·obtain ⟨sl,q⟩:=slot c o (I.cne x c e) hc nch ho (I.cY x c e)
   exact ⟨_,q,hd⟩
  ·exact ⟨o,keep c o (I.cne x c e) hc nch ho (I.cY x c e),hd⟩
 refine ⟨I.ok,I.os,hg,⟨fun b o e n hb hx=>?_,fun b o e n hb hx=>?_,fun b o e n hx=>?_,fun b o e hx=>?_,fun b xs e=>tups b xs (I.base.tups b xs e),fun b o xs e=>l6 b o xs (I.base.l6 b o xs e),fun b ps e=>?_⟩,?_,fun x c e=>?_,?_,fun x c e=>?_,fun p hp=>?_,hok,I.len⟩
 ·exact keep b o (neL b o e) hb (neC b o e hx) (I.base.keep b o e n hb hx) (I.base.free b o e n hx)
 ·obtain ⟨sl,e1⟩:=I.base.slot b o e n hb hx
  obtain ⟨sl',e2⟩:=slot b _ (neL b o e) hb (neC b o e hx) e1 (I.base.free b o e n hx)
  exact ⟨sl',e2⟩
 ·obtain ⟨o',e1⟩:=I.base.there b o e hx
  exact free b o' (neC b o e hx) e1 (I.base.free b o e n hx)
 ·obtain ⟨o',e1⟩:=I.base.there b o e hx
  exact there b o' (neC b o e hx) e1
 ·obtain ⟨m1,e1⟩:=I.base.mG b ps e
  obtain ⟨m2,e2⟩:=mG b _ e1
  exact ⟨m1++m2,by rw [e2,Array.append_assoc]⟩
 ·obtain ⟨m,hn,hl⟩:=I.loc
  refine ⟨m,ns m hn,fun i x v e1 e2 e3=>?_⟩
  obtain ⟨u,r,l⟩:=hl i x v e1 e2 e3
  refine ⟨u,r,?_⟩
  rcases l with l | ⟨k,c,e,z⟩
  ·exact .inl l
  ·exact .inr ⟨k,c,e,cellK x c e _ z⟩
 ·obtain ⟨v,z⟩:=I.cell x c e
  exact ⟨v,cellK x c e v z⟩
 ·obtain ⟨m,⟨o,_,_,ho,_⟩,_⟩:=I.loc
  exact free _ o (fun z=>(hch _ z).2.1 rfl) ho I.free
 ·obtain ⟨v,o,ho,hd⟩:=I.cell x c e
  exact free c o (fun z=>(hch c z).2.2.1 x c e rfl) ho (I.cY x c e)
 ·obtain ⟨e,n,ne,nf,d⟩:=I.pin p hp
  have nch:p.1∉ch:=fun z=>(hch p.1 z).2.2.2 p hp rfl
  exact ⟨keep p.1 p.2 ne nf nch e n,free p.1 p.2 nch e n,ne,nf,d⟩
theorem Inv.un {t':Nat} (I:Inv X pins σ H s) (u:Un X.fs [] H H' s.heap h') (hok:HOk X.prog X.w H' h'):Inv X pins σ H' { s with heap:=h',toks:=t' }:=by
 obtain ⟨m,⟨o,es,ep,ho,r⟩,_⟩:=id I.loc
 obtain ⟨sl,hL⟩:=u.any ho I.free (by simp)
 exact I.step (g':=s.gens) (d':=s.drawn) (ch:=[]) (fun _ z=>nomatch z) (fun b o _ hb _ e n=>u.keep b o e n hb (by simp)) (fun b o _ hb _ e n=>u.slot b o e n hb (by simp)) (fun b o _ e n=>u.free b o e n (by simp)) (fun b o _ e=>u.there b o e (by simp)) u.tups u.l6 u.mG (fun m' hm=>by
  obtain ⟨o',es',ep',ho',r'⟩:=hm
  rw [ho] at ho';cases ho'
  exact ⟨_,es',ep',hL,r'⟩) hok I.bare
theorem Inv.call {g':Array GenState} {t':Nat} {d':Drawn} {ch:List Addr} (I:Inv X pins σ H s) (u:Un (frs X.stack) ch H H' s.heap h') (hok:HOk X.prog X.w H' h') (hg:AllBare g')
  (hch:∀ b∈ch,(b∈X.ex∨X.s₀.heap.objs.size≤b)∧b≠X.env.locals∧(∀ x c,X.env.cells.lookup x=some c→c≠b)∧∀ p∈X.pn++pins,p.1≠b) :
  Inv X pins σ H' { s with heap:=h',gens:=g',drawn:=d',toks:=t' }:=by
 obtain ⟨m,⟨o,es,ep,ho,r⟩,_⟩:=id I.loc
 obtain ⟨sl,hL⟩:=u.any ho I.free fun z=>(hch _ z).2.1 rfl
 exact I.step (ch:=ch) hch (fun b o hL hb hc e n=>u.keep b o e n (fun z=>(List.mem_cons.mp (I.mH b z)).elim hL hb) hc) (fun b o _ _ hc e n=>u.any e n hc) (fun b o hc e n=>u.free b o e n hc) (fun b o hc e=>u.there b o e hc) u.tups u.l6 u.mG (fun m' hm=>by
  obtain ⟨o',es',ep',ho',r'⟩:=hm
  rw [ho] at ho';cases ho'
  exact ⟨_,es',ep',hL,r'⟩) hok hg
theorem Inv.turned {t':Nat} {it:Addr} (I:Inv X pins σ H s) (k:∀ b o,b≠it→s.heap.get? b=some o→h'.get? b=some o) (hn:H it=none) (hL:it≠X.env.locals)
  (h1:it∈X.ex∨X.s₀.heap.objs.size≤it) (h2:∀ x c,X.env.cells.lookup x=some c→c≠it) (h3:∀ p∈X.pn++pins,p.1≠it):Inv X pins σ H { s with heap:=h',toks:=t' }:=by
 have nit:∀ b u,H b=some u→b≠it:=fun b u e z=>by rw [z,hn] at e;cases e
 refine I.step (g':=s.gens) (d':=s.drawn) (ch:=[it]) (fun b hb=>?_) (fun b o _ _ hc e _=>k b o (fun z=>hc (by simp [z])) e) (fun b o _ _ hc e _=>⟨o.slots,k b o (fun z=>hc (by simp [z])) e⟩) (fun _ _ _ _ n=>n)
  (fun b o hc e=>⟨o,k b o (fun z=>hc (by simp [z])) e⟩) (fun _ _ e=>e) (fun _ _ _ e=>e) (fun b ps e=>⟨#[],by rw [e];simp⟩) (fun m hm=>?_) (fun b u e=>?_) I.bare
 ·have e:b=it:=by simpa using hb
  subst e
  exact ⟨h1,hL,h2,h3⟩
 ·obtain ⟨o,es,ep,ho,r⟩:=hm
  exact ⟨o,es,ep,k _ o (Ne.symm hL) ho,r⟩
 ·refine (I.hok b u e).stay (fun c v hc q=>k c v ?_ q) (fun _ q=>q) fun _ _ q=>q
  rcases hc with z | z
  ·rw [z];exact nit b u e
  ·exact nit c _ z
theorem Inv.tok (I:Inv X pins σ H s) (t:Nat):Inv X pins σ H { s with toks:=t }:=I.un (h':=s.heap) (t':=t) Un.refl I.hok
theorem Inv.kept {t':Nat} (I:Inv X pins σ H s) (k:∀ b u,s.heap.get? b=some u→h'.get? b=some u):Inv X pins σ H { s with heap:=h',toks:=t' }:=I.un (Un.kept k) (I.hok.kept k)
theorem Inv.laid {a:Addr} {o:HO} {t':Nat} (I:Inv X pins σ H s) (k:∀ b u,s.heap.get? b=some u→h'.get? b=some u) (hp:s.heap.objs.size≤a) (new:aT X.prog X.w (upd H a o) h' a o) :
  Inv X pins σ (upd H a o) { s with heap:=h',toks:=t' }:=I.un (Un.laid k hp (I.hok.fresh hp)) (I.hok.laid k hp new)
theorem Inv.write {x e:Addr} {o:HO} {t':Nat} (I:Inv X pins σ H s) (mu:Mut (H x)) (he:e=x∨H e=some (.own x)) (k:∀ b u,b≠e→s.heap.get? b=some u→h'.get? b=some u) (heo:∃ u,h'.get? e=some u)
  (new:aT X.prog X.w (upd H x o) h' x o):Inv X pins σ (upd H x o) { s with heap:=h',toks:=t' }:=I.un (Un.write mu he k heo) (I.hok.write mu he k heo new)
theorem Inv.wG {Fi:List (Addr×Obj)} (I:Inv X pins σ H s) (h:∀ p∈Fi,s.heap.get? p.1=some p.2∧H p.1=none∧p.1≠X.env.locals∧p.1∉X.fs∧∀ v,p.2.data≠.cell v):Inv X Fi σ H s:=
 ⟨I.ok,I.os,I.bare,I.base,I.loc,I.cell,I.free,I.cY,fun p hp=>(List.mem_append.mp hp).elim (fun z=>I.pin p (List.mem_append_left _ z)) (h p),I.hok,I.len⟩
theorem mJ {N:List Str} (hN:N.Nodup) {i j:Nat} {x:Str} (a:N[i]?=some x) (b:N[j]?=some x):i=j:=by
 obtain ⟨h1,e1⟩:=List.getElem?_eq_some_iff.mp a
 obtain ⟨h2,e2⟩:=List.getElem?_eq_some_iff.mp b
 exact (List.getElem_inj hN).mp (e1.trans e2.symm)
theorem kC {M:Model} {A:Around} {E:Value→Shared→Prop} {i:Nat} {x:Str} {v:V} {u:Value} {Q:Unit→Shared→Prop} (I:Inv X pins σ H s) (hN:X.N.Nodup) (hi:X.N[i]?=some x) (hx:Loc X.env.scope x) (r:RelV v u)
  (h:∀ s',Inv X pins (σ.set i (some v)) H s'→(∃ a,Heap.SameBut a s.heap s'.heap∧(a=X.env.locals∨X.env.cells.lookup x=some a))→Q () s') (hf:X.fn x=true∨X.env.scope.names.lookup x=some .local:=by first | exact .inl rfl | exact .inr rfl | assumption):wpAny M A (storeName X.env x u) Q E s:=by
 obtain ⟨m,hn,hl⟩:=id I.loc
 have hcls:(X.env.scope.kind == .class||(X.env.scope.kind == .module&&X.env.locals != X.env.globals))=false:=by rw [I.ok.kind];rfl
 have hiσ:i<σ.length:=by rw [I.len];exact (List.getElem?_eq_some_iff.mp hi).1
 have cne:=I.cne
 have tracked:∀ {a:Addr} {h':Heap},(∃ o,s.heap.get? a=some o∧H a=none)→Heap.SameBut a s.heap h'→HOk X.prog X.w H h':=fun {a h'} ha hs b ob e=>by
  obtain ⟨_,_,hfree⟩:=ha
  refine (I.hok b ob e).stay (fun c w' hc q=>(hs.2 c ?_).trans q) (fun _ q=>q) fun _ _ q=>q
  rintro rfl
  rcases hc with rfl | hc
  ·rw [hfree] at e;cases e
  ·rw [hfree] at hc;cases hc
 rcases hx with hk | hk
 ·refine wpAny_storeName_local hk hn (fun h' hn' hs=>?_) hcls
  obtain ⟨oL,_,_,hoL,_⟩:=id hn
  refine h _ ⟨I.ok,I.os,I.bare,⟨fun b o e n hb hx=>?_,fun b o e n hb hx=>?_,I.base.free,fun b o e hx=>?_,I.base.tups,I.base.l6,I.base.mG⟩,⟨_,hn',fun j y v' e1 e2 e3=>?_⟩,fun y c e=>?_,I.free,I.cY,fun p hp=>?_,tracked ⟨oL,hoL,I.free⟩ hs,by simpa using I.len⟩ ⟨_,hs,.inl rfl⟩
  ·exact (hs.2 b (Nat.ne_of_lt (Nat.lt_of_lt_of_le (Heap.lt_size e) I.ok.above))).trans (I.base.keep b o e n hb hx)
  ·obtain ⟨sl,e1⟩:=I.base.slot b o e n hb hx
   exact ⟨sl,(hs.2 b (Nat.ne_of_lt (Nat.lt_of_lt_of_le (Heap.lt_size e) I.ok.above))).trans e1⟩
  ·obtain ⟨o',e1⟩:=I.base.there b o e hx
   exact ⟨o',(hs.2 b (Nat.ne_of_lt (Nat.lt_of_lt_of_le (Heap.lt_size e) I.ok.above))).trans e1⟩
  ·by_cases hj:j=i
   ·subst hj
    rw [hi] at e1;cases e1
    rw [List.getElem?_set_self hiσ] at e2
    cases e2
    exact ⟨u,r,.inl ⟨hk,by simp⟩⟩
   ·rw [List.getElem?_set_ne (Ne.symm hj)] at e2
    obtain ⟨u',r',q⟩:=hl j y v' e1 e2 e3
    refine ⟨u',r',?_⟩
    rcases q with ⟨k,e⟩ | ⟨k,c,e,z⟩
    ·refine .inl ⟨k,?_⟩
     have:y≠x:=fun e=>hj (mJ hN e1 (e▸hi))
     simp [this,e]
    ·exact .inr ⟨k,c,e,z.sameBut hs (cne y c e)⟩
  ·obtain ⟨w',z⟩:=I.cell y c e
   exact ⟨w',z.sameBut hs (cne y c e)⟩
  ·obtain ⟨e,n,ne,nf,d⟩:=I.pin p hp
   exact ⟨(hs.2 p.1 ne).trans e,n,ne,nf,d⟩
 ·have hfn:X.fn x=true:=by
   rcases hf with z | z
   ·exact z
   ·rw [z] at hk;cases hk
  obtain ⟨c,hc⟩:=I.ok.has x (.inl hk)
  obtain ⟨w',z⟩:=I.cell x c hc
  refine wpAny_storeName_cell I.ok.kind hk hc z (fun h' hc' hs=>?_)
  obtain ⟨oc,hoc,MV⟩:=id z
  refine h { s with heap:=h' } ⟨I.ok,I.os,I.bare,⟨fun b o e n hb hx=>?_,fun b o e n hb hx=>?_,I.base.free,fun b o e hx=>?_,I.base.tups,I.base.l6,I.base.mG⟩,⟨m,hn.sameBut hs (Ne.symm (cne x c hc)),fun j y v' e1 e2 e3=>?_⟩,fun y c' e=>?_,I.free,I.cY,fun p hp=>?_,tracked ⟨oc,hoc,I.cY x c hc⟩ hs,by simpa using I.len⟩ ⟨c,hs,.inr hc⟩
  ·exact (hs.2 b (Nat.ne_of_lt (Nat.lt_of_lt_of_le (Heap.lt_size e) (I.ok.cab x c hfn hc)))).trans (I.base.keep b o e n hb hx)
  ·obtain ⟨sl,e1⟩:=I.base.slot b o e n hb hx
   exact ⟨sl,(hs.2 b (Nat.ne_of_lt (Nat.lt_of_lt_of_le (Heap.lt_size e) (I.ok.cab x c hfn hc)))).trans e1⟩
  ·obtain ⟨o',e1⟩:=I.base.there b o e hx
   exact ⟨o',(hs.2 b (Nat.ne_of_lt (Nat.lt_of_lt_of_le (Heap.lt_size e) (I.ok.cab x c hfn hc)))).trans e1⟩
  ·by_cases hj:j=i
   ·subst hj
    rw [hi] at e1;cases e1
    rw [List.getElem?_set_self hiσ] at e2
    cases e2
    exact ⟨u,r,.inr ⟨.inl hk,c,hc,hc'⟩⟩
   ·rw [List.getElem?_set_ne (Ne.symm hj)] at e2
    obtain ⟨u',r',q⟩:=hl j y v' e1 e2 e3
    refine ⟨u',r',?_⟩
    rcases q with q | ⟨k,c',e,z'⟩
    ·exact .inl q
    ·refine .inr ⟨k,c',e,z'.sameBut hs ?_⟩
     rintro rfl
     exact hj (mJ hN e1 (I.ok.inj _ _ _ e hc▸hi))
  ·by_cases hcc:c'=c
   ·subst hcc;exact ⟨_,hc'⟩
   ·obtain ⟨w2,z2⟩:=I.cell y c' e
    exact ⟨w2,z2.sameBut hs hcc⟩
  ·obtain ⟨e,n,ne,nf,d⟩:=I.pin p hp
   refine ⟨(hs.2 p.1 ?_).trans e,n,ne,nf,d⟩
   intro q
   rw [q,hoc] at e
   have q':oc=p.2:=Option.some.inj e
   exact d w' (by rw [← q'];exact MV)
theorem rY {M:Model} {A:Around} {E:Value→Shared→Prop} {i:Nat} {x:Str} {v:V} {u:Value} {Q:Unit→Shared→Prop} (I:Inv X pins σ H s) (hN:X.N.Nodup) (hi:X.N[i]?=some x) (hx:Loc X.env.scope x) (r:RelV v u)
  (h:∀ s',Inv X pins (σ.set i (some v)) H s'→Q () s') (hf:X.fn x=true∨X.env.scope.names.lookup x=some .local:=by first | exact .inl rfl | exact .inr rfl | assumption):wpAny M A (storeName X.env x u) Q E s:=
 kC I hN hi hx r (fun s' I' _=>h s' I') hf
theorem Inv.Kn {s':Shared} {ch:List Addr} (I:Inv X pins σ H s) (ho:s'.os=s.os) (u:Un (frs X.stack) ch H H' s.heap s'.heap) (hok:HOk X.prog X.w H' s'.heap) (hg:AllBare s'.gens)
  (hch:∀ b∈ch,(b∈X.ex∨X.s₀.heap.objs.size≤b)∧b≠X.env.locals∧(∀ x c,X.env.cells.lookup x=some c→c≠b)∧∀ p∈X.pn++pins,p.1≠b):Inv X pins σ H' s':=by
 obtain ⟨h',g',d',t',o'⟩:=s'
 have e:o'=s.os:=ho
 subst e
 exact I.call (g':=g') (t':=t') (d':=d') u hok hg hch
end
noncomputable abbrev XK:=Value→Option Addr→Hp→Prop
noncomputable abbrev St:=List (Option V)
noncomputable abbrev VK:=V→Hp→Prop
noncomputable abbrev TE:=St→Hp→VK→Prop
noncomputable abbrev TT:=St→Hp→(Bool→Hp→Prop)→Prop
noncomputable abbrev TA:=St→Hp→(List V→Hp→Prop)→Prop
structure Ends where
 nx:St→Hp→Prop
 rt:VK
 bk:St→Hp→Prop:=fun _ _=>False
 ct:St→Hp→Prop:=fun _ _=>False
noncomputable abbrev TS:=Ends→St→Hp→Prop
noncomputable def EP (X:Cx) (pins:List (Addr×Obj)) (σ:St) (Q:VK) (u:Value) (s':Shared):Prop:=∃ v H',Inv X pins σ H' s'∧RelV v u∧Q v H'
noncomputable def TP (X:Cx) (pins:List (Addr×Obj)) (σ:St) (Q:Bool→Hp→Prop) (b:Bool) (s':Shared):Prop:=∃ H',Inv X pins σ H' s'∧Q b H'
noncomputable def AP (X:Cx) (pins:List (Addr×Obj)) (σ:St) (Q:List V→Hp→Prop) (us:List Value) (s':Shared):Prop:=∃ vs H',Inv X pins σ H' s'∧Vals vs us∧Q vs H'
noncomputable def SP (X:Cx) (pins:List (Addr×Obj)) (D:Ends) (f:Flow) (s':Shared):Prop:=
 match f with
 | .next=>∃ σ' H',Inv X pins σ' H' s'∧D.nx σ' H'
 | .brk=>∃ σ' H',Inv X pins σ' H' s'∧D.bk σ' H'
 | .cont=>∃ σ' H',Inv X pins σ' H' s'∧D.ct σ' H'
 | .ret u=>∃ v σ' H',Inv X pins σ' H' s'∧RelV v u∧D.rt v H'
noncomputable def PE (X:Cx) (e:Expr) (t:TE):Prop:=
 ∀ (pins:List (Addr×Obj)) (s:Shared) (σ:St) (H:Hp) (Q:VK),Inv X pins σ H s→t σ H Q→wpAny (model X.prog X.w) X.A (eval e X.env) (EP X pins σ Q) X.xe s
noncomputable def PT (X:Cx) (e:Expr) (t:TT):Prop:=
 ∀ (pins:List (Addr×Obj)) (s:Shared) (σ:St) (H:Hp) (Q:Bool→Hp→Prop),Inv X pins σ H s→t σ H Q→wpAny (model X.prog X.w) X.A (isTrue e X.env (eval e X.env)) (TP X pins σ Q) X.xe s
noncomputable def PW (X:Cx) (e:Expr) (t:TT):Prop:=
 ∀ (whole:Sem Value) (pins:List (Addr×Obj)) (s:Shared) (σ:St) (H:Hp) (Q:Bool→Hp→Prop),Inv X pins σ H s→t σ H Q→wpAny (model X.prog X.w) X.A (isTrue e X.env whole) (TP X pins σ Q) X.xe s
theorem PW.pt {X:Cx} {e:Expr} {t:TT} (h:PW X e t):PT X e t:=h _
noncomputable def PA (X:Cx) (es:List Expr) (t:TA):Prop:=
 ∀ (pos:Pos) (pins:List (Addr×Obj)) (s:Shared) (σ:St) (H:Hp) (Q:List V→Hp→Prop),Inv X pins σ H s→t σ H Q→wpAny (model X.prog X.w) X.A (spliced (backTo pos (starEach es X.env))) (AP X pins σ Q) X.xe s
noncomputable def PS (X:Cx) (st:Stmt) (t:TS):Prop:=
 ∀ (pins:List (Addr×Obj)) (s:Shared) (σ:St) (H:Hp) (D:Ends),Inv X pins σ H s→t D σ H→wpAny (model X.prog X.w) X.A (exec st X.env) (SP X pins D) X.xe s
noncomputable def PSs (X:Cx) (st:List Stmt) (t:TS):Prop:=
 ∀ (pins:List (Addr×Obj)) (s:Shared) (σ:St) (H:Hp) (D:Ends),Inv X pins σ H s→t D σ H→wpAny (model X.prog X.w) X.A (execs st X.env) (SP X pins D) X.xe s
theorem thn {α:Type} {t:Sem α} {Q Q':α→Shared→Prop} {M:Model} {A:Around} {E:Value→Shared→Prop} {s:Shared} (h:wpAny M A t Q E s) (hQ:∀ a s,Q a s→Q' a s):wpAny M A t Q' E s:=wpAny_mono h hQ fun _ _ x=>x
section
variable {X:Cx}
noncomputable def rZ (i:Nat):TE:=fun σ H Q=>∃ v,σ[i]?=some (some v)∧Q v H
noncomputable def tC (v:V):TE:=fun _ H Q=>Q v H
theorem iz {i:Nat} {x:Str} {pos:Pos} (hN:X.N[i]?=some x) (hv:Vis X.env.scope x) (hd:(x == ("__debug__" : Str))=false:=by decide) (hcd:(x == ("__classdict__" : Str))=false:=by decide):PE X (.Name x pos) (rZ i):=by
 intro pins s σ H Q I h
 obtain ⟨v,e,h⟩:=h
 obtain ⟨m,hn,hl⟩:=I.loc
 obtain ⟨u,r,l⟩:=hl i x v hN e hv
 have fin:EP X pins σ Q u s:=⟨v,H,I,r,h⟩
 rcases l with ⟨hk,hm⟩ | ⟨hk,c,hc,hcell⟩
 ·exact wpAny_Name (wpAny_loadName_local I.ok.kind hk hn hm fin) hd
 ·rcases hk with hk | hk
  ·exact wpAny_Name (wpAny_loadName_cell I.ok.kind hk hc hcell fin) hd
  ·exact wpAny_Name (wpAny_loadName_free I.ok.kind hk hc hcell fin hcd) hd
theorem GN {i j pos}:PE X (.Constant (.int i) j pos) (tC (.int i)):=fun _ _ _ H _ I h=>wpAny_Constant_int ⟨.int i,H,I.tok _,⟨_,rfl⟩,h⟩
theorem Ko {b j pos}:PE X (.Constant (.bool b) j pos) (tC (.bl b)):=fun _ _ _ H _ I h=>Constant_bool ⟨.bl b,H,I,rfl,h⟩
theorem GO {j pos}:PE X (.Constant .none j pos) (tC .non):=fun _ _ _ H _ I h=>Constant_none ⟨.non,H,I,rfl,h⟩
theorem GP {x j pos}:PE X (.Constant (.str x) j pos) (tC (.str x)):=fun _ _ _ H _ I h=>Calls.Constant_str ⟨.str x,H,I.tok _,⟨_,rfl⟩,h⟩
noncomputable def Gl (X:Cx) (x:Str):Prop:=X.env.kindOf x=some .globalImplicit
theorem gS {E:Value→Shared→Prop} {pins:List (Addr×Obj)} {s:Shared} {σ:St} {H:Hp} {x:Str} {u:Value} {pos:Pos} {Q:Value→Shared→Prop} (I:Inv X pins σ H s) (hg:Gl X x) (hm:X.mg x=some u) (h:Q u s)
  (hd:(x == ("__debug__" : Str))=false:=by decide):wpAny (model X.prog X.w) X.A (eval (.Name x pos) X.env) Q E s:=
 Calls.Name_function_global I.ok.kind hg (Calls.loadGlobal_global (by rw [I.ok.glob];exact I.mod.glob.keeps I.bk) hm h) hd
theorem dU {E:Value→Shared→Prop} {pins:List (Addr×Obj)} {s:Shared} {σ:St} {H:Hp} {x:Str} {u:Value} {pos:Pos} {Q:Value→Shared→Prop} (I:Inv X pins σ H s) (hg:Gl X x) (hm:X.mg x=none) (hv:bootBuiltins x=some u) (h:Q u s)
  (hn:x ≠ "__name__" := by decide) (hd:(x == ("__debug__" : Str))=false:=by decide):wpAny (model X.prog X.w) X.A (eval (.Name x pos) X.env) Q E s:=by
 obtain ⟨mb,h1,h2⟩:=I.mod.blt
 exact Calls.Name_function_global I.ok.kind hg (Calls.loadGlobal_builtin (by rw [I.ok.glob];exact I.mod.glob.keeps I.bk) hm (by rw [I.ok.blt];exact h1.keeps I.bk) ((h2 x hn).trans hv) h) hd
theorem qx {x:Str} {v:V} {u:Value} {pos:Pos} (hg:Gl X x) (hm:X.mg x=some u) (r:RelV v u) (hd:(x == ("__debug__" : Str))=false:=by decide):PE X (.Name x pos) (tC v):=
 fun _ _ _ H _ I h=>gS I hg hm ⟨v,H,I,r,h⟩ hd
theorem wH {x:Str} {v:V} {u:Value} {pos:Pos} (hg:Gl X x) (hm:X.mg x=none) (hv:bootBuiltins x=some u) (r:RelV v u) (hn:x ≠ "__name__" := by decide) (hd:(x == ("__debug__" : Str))=false:=by decide):PE X (.Name x pos) (tC v):=
 fun _ _ _ H _ I h=>dU I hg hm hv ⟨v,H,I,r,h⟩ hn hd
variable {a b:Expr} {ta tb:TE} {pos:Pos}
noncomputable def PC (X:Cx) (op:CmpOp) (a b:Expr) (t:TE):Prop:=
 ∀ (pins:List (Addr×Obj)) (s:Shared) (σ:St) (H:Hp) (Q:VK),Inv X pins σ H s→t σ H Q →
  wpAny (model X.prog X.w) X.A (eval a X.env) (fun v s₁=>wpAny (model X.prog X.w) X.A (eval b X.env) (fun u s₂=>wpAny (model X.prog X.w) X.A (compareOp op v u) (EP X pins σ Q) X.xe s₂) X.xe s₁) X.xe s
noncomputable def tB (t:TE):TT:=fun σ H Q=>t σ H fun x H1=>∃ c,x=.bl c∧Q c H1
theorem zB {op:CmpOp} {t:TE} (h:PC X op a b t) (h1:behindInMarks op b=false:=by first | exact Kp _ (by decide) (by decide) | rfl):PT X (.Compare a [op] [b] pos) (tB t):=by
 intro pins s σ H Q I hw
 refine wpAny_isTrue_Compare1 (thn (h pins s σ H _ I hw) fun v s1 h1=>thn h1 fun u s2 h2=>thn h2 fun c s3 ⟨x,H1,I1,r1,q1⟩=>?_) h1
 obtain ⟨d,rfl,q⟩:=q1
 cases r1
 exact wpAny_truthy_bool ⟨H1,I1,q⟩
theorem GQ {e:Expr} {t:TE} (h:PE X e t) (he:∀ whole,isTrue e X.env whole=(do let v ← whole;standAt e.pos;holding [v] (truthy v)):=by intro _;rfl):PT X e (tB t):=by
 intro pins s σ H Q I hw
 refine isTrue_plain (thn (h pins s σ H _ I hw) fun v s1 ⟨x,H1,I1,r1,q1⟩=>?_) (he _)
 obtain ⟨d,rfl,q⟩:=q1
 cases r1
 exact wpAny_truthy_bool ⟨H1,I1,q⟩
variable {tA tB':TT} {rest:List Expr}
noncomputable def pC (t u:TT):TT:=fun σ H Q=>t σ H fun c H1=>if c=true then u σ H1 Q else Q false H1
noncomputable def tOr (t u:TT):TT:=fun σ H Q=>t σ H fun c H1=>if c=true then Q true H1 else u σ H1 Q
noncomputable def d8 (t:TT):TT:=fun σ H Q=>t σ H fun c H1=>Q (!c) H1
theorem pw_and1 (ha:PT X a tA):PW X (.BoolOp .And [a] pos) tA:=by
 intro wh pins s σ H Q I h
 refine isTrue_and (thn (ha pins s σ H Q I h) fun c s1 e=>?_)
 cases c with
 | true=>exact isTrue_and_nil e
 | false=>exact e
theorem pw_or1 (ha:PT X a tA):PW X (.BoolOp .Or [a] pos) tA:=by
 intro wh pins s σ H Q I h
 refine isTrue_or (thn (ha pins s σ H Q I h) fun c s1 e=>?_)
 cases c with
 | false=>exact isTrue_or_nil e
 | true=>exact e
theorem pw_and (ha:PT X a tA) (hb:PW X (.BoolOp .And (b::rest) pos) tB'):PW X (.BoolOp .And (a::b::rest) pos) (pC tA tB'):=by
 intro wh pins s σ H Q I h
 refine isTrue_and (thn (ha pins s σ H _ I h) fun c s1 ⟨H1,I1,q1⟩=>?_)
 cases c with
 | true=>exact hb wh pins s1 σ H1 Q I1 q1
 | false=>exact ⟨H1,I1,q1⟩
theorem pw_or (ha:PT X a tA) (hb:PW X (.BoolOp .Or (b::rest) pos) tB'):PW X (.BoolOp .Or (a::b::rest) pos) (tOr tA tB'):=by
 intro wh pins s σ H Q I h
 refine isTrue_or (thn (ha pins s σ H _ I h) fun c s1 ⟨H1,I1,q1⟩=>?_)
 cases c with
 | true=>exact ⟨H1,I1,q1⟩
 | false=>exact hb wh pins s1 σ H1 Q I1 q1
theorem GR (ha:PT X a tA):PT X (.UnaryOp .Not a pos) (d8 tA):=by
 intro pins s σ H Q I h
 exact isTrue_not (ha pins s σ H (fun c H1=>Q (!c) H1) I h)
noncomputable def Fj (ta tb:TE):TE:=fun σ H Q=>ta σ H fun x H1=>∃ c,x=.bl c∧if c=true then tb σ H1 Q else Q (.bl false) H1
noncomputable def Kq (ta tb:TE):TE:=fun σ H Q=>ta σ H fun x H1=>∃ c,x=.bl c∧if c=true then Q (.bl true) H1 else tb σ H1 Q
noncomputable def Fo (ta:TE):TE:=fun σ H Q=>ta σ H fun x H1=>∃ c,x=.bl c∧Q (.bl (!c)) H1
theorem GS {op} {t:TE} (h:PE X a t):PE X (.BoolOp op [a] pos) t:=fun pins s σ H Q I hw=>BoolOp_one (h pins s σ H Q I hw)
theorem GU (ha:PE X a ta) (hb:PE X (.BoolOp .And (b::rest) pos) tb):PE X (.BoolOp .And (a::b::rest) pos) (Fj ta tb):=by
 intro pins s σ H Q I h
 refine BoolOp_and (thn (ha pins s σ H _ I h) fun v s1 ⟨x,H1,I1,r1,q1⟩=>?_)
 obtain ⟨c,rfl,q1⟩:=q1
 cases r1
 refine wpAny_truthy_bool ?_
 cases c with
 | true=>exact hb pins s1 σ H1 Q I1 q1
 | false=>exact ⟨.bl false,H1,I1,rfl,q1⟩
theorem Kr (ha:PE X a ta) (hb:PE X (.BoolOp .Or (b::rest) pos) tb):PE X (.BoolOp .Or (a::b::rest) pos) (Kq ta tb):=by
 intro pins s σ H Q I h
 refine BoolOp_or (thn (ha pins s σ H _ I h) fun v s1 ⟨x,H1,I1,r1,q1⟩=>?_)
 obtain ⟨c,rfl,q1⟩:=q1
 cases r1
 refine wpAny_truthy_bool ?_
 cases c with
 | false=>exact hb pins s1 σ H1 Q I1 q1
 | true=>exact ⟨.bl true,H1,I1,rfl,q1⟩
theorem GV (ha:PE X a ta):PE X (.UnaryOp .Not a pos) (Fo ta):=by
 intro pins s σ H Q I h
 refine UnaryOp_ (thn (ha pins s σ H _ I h) fun v s1 ⟨x,H1,I1,r1,q1⟩=>?_)
 obtain ⟨c,rfl,q1⟩:=q1
 cases r1
 exact not_of (wpAny_truthy_bool ⟨.bl (!c),H1,I1,rfl,q1⟩)
noncomputable def tIf (t:TT) (ta tb:TE):TE:=fun σ H Q=>t σ H fun c H1=>if c=true then ta σ H1 Q else tb σ H1 Q
theorem zC {c:Expr} (hc:PT X c tA) (ha:PE X a ta) (hb:PE X b tb):PE X (.IfExp c a b pos) (tIf tA ta tb):=by
 intro pins s σ H Q I h
 refine wpAny_IfExp (thn (hc pins s σ H _ I h) fun d s1 ⟨H1,I1,q1⟩=>?_)
 cases d with
 | true=>exact ha pins s1 σ H1 Q I1 q1
 | false=>exact hb pins s1 σ H1 Q I1 q1
end
noncomputable def SqL (K:PySem.W.Frag) (H:Hp) (a:Addr) (xs:List V):Prop:=
 Rd H a (.lst xs) ∨
  ∃ (o:Obj) (its:Array Value) (n:Nat),K.lookup a=some o∧o.cls=.type "list" ∧ o.dict=none∧o.data=.seq its n∧its.size≤sizeLine∧Vals xs its.toList
noncomputable def SqT (K:PySem.W.Frag) (H:Hp) (a:Addr) (xs:List V):Prop:=
 Rd H a (.tup xs) ∨
  ∃ (o:Obj) (its:Array Value) (n:Nat),K.lookup a=some o∧o.cls=.type "tuple" ∧ o.data=.seq its n∧its.size≤sizeLine∧Vals xs its.toList
noncomputable def MW:Value→Option V
 | .none=>some .non
 | .bool b=>some (.bl b)
 | .int i _=>some (.int i)
 | .str x _=>some (.str x)
 | .bytes b _=>some (.byt b)
 | .float b _=>some (.flt b)
 | .ref a=>some (.ref a)
 | .type n=>some (.ty n)
 | _=>none
theorem RelV.abs {x:V} {u:Value} (r:RelV x u):MW u=some x:=by
 cases x with
 | non=>cases r;rfl
 | bl _=>cases r;rfl
 | int _=>obtain ⟨t,rfl⟩:=r;rfl
 | str _=>obtain ⟨t,rfl⟩:=r;rfl
 | byt _=>obtain ⟨t,rfl⟩:=r;rfl
 | flt _=>obtain ⟨t,rfl⟩:=r;rfl
 | ref _=>cases r;rfl
 | ty _=>cases r;rfl
theorem RelV.inj {x y:V} {u:Value} (r:RelV x u) (q:RelV y u):x=y:=Option.some.inj (r.abs.symm.trans q.abs)
theorem Vals.inj:∀ {xs ys:List V} {us:List Value},Vals xs us→Vals ys us→xs=ys
 | _,_,_,.nil,.nil=>rfl
 | _,_,_,.cons r t,.cons r' t'=>by rw [r.inj r',Vals.inj t t']
section
variable {X:Cx} {pins:List (Addr×Obj)} {σ:St} {H:Hp} {s:Shared} {a:Addr} {xs ys:List V}
theorem SqT.of {K:PySem.W.Frag} (h:H a=some (.tup xs)):SqT K H a xs:=.inl (.inl h)
theorem Inv.list (I:Inv X pins σ H s) (h:SqL X.K H a xs):∃ its:List Value,Vals xs its∧PlainL s.heap a its.toArray∧xs.length≤sizeLine:=by
 rcases h with h | ⟨o,its,n,hk,hc,hd,hs,hz,r⟩
 ·obtain ⟨z,its,n,r,e⟩:=h.ok I.hok
  exact ⟨its,r,⟨_,n,e,rfl,rfl,rfl⟩,z⟩
 ·refine ⟨its.toList,r,⟨o,n,I.kIn a o hk,hc,hd,by simpa using hs⟩,?_⟩
  have e:=r.length
  simp only [Array.length_toList] at e
  omega
theorem Inv.tuple (I:Inv X pins σ H s) (h:SqT X.K H a xs):∃ its:List Value,Vals xs its∧IsTup s.heap a its.toArray∧xs.length≤sizeLine:=by
 rcases h with h | ⟨o,its,n,hk,hc,hs,hz,r⟩
 ·obtain ⟨z,its,r,p⟩:=h.ok I.hok
  exact ⟨its,r,p,z⟩
 ·refine ⟨its.toList,r,⟨o,I.kIn a o hk,hc,n,by simpa using hs⟩,?_⟩
  have e:=r.length
  simp only [Array.length_toList] at e
  omega
theorem Inv.fU (I:Inv X pins σ H s) (h:SqL X.K H a xs) (h':SqL X.K H a ys):xs=ys:=by
 obtain ⟨its,r,⟨o,n,e,_,_,d⟩,_⟩:=I.list h
 obtain ⟨its',r',⟨o',n',e',_,_,d'⟩,_⟩:=I.list h'
 rw [e] at e';cases e'
 rw [d] at d'
 injection d' with d1 _
 have:its=its':=by simpa using congrArg Array.toList d1
 subst this
 exact r.inj r'
theorem Inv.yk (I:Inv X pins σ H s) (h:SqT X.K H a xs) (h':SqT X.K H a ys):xs=ys:=by
 obtain ⟨its,r,⟨o,e,_,n,d⟩,_⟩:=I.tuple h
 obtain ⟨its',r',⟨o',e',_,n',d'⟩,_⟩:=I.tuple h'
 rw [e] at e';cases e'
 rw [d] at d'
 injection d' with d1 _
 have:its=its':=by simpa using congrArg Array.toList d1
 subst this
 exact r.inj r'
end
noncomputable abbrev Cx.pD (X:Cx) (E:Value→Shared→Prop):Cx:={ X with xe:=E }
noncomputable abbrev Cx.nox (X:Cx):Cx:=X.pD fun _ _=>False
theorem Cx.Ok.pD {X:Cx} (ok:X.Ok) (E:Value→Shared→Prop):(X.pD E).Ok:=
 ⟨ok.mod,ok.kind,ok.glob,ok.blt,ok.above,ok.inj,ok.has,ok.cab,ok.hd,ok.frames,ok.stk,ok.exf,ok.bs,ok.bsz,ok.zA,ok.Dg,ok.l7,ok.frf⟩
theorem Cx.Ok.fV {X:Cx} {E:Value→Shared→Prop} (ok:(X.pD E).Ok):X.Ok:=
 ⟨ok.mod,ok.kind,ok.glob,ok.blt,ok.above,ok.inj,ok.has,ok.cab,ok.hd,ok.frames,ok.stk,ok.exf,ok.bs,ok.bsz,ok.zA,ok.Dg,ok.l7,ok.frf⟩
section
variable {X:Cx} {pins:List (Addr×Obj)} {σ:St} {H:Hp} {s:Shared} {E:Value→Shared→Prop}
theorem Inv.pD (I:Inv X pins σ H s) (E:Value→Shared→Prop):Inv (X.pD E) pins σ H s:=⟨I.ok.pD E,I.os,I.bare,I.base,I.loc,I.cell,I.free,I.cY,I.pin,I.hok,I.len⟩
theorem Inv.fV (I:Inv (X.pD E) pins σ H s):Inv X pins σ H s:=⟨I.ok.fV,I.os,I.bare,I.base,I.loc,I.cell,I.free,I.cY,I.pin,I.hok,I.len⟩
theorem SP.fV {D:Ends} {f:Flow} {s':Shared} (h:SP (X.pD E) pins D f s'):SP X pins D f s':=by
 cases f with
 | next=>obtain ⟨σ',H',I,q⟩:=h;exact ⟨σ',H',I.fV,q⟩
 | brk=>obtain ⟨σ',H',I,q⟩:=h;exact ⟨σ',H',I.fV,q⟩
 | cont=>obtain ⟨σ',H',I,q⟩:=h;exact ⟨σ',H',I.fV,q⟩
 | ret u=>obtain ⟨v,σ',H',I,r,q⟩:=h;exact ⟨v,σ',H',I.fV,r,q⟩
theorem PSs.nox {st:List Stmt} {t:TS} (h:PSs X.nox st t):PSs X st t:=fun pins s σ H D I hw=>
 wpAny_mono (h pins s σ H D (I.pD _) hw) (fun _ _ q=>q.fV) fun _ _ z=>False.elim z
end
section
variable {X:Cx} {st:Stmt} {rest:List Stmt} {t u:TS} {e:Expr} {te:TE} {pos:Pos}
noncomputable def zD:TS:=fun D σ H=>D.nx σ H
noncomputable def yl (t u:TS):TS:=fun D σ H=>t { D with nx:=u D } σ H
theorem wI:PSs X [] zD:=fun _ _ σ H _ I h=>wpAny_execs_nil ⟨σ,H,I,h⟩
theorem fW (h1:PS X st t) (h2:PSs X rest u):PSs X (st::rest) (yl t u):=by
 intro pins s σ H D I h
 refine wpAny_execs_cons (thn (h1 pins s σ H { D with nx:=u D } I h) fun f s1 q=>?_)
 cases f with
 | next=>
  obtain ⟨σ',H',I',q⟩:=q
  exact h2 pins s1 σ' H' D I' q
 | ret v=>exact q
 | brk=>exact q
 | cont=>exact q
theorem wJ (h1:PS X st t):PSs X [st] t:=by
 intro pins s σ H D I h
 refine wpAny_execs_cons (thn (h1 pins s σ H D I h) fun f s1 q=>?_)
 cases f with
 | next=>exact wpAny_execs_nil q
 | ret v=>exact q
 | brk=>exact q
 | cont=>exact q
theorem Inv.quiet {pins:List (Addr×Obj)} {σ:St} {H:Hp} {s:Shared} (I:Inv X pins σ H s):interactive X.env=false:=by simp [interactive,I.ok.kind]
noncomputable def wK (te:TE):TS:=fun D σ H=>te σ H fun _ H1=>D.nx σ H1
theorem mh (he:PE X e te) (hs:swapsWith e none pos.line X.env=pure false:=by rfl):PS X (.Expr e pos) (wK te):=by
 intro pins s σ H D I h
 exact wpAny_Expr_any (thn (he pins s σ H _ I h) fun v s1 ⟨x,H1,I1,r1,q1⟩=>⟨σ,H1,I1,q1⟩) I.quiet hs
noncomputable def Ks (te:TE):TS:=fun D σ H=>te σ H D.rt
theorem zF (he:PE X e te):PS X (.Return (some e) pos) (Ks te):=by
 intro pins s σ H D I h
 exact wpAny_Return_some (thn (he pins s σ H _ I h) fun v s1 ⟨x,H1,I1,r1,q1⟩=>⟨x,σ,H1,I1,r1,q1⟩)
noncomputable def GW (c:TT) (t u:TS):TS:=fun D σ H=>c σ H fun b H1=>if b=true then t D σ H1 else u D σ H1
theorem zG {c:Expr} {a b:List Stmt} {tc:TT} (hc:PT X c tc) (ha:PSs X a t) (hb:PSs X b u):PS X (.If c a b pos) (GW tc t u):=by
 intro pins s σ H D I h
 refine wpAny_If (thn (hc pins s σ H _ I h) fun d s1 ⟨H1,I1,q1⟩=>?_)
 cases d with
 | true=>exact ha pins s1 σ H1 D I1 q1
 | false=>exact hb pins s1 σ H1 D I1 q1
noncomputable def GX:TS:=fun _ _ _=>False
theorem zH:PS X st GX:=fun _ _ _ _ _ _ h=>h.elim
end
noncomputable abbrev TG:=V→St→Hp→(St→Hp→Prop)→Prop
noncomputable abbrev TGs:=List V→St→Hp→(St→Hp→Prop)→Prop
noncomputable def PG (X:Cx) (target:Expr) (t:TG):Prop:=
 ∀ (pins:List (Addr×Obj)) (s:Shared) (σ:St) (H:Hp) (v:V) (u:Value) (Q:St→Hp→Prop),Inv X pins σ H s→RelV v u→t v σ H Q →
  wpAny (model X.prog X.w) X.A (assign target X.env u) (fun _ s'=>∃ σ' H',Inv X pins σ' H' s'∧Q σ' H') X.xe s
noncomputable def PGs (X:Cx) (ts:List Expr) (t:TGs):Prop:=
 ∀ (pins:List (Addr×Obj)) (s:Shared) (σ:St) (H:Hp) (vs:List V) (us:List Value) (Q:St→Hp→Prop),Inv X pins σ H s→Vals vs us→t vs σ H Q →
  wpAny (model X.prog X.w) X.A (assignInOrder ((assignEach ts X.env).map (·.2)) us) (fun _ s'=>∃ σ' H',Inv X pins σ' H' s'∧Q σ' H') X.xe s
noncomputable abbrev GY:=V→V→V→Hp→(Hp→Prop)→Prop
noncomputable def Ku (X:Cx) (t:GY):Prop:=
 ∀ (pins:List (Addr×Obj)) (s:Shared) (σ:St) (H:Hp) (o i v:V) (ov iv u:Value) (Q:Hp→Prop),Inv X pins σ H s→RelV o ov→RelV i iv→RelV v u→t o i v H Q →
  wpAny (model X.prog X.w) X.A (setItem ov iv u) (fun _ s'=>∃ H',Inv X pins σ H' s'∧Q H') X.xe s
section
variable {X:Cx} {pos:Pos}
noncomputable def jH (i:Nat):TG:=fun v σ H Q=>Q (σ.set i (some v)) H
theorem qy {i:Nat} {x:Str} (hN:X.N.Nodup) (hi:X.N[i]?=some x) (hx:Loc X.env.scope x) (hf:X.fn x=true∨X.env.scope.names.lookup x=some .local:=by first | exact .inl rfl | exact .inr rfl | assumption):PG X (.Name x pos) (jH i):=by
 intro pins s σ H v u Q I r h
 exact wpAny_assign_Name (rY I hN hi hx r (fun s' I'=>⟨_,H,I',h⟩) hf)
noncomputable def Kv:TGs:=fun vs σ H Q=>vs=[]∧Q σ H
noncomputable def Fp (t:TG) (u:TGs):TGs:=fun vs σ H Q=>∃ v r,vs=v::r∧t v σ H fun σ' H'=>u r σ' H' Q
theorem Dh:PGs X [] Kv:=by
 intro pins s σ H vs us Q I r h
 obtain ⟨e,h⟩:=h
 subst e
 cases r
 exact assignInOrder_nil ⟨σ,H,I,h⟩
theorem zI {e:Expr} {es:List Expr} {t:TG} {u:TGs} (h1:PG X e t) (h2:PGs X es u)
  (hs:(assignEach (e::es) X.env).map (·.2)=assign e X.env::(assignEach es X.env).map (·.2):=by rfl):PGs X (e::es) (Fp t u):=by
 intro pins s σ H vs us Q I r h
 obtain ⟨v,vr,e1,h⟩:=h
 subst e1
 cases r with
 | cons r rr=>
  rw [hs]
  refine assignInOrder_cons (thn (h1 pins s σ H _ _ _ I r h) fun _ s1 ⟨σ1,H1,I1,q1⟩=>?_)
  exact h2 pins s1 σ1 H1 _ _ Q I1 rr q1
noncomputable def GZ (K:PySem.W.Frag) (n:Nat) (t:TGs):TG:=fun v σ H Q=>∃ a xs,v=.ref a∧SqT K H a xs∧xs.length=n∧t xs σ H Q
theorem uW {es:List Expr} {k:Nat} {t:TGs} {n:Nat} (hc:X.calm=true) (h:PGs X es t)
  (hn:(assignEach es X.env).length=n:=by rfl) (hst:(assignEach es X.env).findIdx? (·.1)=none:=by rfl):PG X (.Tuple es k pos) (GZ X.K n t):=by
 intro pins s σ H v u Q I r hw
 obtain ⟨a,xs,e1,hq,hl,hw⟩:=hw
 subst e1
 cases r
 obtain ⟨its,rv,ht,hz⟩:=I.tuple hq
 refine assign_Tuple_tuple (I.ok.hd hc) ht (by simp [hn,← hl,rv.length]) hst fun h' hx=>?_
 have I1:Inv X pins σ H { s with heap:=h' }:=I.kept (t':=s.toks) fun b o e=>hx b o (Nat.ne_of_lt (Heap.lt_size e)) e
 exact h pins _ σ H xs _ Q I1 (by simpa using rv) hw
noncomputable def fR (to ti:TE) (t:GY):TG:=fun v σ H Q=>to σ H fun o H1=>ti σ H1 fun i H2=>t o i v H2 fun H3=>Q σ H3
theorem G0 {o i:Expr} {to ti:TE} {t:GY} (ho:PE X o to) (hi:PE X i ti) (hs:Ku X t)
  (ha:∀ v,assign (.Subscript o i pos) X.env v=(do
   let ov ← holding [v] (eval o X.env)
   let iv ← holding [v,ov] (eval i X.env)
   standAt pos
   holding [v,ov,iv] (setItem ov iv v)
   release [v,ov,iv] []):=by intro _;rfl):PG X (.Subscript o i pos) (fR to ti t):=by
 intro pins s σ H v u Q I r h
 rw [ha]
 refine wpAny_bind (wpAny_holding (thn (ho pins s σ H _ I h) fun ov s1 ⟨x,H1,I1,r1,q1⟩=>?_))
 refine wpAny_bind (wpAny_holding (thn (hi pins s1 σ H1 _ I1 q1) fun iv s2 ⟨y,H2,I2,r2,q2⟩=>?_))
 refine wpAny_bind (wpAny_standAt (wpAny_bind (wpAny_holding (thn (hs pins s2 σ H2 x y v ov iv u _ I2 r1 r2 r q2) fun _ s3 ⟨H3,I3,q3⟩=>?_))))
 exact wpAny_release ⟨σ,H3,I3,q3⟩
noncomputable def uX (te:TE) (g:TG):TS:=fun D σ H=>te σ H fun x H1=>g x σ H1 D.nx
theorem zJ {tg e:Expr} {te:TE} {g:TG} (he:PE X e te) (hg:PG X tg g) (hs:swapsWithSole [tg] e pos.line X.env=pure false:=by rfl) (hw:swappedStores [tg] e X.env=pure none:=by rfl)
  (h1:(assignEach [tg] X.env).map (·.2)=[assign tg X.env]:=by rfl):PS X (.Assign [tg] e pos) (uX te g):=by
 intro pins s σ H D I h
 refine wpAny_Assign_stores (thn (he pins s σ H _ I h) fun v s1 ⟨x,H1,I1,r1,q1⟩=>?_) hs hw
 rw [h1]
 exact thn (hg pins s1 σ H1 x v _ I1 r1 q1) fun _ s2 q=>q
theorem G1 {i:Nat} {x:Str} {e:Expr} {te:TE} {pos':Pos} (hN:X.N.Nodup) (hi:X.N[i]?=some x) (hx:Loc X.env.scope x) (he:PE X e te) (hs:swapsWith e (some (.Name x pos')) pos.line X.env=pure false:=by rfl) (hf:X.fn x=true∨X.env.scope.names.lookup x=some .local:=by first | exact .inl rfl | exact .inr rfl | assumption) :
  PS X (.Assign [.Name x pos'] e pos) (uX te (jH i)):=by
 intro pins s σ H D I h
 refine wpAny_Assign_Name (thn (he pins s σ H _ I h) fun v s1 ⟨y,H1,I1,r1,q1⟩=>?_) hs
 exact rY I1 hN hi hx r1 (fun s2 I2=>⟨_,H1,I2,q1⟩) hf
end
section
variable {X:Cx} {pos:Pos}
noncomputable def zK (c:TT) (tb:TS):TS:=fun D σ H=>∃ W:Nat→St→Hp→Prop,(∃ m,W m σ H)∧∀ m σ H,W m σ H →
 c σ H fun b H1=>if b=true then ∃ N:St→Hp→Prop,(∀ σ' H',N σ' H'→∃ m',m'<m∧W m' σ' H')∧tb { D with nx:=N,ct:=N,bk:=D.nx } σ H1 else D.nx σ H1
theorem zL {c:Expr} {body:List Stmt} {tc:TT} {tb:TS} (hp:PassesOwn (model X.prog X.w) X.A X.env X.xe) (hc:PT X c tc) (hb:PSs X body tb):PS X (.While c body [] pos) (zK tc tb):=by
 intro pins s σ H D I h
 obtain ⟨W,⟨m0,w0⟩,turn⟩:=h
 refine wpAny_While (codeAny_whileLoop (fun n s'=>∃ σ' H',Inv X pins σ' H' s'∧W n σ' H') ?_ m0 ⟨σ,H,I,w0⟩)
 rintro n s1 ⟨σ1,H1,I1,w1⟩
 refine wpAny_passesOwn hp (thn (hc pins s1 σ1 H1 _ I1 (turn n σ1 H1 w1)) fun b s2 ⟨H2,I2,q2⟩=>?_)
 cases b with
 | true=>
  obtain ⟨N,hN,q2⟩:=q2
  rw [if_pos rfl]
  refine wpAny_passesOwn hp (thn (hb pins s2 σ1 H2 _ I2 q2) fun f s3 q3=>?_)
  cases f with
  | next=>
   obtain ⟨σ3,H3,I3,n3⟩:=q3
   obtain ⟨m',hm,w3⟩:=hN σ3 H3 n3
   exact ⟨m',hm,σ3,H3,I3,w3⟩
  | cont=>
   obtain ⟨σ3,H3,I3,n3⟩:=q3
   obtain ⟨m',hm,w3⟩:=hN σ3 H3 n3
   exact ⟨m',hm,σ3,H3,I3,w3⟩
  | brk=>exact q3
  | ret v=>exact q3
 | false=>
  rw [if_neg Bool.false_ne_true]
  exact wpAny_execs_nil ⟨σ1,H2,I2,q2⟩
end
structure It where
 go:Nat→Hp→Prop
 yld:Nat→Hp→V→Hp→Prop
 stop:Nat→Hp→Prop
noncomputable def pF (X:Cx) (pins:List (Addr×Obj)) (H:Hp) (b:Addr):Prop:=
 H b=none∧b≠X.env.locals∧b∉X.fs∧(b∈X.ex∨X.s₀.heap.objs.size≤b)∧(∀ x c,X.env.cells.lookup x=some c→c≠b)∧∀ p∈X.pn++pins,p.1≠b
theorem Inv.ym {X:Cx} {pins:List (Addr×Obj)} {σ:St} {H H':Hp} {s:Shared} {b:Addr} (I:Inv X pins σ H s) (hb:s.heap.objs.size≤b) (hn:H' b=none):pF X pins H' b:=by
 refine ⟨hn,Nat.ne_of_gt (Nat.lt_of_lt_of_le I.lt hb),I.MU hb,.inr (Nat.le_trans I.sz hb),fun x c e z=>?_,fun p hp z=>?_⟩
 ·obtain ⟨v,q⟩:=I.cell x c e
  exact absurd (Nat.lt_of_lt_of_le q.lt (by rw [z];exact hb)) (Nat.lt_irrefl _)
 ·exact absurd (Nat.lt_of_lt_of_le (Heap.lt_size (I.pin p hp).1) (by rw [z];exact hb)) (Nat.lt_irrefl _)
structure Turn (P:Program) (w:World) (K:PySem.W.Frag) (tg:Expr) (J:It) (fp:List Addr) (it:Addr) (tn:Nat→Heap→Prop):Prop where
 mem:it∈fp
 obj:∀ i h,tn i h→∀ b∈fp,∃ o,h.get? b=some o∧∀ v,o.data≠.cell v
 keep:∀ i h h',tn i h→(∀ b∈fp,∀ o,h.get? b=some o→h'.get? b=some o)→tn i h'
 item:∀ (X:Cx),X.prog=P→X.w=w→X.K=K→X.calm=true→∀ (i:Nat) (pins:List (Addr×Obj)) (s:Shared) (σ:St) (H:Hp) (E:Value→Shared→Prop),Inv X pins σ H s→(∀ b∈fp,pF X pins H b)→tn i s.heap→J.go i H →
  wpAny (model P w) X.A (pyNext (.ref it)) (fun r s1=>∃ u,r=some u ∧
   wpAny (model P w) X.A (letOwnedTupleGo tg (.ref it) u) (fun _ s2=>∃ x H',Inv X pins σ H' s2∧RelV x u∧J.yld i H x H'∧tn (i+1) s2.heap∧∀ b∈fp,H' b=none) E s1) E s
 done:∀ (X:Cx),X.prog=P→X.w=w→X.K=K→X.calm=true→∀ (i:Nat) (pins:List (Addr×Obj)) (s:Shared) (σ:St) (H:Hp) (E:Value→Shared→Prop),Inv X pins σ H s→(∀ b∈fp,pF X pins H b)→tn i s.heap→J.stop i H →
  wpAny (model P w) X.A (pyNext (.ref it)) (fun r s1=>r=none∧Inv X pins σ H s1) E s
 self:∀ (A:Around) (i:Nat) (s:Shared) (Q:Value→Shared→Prop) (E:Value→Shared→Prop),tn i s.heap→Q (.ref it) s→wpAny (model P w) A (pyIter (.ref it)) Q E s
noncomputable abbrev TI:=St→Hp→(It→Hp→Prop)→Prop
noncomputable def PIE (X:Cx) (pins:List (Addr×Obj)) (σ:St) (tg:Expr) (R:It→Hp→Prop) (itv:Value) (s2:Shared):Prop:=
 ∃ (it:Addr) (fp:List Addr) (tn:Nat→Heap→Prop) (J:It) (H':Hp),itv=.ref it∧Inv X pins σ H' s2∧Turn X.prog X.w X.K tg J fp it tn∧tn 0 s2.heap∧(∀ b∈fp,pF X pins H' b)∧R J H'
noncomputable def PI (X:Cx) (tg iter:Expr) (wi:TI):Prop:=
 ∀ (pins:List (Addr×Obj)) (s:Shared) (σ:St) (H:Hp) (R:It→Hp→Prop),Inv X pins σ H s→wi σ H R →
  wpAny (model X.prog X.w) X.A (eval iter X.env) (fun v s1=>wpAny (model X.prog X.w) X.A (pyIter v) (PIE X pins σ tg R) X.xe s1) X.xe s
theorem wL {M:Model} {A:Around} {E:Value→Shared→Prop} {s:Shared} {tg:Expr} {it:Addr} {u:Value} {o:Obj} {n:String} {vs:Array Value} {Q:Unit→Shared→Prop} (ho:s.heap.get? it=some o) (hc:o.cls=.type n) (hd:o.data=.fields vs)
  (hn:["enumerate","zip","dict_itemiterator","dict_reverseitemiterator","odict_iterator","itertools.zip_longest","itertools.pairwise"].contains n=false) (hQ:Q () s):wpAny M A (letOwnedTupleGo tg (.ref it) u) Q E s:=by
 unfold letOwnedTupleGo
 cases tg<;>first
  | exact wpAny_pure hQ
  | (cases u<;>first
    | exact wpAny_pure hQ
    | (refine wpAny_bind (wpAny_load ho ?_)
       rw [hc,hd]
       show wpAny M A (if (["enumerate","zip","dict_itemiterator","dict_reverseitemiterator","odict_iterator","itertools.zip_longest","itertools.pairwise"].contains n&&vs[0]? == some (rawInt _))=true then _ else _) Q E s
       rw [if_neg (by intro h;rw [hn,Bool.false_and] at h;cases h)]
       exact wpAny_pure hQ))
noncomputable def Itl (K:PySem.W.Frag) (a:Addr):It:=
 ⟨fun i H=>∃ xs x,SqL K H a xs∧xs[i]?=some x,fun i H x H'=>H'=H∧∀ xs,SqL K H a xs→xs[i]?=some x,fun i H=>∃ xs,SqL K H a xs∧xs.length≤i⟩
noncomputable def Itt (K:PySem.W.Frag) (a:Addr):It:=
 ⟨fun i H=>∃ xs x,SqT K H a xs∧xs[i]?=some x,fun i H x H'=>H'=H∧∀ xs,SqT K H a xs→xs[i]?=some x,fun i H=>∃ xs,SqT K H a xs∧xs.length≤i⟩
noncomputable def Itr (lo:Int) (n:Nat):It:=⟨fun i _=>i<n,fun i H x H'=>H'=H∧x=.int (lo+i),fun i _=>n≤i⟩
theorem yo {P:Program} {w:World} {K:PySem.W.Frag} {tg:Expr} (a it:Addr):Turn P w K tg (Itl K a) [it] it (fun i h=>h.IsListIter it a i) where
 mem:=by simp
 obj:=fun i h st b hb=>by
  have e:b=it:=by simpa using hb
  subst e
  obtain ⟨o,e,c,d⟩:=st
  exact ⟨o,e,fun v z=>by rw [d] at z;cases z⟩
 keep:=fun i h h' st k=>st.at fun o e=>k it (by simp) o e
 item:=by
  intro X hP hw hK hc i pins s σ H E I hf st hg
  subst hP hw hK
  obtain ⟨xs,x,hq,hx⟩:=hg
  obtain ⟨its,rv,p,hz⟩:=I.list hq
  obtain ⟨u,hu,ru⟩:=rv.get hx
  obtain ⟨f0,f1,f2,f3,f4,f5⟩:=hf it (by simp)
  refine wpAny_pyNext_list_item st p.isList (x:=u) (by simpa using hu) fun h' st' sb=>?_
  have I1:Inv X pins σ H { s with heap:=h' }:=I.turned (t':=s.toks) (fun b o hb e=>(sb.2 b hb).trans e) f0 f1 f3 f4 f5
  obtain ⟨o,e,c,d⟩:=id st'
  exact ⟨u,rfl,wL (s:={ s with heap:=h' }) e c d (by decide) ⟨x,H,I1,ru,⟨rfl,fun ys hy=>by rw [I.fU hy hq];exact hx⟩,st',fun b hb=>(hf b hb).1⟩⟩
 done:=by
  intro X hP hw hK hc i pins s σ H E I hf st hg
  subst hP hw hK
  obtain ⟨xs,hq,hx⟩:=hg
  obtain ⟨its,rv,p,hz⟩:=I.list hq
  obtain ⟨f0,f1,f2,f3,f4,f5⟩:=hf it (by simp)
  have hl:=rv.length
  exact wpAny_pyNext_list_end (I.ok.hd hc) st p.isList (by simp;omega) fun h' eb=>⟨rfl,I.turned (t':=s.toks) (fun b o hb e=>eb b o hb e) f0 f1 f3 f4 f5⟩
 self:=fun _ _ _ _ _ st h=>wpAny_pyIter_listiter st h
theorem uY {P:Program} {w:World} {K:PySem.W.Frag} {tg:Expr} (a it:Addr):Turn P w K tg (Itt K a) [it] it (fun i h=>h.IsTupleIter it a i) where
 mem:=by simp
 obj:=fun i h st b hb=>by
  have e:b=it:=by simpa using hb
  subst e
  obtain ⟨o,e,c,d⟩:=st
  exact ⟨o,e,fun v z=>by rw [d] at z;cases z⟩
 keep:=fun i h h' st k=>st.at fun o e=>k it (by simp) o e
 item:=by
  intro X hP hw hK hc i pins s σ H E I hf st hg
  subst hP hw hK
  obtain ⟨xs,x,hq,hx⟩:=hg
  obtain ⟨its,rv,p,hz⟩:=I.tuple hq
  obtain ⟨u,hu,ru⟩:=rv.get hx
  obtain ⟨f0,f1,f2,f3,f4,f5⟩:=hf it (by simp)
  refine wpAny_pyNext_tuple_item st (show s.heap.IsTuple a its.toArray from p) (x:=u) (by simpa using hu) fun h' st' sb=>?_
  have I1:Inv X pins σ H { s with heap:=h' }:=I.turned (t':=s.toks) (fun b o hb e=>(sb.2 b hb).trans e) f0 f1 f3 f4 f5
  obtain ⟨o,e,c,d⟩:=id st'
  exact ⟨u,rfl,wL (s:={ s with heap:=h' }) e c d (by decide) ⟨x,H,I1,ru,⟨rfl,fun ys hy=>by rw [I.yk hy hq];exact hx⟩,st',fun b hb=>(hf b hb).1⟩⟩
 done:=by
  intro X hP hw hK hc i pins s σ H E I hf st hg
  subst hP hw hK
  obtain ⟨xs,hq,hx⟩:=hg
  obtain ⟨its,rv,p,hz⟩:=I.tuple hq
  obtain ⟨f0,f1,f2,f3,f4,f5⟩:=hf it (by simp)
  have hl:=rv.length
  exact wpAny_pyNext_tuple_end (I.ok.hd hc) st (show s.heap.IsTuple a its.toArray from p) (by simp;omega) fun h' eb=>⟨rfl,I.turned (t':=s.toks) (fun b o hb e=>eb b o hb e) f0 f1 f3 f4 f5⟩
 self:=fun _ _ _ _ _ st h=>wpAny_pyIter_tupleiter st h
theorem uZ {P:Program} {w:World} {K:PySem.W.Frag} {tg:Expr} (it:Addr) (lo:Int) (n:Nat):Turn P w K tg (Itr lo n) [it] it (fun i h=>IsRangeIter h it (lo+(i:Nat)*1) ((n:Int)-(i:Nat)) 1) where
 mem:=by simp
 obj:=fun i h st b hb=>by
  have e:b=it:=by simpa using hb
  subst e
  exact ⟨_,st,fun v z=>by
   have z':Data.fields _=Data.cell v:=z
   cases z'⟩
 keep:=fun i h h' st k=>k it (by simp) _ st
 item:=by
  intro X hP hw hK hc i pins s σ H E I hf st hg
  subst hP hw hK
  obtain ⟨f0,f1,f2,f3,f4,f5⟩:=hf it (by simp)
  have W:=Walks.range (prog:=X.prog) (w:=X.w) (I.ok.hd hc) it lo 1 n
  refine W.item i s _ _ hg st fun v h' tk hv st' kk=>?_
  obtain ⟨t,rfl⟩:=hv
  have I1:Inv X pins σ H { s with heap:=h',toks:=tk }:=I.turned (fun b o hb e=>kk b o (by simpa using hb) e) f0 f1 f3 f4 f5
  refine ⟨_,rfl,wL (s:={ s with heap:=h',toks:=tk }) (n := "range_iterator") st' rfl rfl (by decide) ⟨.int (lo+i),H,I1,⟨t,?_⟩,⟨rfl,rfl⟩,st',fun b hb=>(hf b hb).1⟩⟩
  rw [Int.mul_one]
 done:=by
  intro X hP hw hK hc i pins s σ H E I hf st hg
  subst hP hw hK
  obtain ⟨f0,f1,f2,f3,f4,f5⟩:=hf it (by simp)
  exact wpAny_pyNext_range_end (I.ok.hd hc) st (by have:n≤i:=hg;omega) fun h' eb=>⟨rfl,I.turned (t':=s.toks) (fun b o hb e=>eb b o hb e) f0 f1 f3 f4 f5⟩
 self:=fun _ _ _ _ _ st h=>wpAny_pyIter_rangeiter st h
section
variable {X:Cx} {tg:Expr}
noncomputable def r8 (K:PySem.W.Frag) (tl:TE):TI:=fun σ H R=>tl σ H fun x H1=>∃ a,x=.ref a∧(∃ xs,SqL K H1 a xs)∧R (Itl K a) H1
noncomputable def zM (K:PySem.W.Frag) (tl:TE):TI:=fun σ H R=>tl σ H fun x H1=>∃ a,x=.ref a∧(∃ xs,SqT K H1 a xs)∧R (Itt K a) H1
theorem wM {l:Expr} {tl:TE} (hl:PE X l tl):PI X tg l (r8 X.K tl):=by
 intro pins s σ H R I h
 refine thn (hl pins s σ H _ I h) fun v s1 ⟨x,H1,I1,r1,q1⟩=>?_
 obtain ⟨a,e,⟨xs,hq⟩,q⟩:=q1
 subst e
 cases r1
 obtain ⟨its,rv,p,hz⟩:=I1.list hq
 refine wpAny_pyIter_list p.isList ?_
 refine ⟨s1.heap.objs.size,[s1.heap.objs.size],_,_,H1,rfl,I1.kept (t':=s1.toks) fun b o e=>Heap.get?_push_of_some _ e,yo a _,⟨_,Heap.get?_push_size _ rfl,rfl,rfl⟩,fun b hb=>?_,q⟩
 have e:b=s1.heap.objs.size:=by simpa using hb
 subst e
 exact I1.ym (Nat.le_refl _) (I1.hok.fresh (Nat.le_refl _))
theorem zN {l:Expr} {tl:TE} (hl:PE X l tl):PI X tg l (zM X.K tl):=by
 intro pins s σ H R I h
 refine thn (hl pins s σ H _ I h) fun v s1 ⟨x,H1,I1,r1,q1⟩=>?_
 obtain ⟨a,e,⟨xs,hq⟩,q⟩:=q1
 subst e
 cases r1
 obtain ⟨its,rv,p,hz⟩:=I1.tuple hq
 refine wpAny_pyIter_tuple (show s1.heap.IsTuple a its.toArray from p) ?_
 refine ⟨s1.heap.objs.size,[s1.heap.objs.size],_,_,H1,rfl,I1.kept (t':=s1.toks) fun b o e=>Heap.get?_push_of_some _ e,uY a _,⟨_,Heap.get?_push_size _ rfl,rfl,rfl⟩,fun b hb=>?_,q⟩
 have e:b=s1.heap.objs.size:=by simpa using hb
 subst e
 exact I1.ym (Nat.le_refl _) (I1.hok.fresh (Nat.le_refl _))
theorem r9 {pins:List (Addr×Obj)} {σ:St} {H:Hp} {s:Shared} {R:It→Hp→Prop} {E:Value→Shared→Prop} {lo hi:Int} {t u v:Tok} {tk:Nat} (I:Inv X pins σ H s) (h1:-(2 ^ 62)≤lo) (h2:lo<2 ^ 62) (h3:-(2 ^ 62)≤hi) (h4:hi<2 ^ 62)
  (q:R (Itr lo (hi-lo).toNat) H):wpAny (model X.prog X.w) X.A (pyIter (.ref s.heap.objs.size)) (PIE X pins σ tg R) E { s with heap:=s.heap.push { cls:=.type "range",data:=.fields #[.int lo t,.int hi u,.int 1 v] },toks:=tk }:=by
 refine wpAny_pyIter_range (IsRange.new ..) (small_one h1 h2 h3 h4) ?_
 have I1:Inv X pins σ H { s with heap:=s.heap.push { cls:=.type "range",data:=.fields #[.int lo t,.int hi u,.int 1 v] },toks:=tk }:=I.kept fun b o e=>Heap.get?_push_of_some _ e
 refine ⟨(s.heap.push { cls:=.type "range",data:=.fields #[.int lo t,.int hi u,.int 1 v] }).objs.size,[(s.heap.push { cls:=.type "range",data:=.fields #[.int lo t,.int hi u,.int 1 v] }).objs.size],_,_,H,rfl,
  I1.kept (t':=tk) fun b o e=>Heap.get?_push_of_some _ e,uZ _ lo (hi-lo).toNat,?_,fun b hb=>?_,q⟩
 ·have e1:lo+((0:Nat):Int)*1=lo:=by simp
  have e2:(((hi-lo).toNat:Nat):Int)-((0:Nat):Int)=Builtin.Range.rangeSize lo hi 1:=by rw [rangeSize_one];split<;>omega
  show IsRangeIter _ _ (lo+((0:Nat):Int)*1) ((((hi-lo).toNat:Nat):Int)-((0:Nat):Int)) 1
  rw [e1,e2]
  exact Heap.get?_push_size _ rfl
 ·have e:b=(s.heap.push { cls:=.type "range",data:=.fields #[.int lo t,.int hi u,.int 1 v] }).objs.size:=by simpa using hb
  subst e
  exact I1.ym (Nat.le_refl _) (I1.hok.fresh (Nat.le_refl _))
noncomputable def Fq (ta:TA):TI:=fun σ H R=>ta σ H fun vs H1=>∃ j:Int,vs=[.int j]∧-(2 ^ 62)≤j∧j<2 ^ 62∧R (Itr 0 j.toNat) H1
noncomputable def Ft (ta:TA):TI:=fun σ H R=>ta σ H fun vs H1=>∃ i j:Int,vs=[.int i,.int j]∧(-(2 ^ 62)≤i∧i<2 ^ 62∧-(2 ^ 62)≤j∧j<2 ^ 62)∧R (Itr i (j-i).toNat) H1
theorem yp {a:Expr} {ta:TA} {p pos:Pos} (hg:Gl X "range") (hm:X.mg "range" = none) (ha:PA X [a] ta) (hs:starEach [a] X.env=[(false,eval a X.env)]:=by rfl):PI X tg (.Call (.Name "range" p) [a] [] pos) (Fq ta):=by
 intro pins s σ H R I h
 refine Call_ (dU I hg hm boot_range (PyProof.Rows.callWith_type1 (thn (ha pos pins s σ H _ I h) fun us s1 ⟨vs,H1,I1,r1,q1⟩=>?_) hs rfl))
 obtain ⟨j,e,q1,q2,q⟩:=q1
 subst e
 cases r1 with
 | cons r rr=>
  cases rr
  obtain ⟨t,rfl⟩:=r
  exact call_range_1 (r9 I1 (by omega) (by omega) q1 q2 (by simpa using q))
theorem yq {a b:Expr} {ta:TA} {p pos:Pos} (hg:Gl X "range") (hm:X.mg "range" = none) (ha:PA X [a,b] ta) (hs:starEach [a,b] X.env=[(false,eval a X.env),(false,eval b X.env)]:=by rfl) (hs2:starEach [b] X.env=[(false,eval b X.env)]:=by rfl) :
  PI X tg (.Call (.Name "range" p) [a,b] [] pos) (Ft ta):=by
 intro pins s σ H R I h
 refine Call_ (dU I hg hm boot_range (PyProof.Rows.callWith_type1 (thn (ha pos pins s σ H _ I h) fun us s1 ⟨vs,H1,I1,r1,q1⟩=>?_) (by rw [hs,hs2]) (by rw [hs2];rfl)))
 obtain ⟨i,j,e,⟨q1,q2,q3,q4⟩,q⟩:=q1
 subst e
 cases r1 with
 | cons r rr=>
  cases rr with
  | cons r' rr=>
   cases rr
   obtain ⟨t,rfl⟩:=r
   obtain ⟨t',rfl⟩:=r'
   exact call_range_2 (r9 I1 q1 q2 q3 q4 q)
noncomputable def G3 (wi:TI) (g:TG) (tb:TS):TS:=fun D σ H=>wi σ H fun J H1=>∃ W:Nat→Nat→St→Hp→Prop,(∃ m,W 0 m σ H1)∧∀ i m σ H,W i m σ H →
 (J.stop i H∧D.nx σ H)∨(J.go i H∧∃ N:St→Hp→Prop,(∀ σ' H',N σ' H'→∃ m',m'<m∧W (i+1) m' σ' H')∧∀ x H',J.yld i H x H'→g x σ H' fun σ2 H2=>tb { D with nx:=N,ct:=N,bk:=D.nx } σ2 H2)
noncomputable def mK (fp:List Addr) (h:Heap):List (Addr×Obj):=fp.filterMap fun b=>(h.get? b).map fun o=>(b,o)
theorem e7 {fp:List Addr} {h:Heap} {b:Addr} {o:Obj} (hb:b∈fp) (e:h.get? b=some o):(b,o)∈mK fp h:=List.mem_filterMap.mpr ⟨b,hb,by rw [e];rfl⟩
theorem yr {fp:List Addr} {h:Heap} {p:Addr×Obj} (hp:p∈mK fp h):p.1∈fp∧h.get? p.1=some p.2:=by
 obtain ⟨b,hb,e⟩:=List.mem_filterMap.mp hp
 cases q:h.get? b with
 | none=>rw [q] at e;cases e
 | some o=>
  rw [q] at e
  have e':(b,o)=p:=Option.some.inj e
  subst e'
  exact ⟨hb,q⟩
theorem Inv.pinned {pins:List (Addr×Obj)} {σ:St} {H:Hp} {s:Shared} {fp:List Addr} (I:Inv X pins σ H s) (hf:∀ b∈fp,pF X pins H b) (ho:∀ b∈fp,∃ o,s.heap.get? b=some o∧∀ v,o.data≠.cell v):Inv X (pins++mK fp s.heap) σ H s:=
 I.wG fun p hp=>(List.mem_append.mp hp).elim (fun z=>I.pin p (List.mem_append_right _ z)) fun z=>by
  obtain ⟨hb,e⟩:=yr z
  obtain ⟨f0,f1,f2,_⟩:=hf p.1 hb
  obtain ⟨o,e',d⟩:=ho p.1 hb
  rw [e] at e';cases e'
  exact ⟨e,f0,f1,f2,d⟩
theorem Inv.jI {pins pl:List (Addr×Obj)} {σ:St} {H:Hp} {s:Shared} (I:Inv X (pins++pl) σ H s):Inv X pins σ H s:=I.wG fun p hp=>I.pin p (List.mem_append_right _ (List.mem_append_left _ hp))
theorem zO {iter:Expr} {body:List Stmt} {wi:TI} {g:TG} {tb:TS} {pos:Pos} (hp:PassesOwn (model X.prog X.w) X.A X.env X.xe) (hc:X.calm=true) (hi:PI X tg iter wi) (hg:PG X tg g) (hb:PSs X body tb)
  (hs:∀ x,foldedSetIterable iter X.env x=pure x:=by intro _;rfl):PS X (.For tg iter body [] pos) (G3 wi g tb):=by
 intro pins s σ H D I h
 refine wpAny_For (thn (hi pins s σ H _ I h) fun v s1 h1=>thn h1 fun itv s2 h2=>?_) hs
 obtain ⟨it,fp,tn,J,H2,e,I2,T,st2,f2,W,⟨m0,w0⟩,turn⟩:=h2
 subst e
 have stat:∀ {H':Hp},(∀ b∈fp,H' b=none)→∀ b∈fp,pF X pins H' b:=fun hn b hb=>⟨hn b hb,(f2 b hb).2⟩
 refine codeAny_forLoop_any (fun n s'=>∃ i σ' H',Inv X pins σ' H' s'∧tn i s'.heap∧(∀ b∈fp,H' b=none)∧W i n σ' H') ?_ m0 ⟨0,σ,H2,I2,st2,fun b hb=>(f2 b hb).1,w0⟩
 rintro n s3 ⟨i,σ3,H3,I3,st3,fr3,w3⟩
 rcases turn i n σ3 H3 w3 with ⟨stop,qn⟩ | ⟨go,N,hN,step⟩
 ·refine wpAny_passesOwn hp (thn (T.done X rfl rfl rfl hc i pins s3 σ3 H3 X.xe I3 (stat fr3) st3 stop) fun r s4 ⟨hr,I4⟩=>?_)
  subst hr
  exact wpAny_execs_nil ⟨σ3,H3,I4,qn⟩
 ·refine wpAny_passesOwn hp (thn (T.item X rfl rfl rfl hc i pins s3 σ3 H3 X.xe I3 (stat fr3) st3 go) fun r s4 ⟨u,hr,h4⟩=>?_)
  subst hr
  refine wpAny_passesOwn hp (thn h4 fun _ s5 ⟨x,H5,I5,r5,y5,st5,fr5⟩=>?_)
  have I5':=I5.pinned (stat fr5) (T.obj _ _ st5)
  refine wpAny_passesOwn hp (thn (hg _ s5 σ3 H5 x u _ I5' r5 (step x H5 y5)) fun _ s6 ⟨σ6,H6,I6,q6⟩=>?_)
  refine wpAny_passesOwn hp (thn (hb _ s6 σ6 H6 _ I6 q6) fun f s7 q7=>?_)
  have again:∀ {σ7:St} {H7:Hp},Inv X (pins++mK fp s5.heap) σ7 H7 s7→N σ7 H7→∃ m,m<n∧∃ i σ' H',Inv X pins σ' H' s7∧tn i s7.heap∧(∀ b∈fp,H' b=none)∧W i m σ' H':=fun {σ7 H7} I7 n7=>by
   obtain ⟨m',hm,w7⟩:=hN σ7 H7 n7
   refine ⟨m',hm,i+1,σ7,H7,I7.jI,T.keep _ _ _ st5 fun b hb o e=>(I7.pin (b,o) (List.mem_append_right _ (List.mem_append_right _ (e7 hb e)))).1,fun b hb=>?_,w7⟩
   obtain ⟨o,e,d⟩:=T.obj _ _ st5 b hb
   exact (I7.pin (b,o) (List.mem_append_right _ (List.mem_append_right _ (e7 hb e)))).2.1
  cases f with
  | next=>obtain ⟨σ7,H7,I7,n7⟩:=q7;exact again I7 n7
  | cont=>obtain ⟨σ7,H7,I7,n7⟩:=q7;exact again I7 n7
  | brk=>obtain ⟨σ7,H7,I7,q7⟩:=q7;exact ⟨σ7,H7,I7.jI,q7⟩
  | ret v=>obtain ⟨x7,σ7,H7,I7,r7,q7⟩:=q7;exact ⟨x7,σ7,H7,I7.jI,r7,q7⟩
end
noncomputable abbrev R2:=V→V→Hp→VK→Prop
noncomputable def OpR (X:Cx) (f:Value→Value→Sem Value) (r:R2):Prop:=
 ∀ (pins:List (Addr×Obj)) (s:Shared) (σ:St) (H:Hp) (x y:V) (v u:Value) (Q:VK),Inv X pins σ H s→RelV x v→RelV y u→r x y H Q →
  wpAny (model X.prog X.w) X.A (f v u) (EP X pins σ Q) X.xe s
noncomputable def dw (X:Cx) (f:Value) (r:List V→Hp→VK→Prop):Prop:=
 ∀ (pins:List (Addr×Obj)) (s:Shared) (σ:St) (H:Hp) (xs:List V) (us:List Value) (Q:VK),Inv X pins σ H s→Vals xs us→r xs H Q →
  wpAny (model X.prog X.w) X.A (call f us) (EP X pins σ Q) X.xe s
noncomputable def MX (X:Cx) (r:V→Hp→(Bool→Hp→Prop)→Prop):Prop:=
 ∀ (pins:List (Addr×Obj)) (s:Shared) (σ:St) (H:Hp) (x:V) (v:Value) (Q:Bool→Hp→Prop),Inv X pins σ H s→RelV x v→r x H Q →
  wpAny (model X.prog X.w) X.A (truthy v) (TP X pins σ Q) X.xe s
noncomputable def tOp (r:R2) (ta tb:TE):TE:=fun σ H Q=>ta σ H fun x H1=>tb σ H1 fun y H2=>r x y H2 Q
noncomputable def tUn (r:V→Hp→VK→Prop) (ta:TE):TE:=fun σ H Q=>ta σ H fun x H1=>r x H1 Q
noncomputable def rI (C:Int→Int→Prop) (g:Int→Int→V):R2:=fun x y H Q=>∃ i j,x=.int i∧y=.int j∧C i j∧Q (g i j) H
noncomputable def rI0 (g:Int→Int→V):R2:=fun x y H Q=>∃ i j,x=.int i∧y=.int j∧Q (g i j) H
section
variable {X:Cx} {a b c:Expr} {ta tb tc:TE} {pos:Pos}
theorem G4 (ha:PE X a ta) (hb:PE X b tb) {pins:List (Addr×Obj)} {s:Shared} {σ:St} {H:Hp} {R:V→V→Hp→Prop} (I:Inv X pins σ H s)
  (h:ta σ H fun x H1=>tb σ H1 fun y H2=>R x y H2) {Q:Value→Shared→Prop} {f:Value→Value→Sem Value}
  (hf:∀ v u s2 x y H2,Inv X pins σ H2 s2→RelV x v→RelV y u→R x y H2→wpAny (model X.prog X.w) X.A (f v u) Q X.xe s2) :
  wpAny (model X.prog X.w) X.A (eval a X.env) (fun v s₁=>wpAny (model X.prog X.w) X.A (eval b X.env) (fun u s₂=>wpAny (model X.prog X.w) X.A (f v u) Q X.xe s₂) X.xe s₁) X.xe s:=by
 refine thn (ha pins s σ H _ I h) fun v s1 ⟨x,H1,I1,r1,q1⟩=>?_
 refine thn (hb pins s1 σ H1 _ I1 q1) fun u s2 ⟨y,H2,I2,r2,q2⟩=>?_
 exact hf v u s2 x y H2 I2 r1 r2 q2
theorem Kw {op:Operator} {r:R2} (ho:OpR X (binaryOp op) r) (ha:PE X a ta) (hb:PE X b tb):PE X (.BinOp a op b pos) (tOp r ta tb):=by
 intro pins s σ H Q I h
 exact wpAny_BinOp (G4 ha hb I h fun v u s2 x y H2 I2 rx ry q=>ho pins s2 σ H2 x y v u Q I2 rx ry q)
theorem opI {f:Value→Value→Sem Value} {C:Int→Int→Prop} {g:Int→Int→Int}
  (rule:∀ (i j:Int) (t u:Tok) (s:Shared) (Q:Value→Shared→Prop) (E:Value→Shared→Prop),C i j→Q (.int (g i j) s.toks) { s with toks:=s.toks+1 }→wpAny (model X.prog X.w) X.A (f (.int i t) (.int j u)) Q E s) :
  OpR X f (rI C fun i j=>.int (g i j)):=by
 intro pins s σ H x y v u Q I rx ry h
 obtain ⟨i,j,rfl,rfl,hc,q⟩:=h
 obtain ⟨t,rfl⟩:=rx
 obtain ⟨t',rfl⟩:=ry
 exact rule i j t t' s _ _ hc ⟨.int (g i j),H,I.tok _,⟨_,rfl⟩,q⟩
theorem Ky {f:Value→Value→Sem Value} {g:Int→Int→Int}
  (rule:∀ (i j:Int) (t u:Tok) (s:Shared) (Q:Value→Shared→Prop) (E:Value→Shared→Prop),Q (.int (g i j) s.toks) { s with toks:=s.toks+1 }→wpAny (model X.prog X.w) X.A (f (.int i t) (.int j u)) Q E s) :
  OpR X f (rI0 fun i j=>.int (g i j)):=by
 intro pins s σ H x y v u Q I rx ry h
 obtain ⟨i,j,rfl,rfl,q⟩:=h
 obtain ⟨t,rfl⟩:=rx
 obtain ⟨t',rfl⟩:=ry
 exact rule i j t t' s _ _ ⟨.int (g i j),H,I.tok _,⟨_,rfl⟩,q⟩
theorem Di {f:Value→Value→Sem Value} {g:Int→Int→Bool}
  (rule:∀ (i j:Int) (t u:Tok) (s:Shared) (Q:Value→Shared→Prop) (E:Value→Shared→Prop),Q (.bool (g i j)) s→wpAny (model X.prog X.w) X.A (f (.int i t) (.int j u)) Q E s) :
  OpR X f (rI0 fun i j=>.bl (g i j)):=by
 intro pins s σ H x y v u Q I rx ry h
 obtain ⟨i,j,rfl,rfl,q⟩:=h
 obtain ⟨t,rfl⟩:=rx
 obtain ⟨t',rfl⟩:=ry
 exact rule i j t t' s _ _ ⟨.bl (g i j),H,I,rfl,q⟩
noncomputable def Kz (i j:Int):Prop:=0≤j∧j≤1000000∧i.natAbs<2 ^ 64
noncomputable def zP (i j:Int):Prop:=(-(2 ^ 64)<i∧i<2 ^ 64)∨(-(2 ^ 64)<j∧j<2 ^ 64)
theorem zP.ok {i j:Int} (h:zP i j):IntMulOk i j:=by
 rcases h with ⟨h1,h2⟩ | ⟨h1,h2⟩
 ·exact .of_left (intBits_le_64 h1 h2)
 ·exact .of_right (intBits_le_64 h1 h2)
theorem G5:OpR X (binaryOp .Add) (rI0 fun i j=>.int (i+j)):=Ky fun _ _ _ _ _ _ _ q=>add_int q
theorem G6:OpR X (binaryOp .Sub) (rI0 fun i j=>.int (i-j)):=Ky fun _ _ _ _ _ _ _ q=>sub_int q
theorem G7:OpR X (binaryOp .Mult) (rI zP fun i j=>.int (i*j)):=opI fun _ _ _ _ _ _ _ hc q=>mul_int q hc.ok
theorem G8:OpR X (binaryOp .Mod) (rI (fun _ j=>0<j) fun i j=>.int (i % j)):=opI fun i j _ _ _ _ _ hc q=>by
 have h1:(0:Int)<j:=hc
 exact mod_int' (by omega) (by rw [Int.fmod_eq_emod_of_nonneg i (by omega)];exact q)
theorem G9:OpR X (binaryOp .Pow) (rI Kz fun i j=>.int (i ^ j.toNat)):=opI fun _ _ _ _ _ _ _ hc q=>pow_int_small hc.1 hc.2.1 hc.2.2 q
end
section
variable {X:Cx} {a b c:Expr} {ta tb tc:TE} {pos:Pos}
theorem Fv:OpR X (compareOp .Lt) (rI0 fun i j=>.bl (decide (i<j))):=Di fun _ _ _ _ _ _ _ q=>lt_int q
theorem zQ:OpR X (compareOp .LtE) (rI0 fun i j=>.bl (decide (i≤j))):=Di fun _ _ _ _ _ _ _ q=>le_int q
theorem KA:OpR X (compareOp .Gt) (rI0 fun i j=>.bl (decide (j<i))):=Di fun _ _ _ _ _ _ _ q=>gt_int q
theorem KC:OpR X (compareOp .GtE) (rI0 fun i j=>.bl (decide (j≤i))):=Di fun _ _ _ _ _ _ _ q=>ge_int q
theorem OpR.or {f:Value→Value→Sem Value} {r r':R2} (h:OpR X f r) (h':OpR X f r'):OpR X f (fun x y H Q=>r x y H Q∨r' x y H Q):=by
 intro pins s σ H x y v u Q I rx ry q
 rcases q with q | q
 ·exact h pins s σ H x y v u Q I rx ry q
 ·exact h' pins s σ H x y v u Q I rx ry q
theorem ez (b:Expr) {op:CmpOp} (h:op≠.In:=by decide) (h2:op≠.NotIn:=by decide):behindInMarks op b=false:=by
 have e1:(op == CmpOp.In)=false:=by cases op<;>first | rfl | exact absurd rfl h
 have e2:(op == CmpOp.NotIn)=false:=by cases op<;>first | rfl | exact absurd rfl h2
 cases b<;>simp [behindInMarks,e1,e2]
theorem Dj {op:CmpOp} {r:R2} (ho:OpR X (compareOp op) r) (ha:PE X a ta) (hb:PE X b tb) (hm:behindInMarks op b=false):PE X (.Compare a [op] [b] pos) (tOp r ta tb):=by
 intro pins s σ H Q I h
 exact wpAny_Compare1 (G4 ha hb I h fun v u s2 x y H2 I2 rx ry q=>ho pins s2 σ H2 x y v u Q I2 rx ry q) hm
noncomputable def Fw (t:TE):TT:=fun σ H Q=>t σ H fun x H'=>∃ k,x=.bl k∧Q k H'
theorem Dl {op:CmpOp} {r:R2} (ho:OpR X (compareOp op) r) (ha:PE X a ta) (hb:PE X b tb) (hm:behindInMarks op b=false):PT X (.Compare a [op] [b] pos) (Fw (tOp r ta tb)):=by
 intro pins s σ H Q I h
 refine wpAny_isTrue_Compare1 (thn (ha pins s σ H _ I h) fun v s1 ⟨x,H1,I1,r1,q1⟩=>thn (hb pins s1 σ H1 _ I1 q1) fun u s2 ⟨y,H2,I2,r2,q2⟩=>
  thn (ho pins s2 σ H2 x y v u _ I2 r1 r2 q2) fun c s3 ⟨z,H3,I3,r3,k,e,q3⟩=>?_) hm
 subst e
 cases r3
 exact wpAny_truthy_bool ⟨H3,I3,q3⟩
noncomputable def zR (r r':R2) (ta tb tc:TE):TE:=fun σ H Q=>ta σ H fun x H1=>tb σ H1 fun y H2=>r x y H2 fun z H3=>∃ k,z=.bl k ∧
 (if k=true then tc σ H3 fun w' H4=>r' y w' H4 Q else Q (.bl false) H3)
theorem zS {op op':CmpOp} {r r':R2} (ho:OpR X (compareOp op) r) (ho':OpR X (compareOp op') r') (ha:PE X a ta) (hb:PE X b tb) (hc:PE X c tc)
  (hm:lastMarks [op,op'] [b,c]=false:=by with_unfolding_all rfl):PE X (.Compare a [op,op'] [b,c] pos) (zR r r' ta tb tc):=by
 intro pins s σ H Q I h
 refine Compare_chain (thn (ha pins s σ H _ I h) fun v s1 ⟨x,H1,I1,r1,q1⟩=>chain_link (thn (hb pins s1 σ H1 _ I1 q1) fun u s2 ⟨y,H2,I2,r2,q2⟩=>
  thn (ho pins s2 σ H2 x y v u _ I2 r1 r2 q2) fun d s3 ⟨z,H3,I3,r3,k,e,q3⟩=>?_)) hm
 subst e
 cases r3
 refine wpAny_truthy_bool ?_
 cases k with
 | false=>exact ite_ff ⟨.bl false,H3,I3,rfl,q3⟩
 | true=>exact ite_tt (chain_last (thn (hc pins s3 σ H3 _ I3 q3) fun w' s4 ⟨z',H4,I4,r4,q4⟩=>ho' pins s4 σ H4 y z' u w' Q I4 r2 r4 q4))
noncomputable def G_ (K:PySem.W.Frag) (x:V) (H:Hp) (k:Bool):Prop:=
 match x with
 | .non=>k=false
 | .bl b=>k=b
 | .int i=>k=(i != 0)
 | .str y=>y.length≤sizeLine∧k=((y.length:Int) != 0)
 | .byt y=>y.size≤sizeLine∧k=((y.size:Int) != 0)
 | .ref p=>(∃ xs,SqL K H p xs∧k=!xs.isEmpty)∨(∃ xs,SqT K H p xs∧k=!xs.isEmpty)∨∃ kvs,H p=some (.dK kvs)∧k=!kvs.isEmpty
 | _=>False
theorem u5 {κ:Type} {kvs:List (κ×V)} {vs:List (κ×Value)} (r:KV kvs vs):(!vs.isEmpty)=!kvs.isEmpty:=by
 cases r<;>rfl
theorem mL {xs:List V} {its:List Value} (r:Vals xs its):(!its.toArray.isEmpty)=!xs.isEmpty:=by
 cases r<;>simp
theorem mQ:(sizeLine:Nat)<2 ^ 63:=by rw [sizeLine_eq];decide
theorem Hg:MX X (fun x H Q=>∃ k,G_ X.K x H k∧Q k H):=by
 intro pins s σ H x v Q I rx h
 obtain ⟨k,e,q⟩:=h
 have hl:=mQ
 have hs:sizeLine=16777216:=sizeLine_eq
 cases x with
 | non=>
  cases rx
  have e':k=false:=e
  subst e'
  exact truthy_none ⟨H,I,q⟩
 | bl b=>
  cases rx
  have e':k=b:=e
  subst e'
  exact wpAny_truthy_bool ⟨H,I,q⟩
 | int i=>
  obtain ⟨t,rfl⟩:=rx
  have e':k=(i != 0):=e
  subst e'
  exact PySem.P.truthy_int ⟨H,I,q⟩
 | str y=>
  obtain ⟨t,rfl⟩:=rx
  obtain ⟨hy,e'⟩:y.length≤sizeLine∧k=((y.length:Int) != 0):=e
  subst e'
  exact PySem.P.truthy_str (by omega) ⟨H,I.tok _,q⟩
 | byt y=>
  obtain ⟨t,rfl⟩:=rx
  obtain ⟨hy,e'⟩:y.size≤sizeLine∧k=((y.size:Int) != 0):=e
  subst e'
  exact PySem.W.truthy_bytes (by omega) ⟨H,I.tok _,q⟩
 | ref p=>
  cases rx
  have e':(∃ xs,SqL X.K H p xs∧k=!xs.isEmpty)∨(∃ xs,SqT X.K H p xs∧k=!xs.isEmpty)∨∃ kvs,H p=some (.dK kvs)∧k=!kvs.isEmpty:=e
  rcases e' with ⟨xs,hx,e'⟩ | ⟨xs,hx,e'⟩ | ⟨kvs,hx,e'⟩
  ·subst e'
   obtain ⟨its,r,pl,hz⟩:=I.list hx
   have hlen:=r.length
   exact wpAny_truthy_list pl.isList (by simp only [List.size_toArray];omega) ⟨H,I.tok _,by rw [mL r];exact q⟩
  ·subst e'
   obtain ⟨its,r,pl,hz⟩:=I.tuple hx
   have hlen:=r.length
   exact truthy_tuple pl (by simp only [List.size_toArray];omega) ⟨H,I.tok _,by rw [mL r];exact q⟩
  ·subst e'
   obtain ⟨hz,hS,vs,r,m⟩:kvs.length≤sizeLine∧(p == sysModules)=false∧∃ vs,KV kvs vs∧s.heap.DictOf (bh X.prog X.w) p vs:=I.hok p _ hx
   have hlen:kvs.length=vs.length:=Paired.length r
   exact wpAny_truthy_dict hS m (by omega) ⟨H,I.tok _,by rw [u5 r];exact q⟩
 | _=>exact (show False from e).elim
theorem zT (ha:PE X a ta) (he:∀ whole,isTrue a X.env whole=(do let v ← whole;standAt a.pos;holding [v] (truthy v))) :
  PT X a (fun σ H Q=>ta σ H fun x H'=>∃ k,G_ X.K x H' k∧Q k H'):=by
 intro pins s σ H Q I h
 exact isTrue_plain (thn (ha pins s σ H _ I h) fun v s1 ⟨x,H1,I1,r1,q1⟩=>Hg pins s1 σ H1 x v Q I1 r1 q1) (he _)
theorem vals1 {x:V} {us:List Value} (r:Vals [x] us):∃ u,us=[u]∧RelV x u:=by
 cases r with
 | cons r1 r2=>cases r2;exact ⟨_,rfl,r1⟩
theorem vals2 {x y:V} {us:List Value} (r:Vals [x,y] us):∃ u w',us=[u,w']∧RelV x u∧RelV y w':=by
 cases r with
 | cons r1 r2=>
  cases r2 with
  | cons r3 r4=>cases r4;exact ⟨_,_,rfl,r1,r3⟩
theorem yt (hc:X.calm=true):dw X (.builtin "max") (fun xs H Q=>∃ i j,xs=[.int i,.int j]∧Q (.int (if j>i then j else i)) H):=by
 intro pins s σ H xs us Q I r h
 obtain ⟨i,j,rfl,q⟩:=h
 obtain ⟨u,w',rfl,⟨t,rfl⟩,⟨t',rfl⟩⟩:=vals2 r
 refine max_two_ints (I.ok.hd hc) fun h' tk k=>⟨_,H,I.kept k,?_,q⟩
 by_cases hj:j>i
 ·rw [if_pos hj,if_pos hj];exact ⟨_,rfl⟩
 ·rw [if_neg hj,if_neg hj];exact ⟨_,rfl⟩
theorem yu (hc:X.calm=true):dw X (.builtin "min") (fun xs H Q=>∃ i j,xs=[.int i,.int j]∧Q (.int (if j<i then j else i)) H):=by
 intro pins s σ H xs us Q I r h
 obtain ⟨i,j,rfl,q⟩:=h
 obtain ⟨u,w',rfl,⟨t,rfl⟩,⟨t',rfl⟩⟩:=vals2 r
 refine min_two_ints (I.ok.hd hc) fun h' tk k=>⟨_,H,I.kept k,?_,q⟩
 by_cases hj:j<i
 ·rw [if_pos hj,if_pos hj];exact ⟨_,rfl⟩
 ·rw [if_neg hj,if_neg hj];exact ⟨_,rfl⟩
theorem yw:dw X (.type "int") (fun xs H Q=>(∃ i,xs=[.int i]∧Q (.int i) H)∨∃ k,xs=[.bl k]∧Q (.int (if k then 1 else 0)) H):=by
 intro pins s σ H xs us Q I r h
 rcases h with ⟨i,rfl,q⟩ | ⟨k,rfl,q⟩
 ·obtain ⟨u,rfl,t,rfl⟩:=vals1 r
  exact call_int_int ⟨.int i,H,I,⟨_,rfl⟩,q⟩
 ·obtain ⟨u,rfl,r1⟩:=vals1 r
  cases r1
  exact call_int_bool ⟨.int (if k then 1 else 0),H,I.tok _,⟨_,rfl⟩,q⟩
end
structure Hh (h:Heap) (x dx C:Addr) (mA:Str→Option Value):Prop where
 obj:h.get? x=some (PySem.W.instObj C dx)
 ns:h.Ns1 dx mA
 ne:dx≠x
theorem yx {h:Heap} {dx:Addr} {mA:Str→Option Value} (n:h.Ns1 dx mA):∃ od,h.get? dx=some od∧∀ name,PySem.W.lookIn name od=some (mA name):=by
 obtain ⟨o,es,ep,ho,hd,hk,_,hm⟩:=n
 refine ⟨o,ho,fun name=>?_⟩
 have e:=hm name
 unfold nsFind findBy at e
 rw [← Array.find?_toList] at e
 unfold PySem.W.lookIn
 rw [hd]
 dsimp only
 split
 ·rename_i y q
  rw [q] at e
  exact congrArg some e
 ·rename_i q
  rw [q] at e
  have a:es.toList.any (·.refKey)=false:=by
   rw [List.any_eq_false]
   intro y hy
   obtain ⟨z,t,hkey⟩:=hk y (Array.mem_toList_iff.mp hy)
   simp [DictEntry.refKey,hkey]
  have a':¬ es.toList.any (·.refKey)=true:=by rw [a];exact Bool.false_ne_true
  rw [if_neg a']
  exact congrArg some e
theorem Hh.look {h:Heap} {x dx C:Addr} {mA:Str→Option Value} (I:Hh h x dx C mA):∃ od,PySem.W.InstAt h x (PySem.W.instObj C dx) C (some od)∧∀ name,PySem.W.lookIn name od=some (mA name):=
 let ⟨od,ho,hl⟩:=yx I.ns
 ⟨od,⟨I.obj,rfl,rfl,ho⟩,hl⟩
section
variable {prog:Program} {w:World} {A:Around} {E:Value→Shared→Prop} {s:Shared} {K:PySem.W.Frag} {x dx C f:Addr} {mA:Str→Option Value} {name:Str} {v:Value}
end
theorem jG.some_of {v:V} {o:Option Value} (r:jG (some v) o):∃ u,o=some u∧RelV v u:=by
 cases o with
 | none=>exact (show False from r).elim
 | some u=>exact ⟨u,rfl,r⟩
section
variable {P:Program} {w:World} {H H':Hp} {h h':Heap} {a C dx:Addr} {fs fs':List (Str×V)}
theorem Dq (hok:HOk P w H h) (e:H a=some (.ins C dx fs)):∃ mA,Hh h a dx C mA∧(∀ f,jG (fs.lookup f) (mA f))∧PySem.Within mA (fs.map (·.1))∧fs.length≤1000∧H dx=some (.own a):=by
 obtain ⟨d,z,ne,ob,mA,n,r,q⟩:=(show aT P w H h a (.ins C dx fs) from hok a _ e)
 exact ⟨mA,⟨ob,n,ne⟩,r,q,z,d⟩
end
structure Cls (K:PySem.W.Frag) (C:Addr):Prop where
 pg:PySem.W.plainGet K C Str.empty=true
 hd:PySem.W.hasDictIn K C=true
 po:PySem.W.plainOver K C=true
 sa:PySem.W.findIn K (.ref C) "__setattr__" = some (some (.builtin "object.__setattr__"))
theorem Cls.get {K:PySem.W.Frag} {C:Addr} (c:Cls K C) (f:Str):PySem.W.plainGet K C f=true:=c.pg
section
variable {X:Cx} {pins:List (Addr×Obj)} {σ:St} {H:Hp} {s:Shared} {a C dx:Addr} {fs:List (Str×V)} {f:Str} {v:V} {A:Around} {E:Value→Shared→Prop}
end
section
variable {X:Cx} {o e value:Expr} {f:Str} {pos pos' tpos:Pos} {ta tv:TE}
end
section
variable {X:Cx} {pins:List (Addr×Obj)} {σ:St} {H:Hp} {s:Shared} {A:Around} {E:Value→Shared→Prop} {Q:Value→Shared→Prop} {c:Value} {b:Bool}
inductive jJ (K:PySem.W.Frag) (H:Hp):V→Value→Prop where
 | non:jJ K H .non (.type "NoneType")
 | bl (x:Bool):jJ K H (.bl x) (.type "bool")
 | int (i:Int):jJ K H (.int i) (.type "int")
 | str (x:Str):jJ K H (.str x) (.type "str")
 | flt (x:UInt64):jJ K H (.flt x) (.type "float")
 | lst {a:Addr} {xs:List V} (e:H a=some (.lst xs)):jJ K H (.ref a) (.type "list")
 | frz {a:Addr} {o:Obj} {xs:List V} (e:H a=some (.frz o (.lst xs))):jJ K H (.ref a) (.type "list")
 | tup {a:Addr} {xs:List V} (e:H a=some (.tup xs)):jJ K H (.ref a) (.type "tuple")
 | dK {a:Addr} {kvs:List (Key×V)} (e:H a=some (.dK kvs)):jJ K H (.ref a) (.type "dict")
 | dT {a:Addr} {kvs:List (List Key×V)} (e:H a=some (.dT kvs)):jJ K H (.ref a) (.type "dict")
 | ins {a C dx:Addr} {fs:List (Str×V)} (e:H a=some (.ins C dx fs)) (cl:Cls K C) (ha:PySem.W.findIn K (.ref C) "__class__" = some (some (.builtin "object.__class__")))
   (hn:PySem.W.specialIn K (.builtin "object.__class__") "__get__" = some (some (.builtin "getset_descriptor.__get__"))) (htk:PySem.W.takesIn K (.builtin "object.__class__")=some true)
   (hm:PySem.W.mroIn K C (.type "object")=some true):jJ K H (.ref a) (.ref C)
theorem yz {x:V} {u t:Value} (I:Inv X pins σ H s) (rx:RelV x u) (ty:jJ X.K H x t) (e:PySem.W.kitOne X.K t c=some b) (h:∀ tk,Q (.bool b) { s with toks:=tk }) :
  wpAny (model X.prog X.w) A (call (.builtin "isinstance") [u,c]) Q E s:=by
 cases ty with
 | non=>cases (show u=Value.none from rx);exact PySem.W.kia_one PySem.W.kitx_none I.kIn True.intro e (fun z=>nomatch z) h
 | bl y=>cases (show u=Value.bool y from rx);exact PySem.W.kia_one PySem.W.kitx_bool I.kIn True.intro e (fun z=>nomatch z) h
 | int i=>obtain ⟨t,q⟩:=(show ∃ t,u=Value.int i t from rx);cases q;exact PySem.W.kia_one PySem.W.kitx_int I.kIn True.intro e (fun z=>nomatch z) h
 | str y=>obtain ⟨t,q⟩:=(show ∃ t,u=Value.str y t from rx);cases q;exact PySem.W.kia_one PySem.W.kitx_str I.kIn True.intro e (fun z=>nomatch z) h
 | flt y=>obtain ⟨t,q⟩:=(show ∃ t,u=Value.float y t from rx);cases q;exact PySem.W.kia_one PySem.W.kitx_float I.kIn True.intro e (fun z=>nomatch z) h
 | @lst a xs ea=>
  cases (show u=Value.ref a from rx)
  obtain ⟨_,_,n,_,h1⟩:=(show aT X.prog X.w H s.heap a (.lst xs) from I.hok a _ ea)
  exact PySem.W.kia_one PySem.W.kitx_list I.kIn ⟨_,h1,rfl⟩ e (fun z=>nomatch z) h
 | @frz a ob xs ea=>
  cases (show u=Value.ref a from rx)
  obtain ⟨_,_,_,n,_,h1⟩:=(show aT X.prog X.w H s.heap a (.frz ob (.lst xs)) from I.hok a _ ea)
  exact PySem.W.kia_one PySem.W.kitx_list I.kIn ⟨_,h1,rfl⟩ e (fun z=>nomatch z) h
 | @tup a xs ea=>
  cases (show u=Value.ref a from rx)
  obtain ⟨_,_,_,p⟩:=(show aT X.prog X.w H s.heap a (.tup xs) from I.hok a _ ea)
  obtain ⟨o,h1,h2,_⟩:=p
  exact PySem.W.kia_one PySem.W.kitx_tuple I.kIn ⟨o,h1,h2⟩ e (fun z=>nomatch z) h
 | @dK a kvs ea=>
  cases (show u=Value.ref a from rx)
  obtain ⟨_,_,vs,_,p⟩:=(show aT X.prog X.w H s.heap a (.dK kvs) from I.hok a _ ea)
  obtain ⟨o,es,ep,h1,h2,_⟩:=p
  exact PySem.W.kia_one PySem.W.kitx_dict I.kIn ⟨o,h1,h2.1⟩ e (fun z=>nomatch z) h
 | @dT a kvs ea=>
  cases (show u=Value.ref a from rx)
  obtain ⟨_,_,xs,_,o,es,ep,h1,h2,_⟩:=(show aT X.prog X.w H s.heap a (.dT kvs) from I.hok a _ ea)
  exact PySem.W.kia_one PySem.W.kitx_dict I.kIn ⟨o,h1,h2.1⟩ e (fun z=>nomatch z) h
 | @ins a C dx fs ea cl ha hn htk hm=>
  cases (show u=Value.ref a from rx)
  obtain ⟨mA,O,_⟩:=Dq I.hok ea
  obtain ⟨od,J,_⟩:=O.look
  exact PySem.W.kia_one (PySem.W.kitx_own (cl.get _) cl.hd ha hn htk hm) I.kIn J e (fun z=>nomatch z) h
end
structure bB (k:Nat) (A:Around):Prop where
 hd:A.handled=none
 dp:A.depth+3*k+5<recursionLimit
 un:A.units+16*k+200<cLine
theorem bB.mono {j k:Nat} {A:Around} (r:bB k A) (h:j≤k):bB j A:=⟨r.hd,by have:=r.dp;omega,by have:=r.un;omega⟩
theorem bB.deeper {k:Nat} {A:Around} (r:bB (k+1) A) (env:Env):bB k (A.deeper env):=
 ⟨r.hd,by have:=r.dp;show A.depth+1+3*k+5<_;omega,by have:=r.un;show A.units+3+16*k+200<_;omega⟩
theorem bB.depth {k:Nat} {A:Around} (r:bB k A):A.depth<recursionLimit:=by have:=r.dp;omega
theorem bB.units {k:Nat} {A:Around} (r:bB k A):A.units+64<cLine:=by have:=r.un;omega
noncomputable def u6:TA:=fun _ H Q=>Q [] H
noncomputable def k_ (ta:TE) (tr:TA):TA:=fun σ H Q=>ta σ H fun x H1=>tr σ H1 fun xs H2=>Q (x::xs) H2
section
variable {X:Cx} {e:Expr} {es:List Expr} {te:TE} {t:TA} {pos:Pos}
theorem iA:PA X [] u6:=fun _ _ _ _ H Q I h=>Calls.spliced_nil ⟨[],H,I,.nil,h⟩
theorem cS (ha:PE X e te) (hr:PA X es t) (hs:starEach (e::es) X.env=(false,eval e X.env)::starEach es X.env:=by rfl):PA X (e::es) (k_ te t):=by
 intro pos pins s σ H Q I h
 rw [hs]
 show wpAny _ _ (spliced ((false,eval e X.env)::backTo pos (starEach es X.env))) _ _ s
 refine Calls.spliced_cons (thn (ha pins s σ H _ I h) fun u s1 ⟨x,H1,I1,r1,q1⟩=>?_)
 exact thn (hr pos pins s1 σ H1 _ I1 q1) fun us s2 ⟨xs,H2,I2,r2,q2⟩=>⟨x::xs,H2,I2,.cons r1 r2,q2⟩
noncomputable def Hi (t:TA):TE:=fun σ H Q=>t σ H fun xs H1=>xs.length≤sizeLine∧∀ p,H1 p=none→Q (.ref p) (upd H1 p (.tup xs))
noncomputable def Dr (t:TA):TE:=fun σ H Q=>t σ H fun xs H1=>xs.length≤sizeLine∧∀ p,H1 p=none→Q (.ref p) (upd H1 p (.lst xs))
theorem zU {x1} (h:PA X es t):PE X (.Tuple es x1 pos) (Hi t):=by
 intro pins s σ H Q I hq
 refine wpAny_Tuple_spliced (thn (h pos pins s σ H _ I hq) fun us s1 ⟨xs,H1,I1,r,z,q⟩=>⟨by rw [← r.length];exact z,?_⟩)
 have hf:H1 s1.heap.objs.size=none:=I1.hok.fresh (Nat.le_refl _)
 refine ⟨.ref s1.heap.objs.size,upd H1 s1.heap.objs.size (.tup xs),I1.laid (t':=s1.toks) (fun b u e=>Heap.get?_push_of_some _ e) (Nat.le_refl _) ?_,rfl,q _ hf⟩
 exact ⟨z,us,r,⟨_,Heap.get?_push_size _ rfl,rfl,_,rfl⟩⟩
theorem zV (h:PA X es t):PE X (.List es pos) (Dr t):=by
 intro pins s σ H Q I hq
 refine wpAny_List_spliced (thn (h pos pins s σ H _ I hq) fun us s1 ⟨xs,H1,I1,r,z,q⟩=>⟨by rw [← r.length];exact z,?_⟩)
 have hf:H1 s1.heap.objs.size=none:=I1.hok.fresh (Nat.le_refl _)
 refine ⟨.ref s1.heap.objs.size,upd H1 s1.heap.objs.size (.lst xs),I1.laid (t':=s1.toks) (fun b u e=>Heap.get?_push_of_some _ e) (Nat.le_refl _) ?_,rfl,q _ hf⟩
 exact ⟨z,us,0,r,Heap.get?_push_size _ rfl⟩
end
noncomputable abbrev Sp:=List V→Hp→VK→XK→Prop
noncomputable abbrev CXT:=List Env→Hp→Shared→XK→Value→Shared→Prop
structure Dt (P:Program) (w:World) (K:PySem.W.Frag) (mg:Str→Option Value) (base:Heap) (A:Around) (outer:List Env) (s:Shared) (H:Hp):Prop where
 frames:A.frames=some outer
 mod:Mod K mg base
 bs:∀ b o,base.get? b=some o→s.heap.get? b=some o∧H b=none
 bsz:base.objs.size≤s.heap.objs.size
 l7:s.heap.FunFrames base outer
 frf:∀ b∈frs outer,H b=none
 hok:HOk P w H s.heap
 bare:AllBare s.gens
noncomputable def CE (outer:List Env) (P:Program) (w:World) (H:Hp) (s:Shared) (Q:VK) (u:Value) (s':Shared):Prop:=
 ∃ v H',s'.os=s.os∧AllBare s'.gens∧Un (frs outer) [] H H' s.heap s'.heap∧HOk P w H' s'.heap∧RelV v u∧Q v H'
noncomputable def CR (CX:CXT) (outer:List Env) (P:Program) (w:World) (H:Hp) (s:Shared) (Q:VK) (E:XK) (r:Result) (s':Shared):Prop:=
 match r with
 | .ok (.ret u)=>CE outer P w H s Q u s'
 | .ok _=>False
 | .error e=>CX outer H s E e s'
structure aR (P:Program) (w:World) (K:PySem.W.Frag) (mg:Str→Option Value) (base:Heap) (CX:CXT) (k:Nat) (f:Addr) (fd:FuncData) (ps:List Str) (sp:Sp):Prop where
 len:∀ vs H Q E,sp vs H Q E→vs.length=ps.length
 run:∀ (A:Around) (outer:List Env) (s:Shared) (H:Hp) (args:Args) (us:List Value) (vs:List V) (Q:VK) (E:XK),bB k A→Dt P w K mg base A outer s H→BindsTo s fd args (ps.zip us)→Vals vs us→sp vs H Q E →
  codeAny (model P w) A (.call (.ref f) args) (CR CX outer P w H s Q E) s
section
variable {X:Cx} {pins:List (Addr×Obj)} {σ:St} {H:Hp} {s s':Shared}
theorem Inv.Hj (I:Inv X pins σ H s):Dt X.prog X.w X.K X.mg X.base X.A X.stack s H:=
 ⟨I.ok.frames,I.ok.mod,I.bs,Nat.le_trans I.ok.bsz I.sz,I.stack,I.qw,I.hok,I.bare⟩
theorem Inv.after {Q:VK} {u:Value} (I:Inv X pins σ H s) (h:CE X.stack X.prog X.w H s Q u s'):EP X pins σ Q u s':=by
 obtain ⟨v,H',os,bare,un,hok,r,q⟩:=h
 obtain ⟨hh,g,d,t,os'⟩:=s'
 obtain rfl:os'=s.os:=os
 exact ⟨v,H',I.call (h':=hh) (g':=g) (d':=d) (t':=t) (ch:=[]) un hok bare (fun b z=>absurd z (by simp)),r,q⟩
end
noncomputable def pR (sp:Sp) (dvs:List V) (E:XK) (t:TA):TE:=fun σ H Q=>t σ H fun vs H1=>sp (vs++dvs) H1 Q E
noncomputable def Binds (K:PySem.W.Frag) (fd:FuncData) (ps:List Str) (ds:List Value):Prop:=
 ∀ (s:Shared) (us:List Value),K.In s.heap→(us++ds).length=ps.length→BindsTo s fd ⟨us,[]⟩ (ps.zip (us++ds))
theorem Binds.all {K:PySem.W.Frag} {fd:FuncData} {ps:List Str} (h:∀ us:List Value,us.length=ps.length→bindArgs fd ⟨us,[]⟩=pure (ps.zip us)):Binds K fd ps []:=fun s us _ hl=>by
 rw [List.append_nil] at hl ⊢
 exact .of_eq (h us hl)
noncomputable def Passes (CX:CXT) (X:Cx) (E:XK):Prop:=∀ (pins:List (Addr×Obj)) (σ:St) (H:Hp) (s:Shared) (e:Value) (s':Shared),Inv X pins σ H s→CX X.stack H s E e s'→X.xe e s'
section
variable {X:Cx} {CX:CXT} {k:Nat} {f C:Addr} {fd:FuncData} {ps:List Str} {sp:Sp} {dvs:List V} {ds:List Value} {E:XK} {x m:Str} {p pos apos:Pos} {e o:Expr} {es:List Expr} {ta:TE} {t:TA}
theorem Hl {pins:List (Addr×Obj)} {σ:St} {H:Hp} {s:Shared} {Q:VK} {us:List Value} {vs:List V} (F:aR X.prog X.w X.K X.mg X.base CX k f fd ps sp) (hr:bB k X.A) (hb:Binds X.K fd ps ds) (hd:Vals dvs ds) (hx:Passes CX X E)
  (I:Inv X pins σ H s) (r:Vals vs us) (h:sp (vs++dvs) H Q E):wpAny (model X.prog X.w) X.A (call (.ref f) us) (EP X pins σ Q) X.xe s:=by
 have r2:Vals (vs++dvs) (us++ds):=r.append hd
 have hl:(us++ds).length=ps.length:=by rw [← r2.length];exact F.len _ _ _ _ h
 refine wpAny_call (codeAny_mono (F.run X.A X.stack s H ⟨us,[]⟩ (us++ds) (vs++dvs) Q E hr I.Hj (hb s us I.kIn hl) r2 h) fun r s' hq=>?_)
 cases r with
 | error e=>exact hx pins σ H s e s' I hq
 | ok fl=>
  cases fl with
  | ret u=>exact I.after hq
  | next=>exact False.elim hq
  | brk=>exact False.elim hq
  | cont=>exact False.elim hq
theorem jK (F:aR X.prog X.w X.K X.mg X.base CX k f fd ps sp) (hr:bB k X.A) (hg:Gl X x) (hm:X.mg x=some (.ref f)) (hk:PySem.W.keepIn X.K (.ref f)=true) (hb:Binds X.K fd ps ds) (hd:Vals dvs ds) (hx:Passes CX X E)
  (ha:PA X (e::es) t) (hdb:(x == ("__debug__" : Str))=false:=by decide) (he:starEach (e::es) X.env=(false,eval e X.env)::starEach es X.env:=by rfl) (hpl:(backTo pos (starEach es X.env)).any (·.1)=false:=by rfl) :
  PE X (.Call (.Name x p) (e::es) [] pos) (pR sp dvs E t):=by
 intro pins s σ H Q I h
 refine wpAny_Call_Name_kw (gS I hg hm ?_ hdb)
 refine PySem.W.callWith_K (h₀:=X.base) I.ok.mod.kin hk (thn (ha pos pins s σ H _ I h) fun us s1 ⟨vs,H1,I1,r,q⟩=>⟨I1.kIn,?_⟩) he hpl
 exact Hl F hr hb hd hx I1 r q
end
section
variable {X:Cx} {CX:CXT} {k:Nat} {f C:Addr} {fd:FuncData} {ps ks:List Str} {sp:Sp} {E:XK} {x m:Str} {p pos apos kpos:Pos} {e o:Expr} {es:List Expr} {kws:List Keyword} {te ta:TE} {t tk:TA} {nm:Option Str}
variable {g:List Value→List Value→List Value} {gV:List V→List V→List V}
end
structure ay (N P:List Str) (sc:Scope):Prop where
 kind:sc.kind=.function
 co:sc.isCoroutine=false
 gen:sc.isGenerator=false
 nd:N.Nodup
 pre:N.take P.length=P
 par:∀ x∈P,sc.names.lookup x=some .local∨sc.names.lookup x=some .cell
 Ho:∀ y∈sc.names,y.2≠.free
theorem pS {kindOf:Str→Option NameKind} {x:Str}:∀ {binds:List (Str×Value)} {m:Str→Option Value},(∀ v,(x,v)∉binds)→bindL kindOf binds m x=m x
 | [],_,_=>rfl
 | (n,v)::r,m,h=>by
  unfold bindL
  rw [pS fun w hw=>h w (List.mem_cons_of_mem _ hw)]
  split
  ·have:x≠n:=by rintro rfl;exact h v List.mem_cons_self
   simp [this]
  ·rfl
theorem pT {kindOf:Str→Option NameKind} {x:Str}:∀ {binds:List (Str×Value)} {m:Str→Option Value},(∀ v,(x,v)∉binds)→bindC kindOf binds m x=m x
 | [],_,_=>rfl
 | (n,v)::r,m,h=>by
  unfold bindC
  rw [pT fun w hw=>h w (List.mem_cons_of_mem _ hw)]
  split
  ·rfl
  ·have:x≠n:=by rintro rfl;exact h v List.mem_cons_self
   simp [this]
theorem pU {kindOf:Str→Option NameKind} {x:Str} {v:Value}:∀ {P:List Str} {vs:List Value} {i:Nat} {m:Str→Option Value},P.Nodup→P[i]?=some x→vs[i]?=some v→kindOf x=some .local →
  bindL kindOf (P.zip vs) m x=some v
 | [],_,_,_,_,h,_,_=>by simp at h
 | _::_,[],_,_,_,_,h,_=>by simp at h
 | p::P,w::vs,0,m,nd,h1,h2,hk=>by
  simp at h1 h2;subst h1;subst h2
  show bindL kindOf ((p,w)::P.zip vs) m p=_
  unfold bindL
  rw [pS fun v hv=>(List.nodup_cons.mp nd).1 (List.of_mem_zip hv).1,if_pos hk]
  simp
 | p::P,w::vs,i+1,m,nd,h1,h2,hk=>by
  show bindL kindOf ((p,w)::P.zip vs) m x=_
  unfold bindL
  exact pU (i:=i) (List.nodup_cons.mp nd).2 (by simpa using h1) (by simpa using h2) hk
theorem pV {kindOf:Str→Option NameKind} {x:Str} {v:Value}:∀ {P:List Str} {vs:List Value} {i:Nat} {m:Str→Option Value},P.Nodup→P[i]?=some x→vs[i]?=some v→kindOf x≠some .local →
  bindC kindOf (P.zip vs) m x=some v
 | [],_,_,_,_,h,_,_=>by simp at h
 | _::_,[],_,_,_,_,h,_=>by simp at h
 | p::P,w::vs,0,m,nd,h1,h2,hk=>by
  simp at h1 h2;subst h1;subst h2
  show bindC kindOf ((p,w)::P.zip vs) m p=_
  unfold bindC
  rw [pT fun v hv=>(List.nodup_cons.mp nd).1 (List.of_mem_zip hv).1,if_neg hk]
  simp
 | p::P,w::vs,i+1,m,nd,h1,h2,hk=>by
  show bindC kindOf ((p,w)::P.zip vs) m x=_
  unfold bindC
  exact pV (i:=i) (List.nodup_cons.mp nd).2 (by simpa using h1) (by simpa using h2) hk
noncomputable def start (N:List Str) (vs:List V):St:=vs.map some++List.replicate (N.length-vs.length) none
noncomputable def e8 (CX:CXT) (P:Program) (w:World) (K:PySem.W.Frag) (mg:Str→Option Value) (base:Heap) (N:List Str) (qual:Str) (scope:Scope) (f:Addr) (cd:Value) (A:Around) (outer:List Env) (s:Shared) (H:Hp) (E:XK):Cx where
 prog:=P
 w:=w
 K:=K
 mg:=mg
 base:=base
 A:=A.deeper (envOfC qual scope s.heap.objs.size f cd)
 N:=N
 s₀:=s
 H₀:=H
 env:=envOfC qual scope s.heap.objs.size f cd
 outer:=outer
 stack:=envOfC qual scope s.heap.objs.size f cd::outer
 ex:=[]
 calm:=true
 fn:=fun _=>true
 pn:=[]
 xe:=fun e s'=>wpAny (model P w) (A.deeper (envOfC qual scope s.heap.objs.size f cd)) (leaving (envOfC qual scope s.heap.objs.size f cd) e) (fun _ s''=>CX outer H s E e s'') (fun e' s''=>CX outer H s E e' s'') s'
theorem r_ {sc:Scope} {n:Nat} {x:Str} (h:sc.names.lookup x=some .cell):∃ c,(cellsFrom n sc.names []).lookup x=some c:=by
 have q:=PySem.W.cellsFrom_some sc.names n [] (.inl h)
 exact Option.isSome_iff_exists.mp q
theorem yC {CX:CXT} {P:Program} {w:World} {K:PySem.W.Frag} {mg:Str→Option Value} {base:Heap} {N ps:List Str} {qual:Str} {scope:Scope} {f:Addr} {cd:Value} {A:Around} {outer:List Env} {s s1:Shared} {H:Hp} {E:XK} {us:List Value} {vs:List V}
  (S:ay N ps scope) (hd:A.handled=none) (e0:Dt P w K mg base A outer s H) (hl:vs.length=ps.length) (r:Vals vs us)
  (x:InCallC s s.heap.objs.size (bindL (envOfC qual scope s.heap.objs.size f cd).kindOf (ps.zip us) fun _=>none) (cellsFrom (s.heap.objs.size+1) scope.names []) (bindC (envOfC qual scope s.heap.objs.size f cd).kindOf (ps.zip us) fun _=>none) s1) :
  Inv (e8 CX P w K mg base N qual scope f cd A outer s H E) [] (start N vs) H s1:=by
 have hpl:ps.length≤N.length:=by have:=congrArg List.length S.pre;rw [List.length_take] at this;omega
 obtain ⟨h1,tk,rfl,hk⟩:=x.done
 have noA:∀ b:Addr,b∉(e8 CX P w K mg base N qual scope f cd A outer s H E).ex:=fun b z=>absurd (show b∈([]:List Addr) from z) (by simp)
 refine ⟨⟨e0.mod,S.kind,rfl,rfl,Nat.le_refl _,fun y z c h1 h2=>?_,fun y hy=>?_,fun y c _ h=>?_,fun _=>hd,Around.frames_deeper e0.frames,.inr ⟨rfl,rfl⟩,fun b z=>absurd z (noA b),e0.bs,e0.bsz,fun b _ _=>noA b,fun b z=>absurd z (noA b),e0.l7,e0.frf⟩,
  rfl,e0.bare,Un.kept hk,⟨_,x.toInCall.ns,fun i y v h1 h2 h3=>?_⟩,fun y c h=>⟨_,x.cell y c h⟩,e0.hok.fresh (Nat.le_refl _),fun y c h=>?_,fun p hp=>absurd (show p∈([]:List (Addr×Obj)) from hp) (by simp),e0.hok.kept hk,?_⟩
 ·exact name_of_addr x.apart (PySem.mem_of_lookup h1) (PySem.mem_of_lookup h2)
 ·have hy:scope.names.lookup y=some .cell∨scope.names.lookup y=some .free:=hy
  rcases hy with hy | hy
  ·exact r_ hy
  ·exact absurd rfl (S.Ho _ (PySem.mem_of_lookup hy))
 ·exact Nat.le_of_lt (x.above y c (PySem.mem_of_lookup h))
 ·have hi:i<vs.length:=by
   unfold start at h2
   by_cases hi:i<vs.length
   ·exact hi
   ·rw [List.getElem?_append_right (by simpa using hi)] at h2
    rw [List.getElem?_replicate] at h2
    split at h2<;>cases h2
  have ha:vs[i]?=some v:=by
   unfold start at h2
   rw [List.getElem?_append_left (by simpa using hi),List.getElem?_map] at h2
   cases e:vs[i]? with
   | none=>rw [e] at h2;cases h2
   | some a=>rw [e] at h2;cases h2;rfl
  obtain ⟨u,hu,rv⟩:=r.get ha
  have hp:ps[i]?=some y:=by
   rw [← S.pre,List.getElem?_take_of_lt (by omega)];exact h1
  have ndP:ps.Nodup:=by rw [← S.pre];exact S.nd.sublist (List.take_sublist _ _)
  refine ⟨u,rv,?_⟩
  rcases S.par y (List.mem_of_getElem? hp) with k | k
  ·exact .inl ⟨k,pU ndP hp hu k⟩
  ·obtain ⟨c,e⟩:=r_ (n:=s.heap.objs.size+1) k
   refine .inr ⟨.inl k,c,e,?_⟩
   have q:=x.cell y c e
   rw [pV ndP hp hu (by show scope.names.lookup y≠_;rw [k];decide)] at q
   exact q
 ·exact e0.hok.fresh (Nat.le_of_lt (x.above y c (PySem.mem_of_lookup h)))
 ·unfold start
  show _=N.length
  rw [List.length_append,List.length_map,List.length_replicate]
  omega
theorem wN {CX:CXT} {P:Program} {w:World} {K:PySem.W.Frag} {mg:Str→Option Value} {base:Heap} {k:Nat} {f:Addr} {name qual:Str} {params:Arguments} {body:List Stmt} {scope:Scope} {dV kV doc pm cdv ct oc:Value} {an od:Option Addr}
  {osl:Array (Option Value)} {N ps:List Str} {sp:Sp} (lk:K.lookup f=some ⟨oc,od,.func (PySem.W.fnOf name qual params body scope dV kV doc pm an cdv ct),osl⟩) (hcd:PySem.W.codeIn K cdv qual=true) (S:ay N ps scope)
  (len:∀ vs H Q E,sp vs H Q E→vs.length=ps.length)
  (hbody:∀ (A:Around) (outer:List Env) (s:Shared) (H:Hp) (vs:List V) (Q:VK) (E:XK),bB k (A.deeper (envOfC qual scope s.heap.objs.size f cdv))→sp vs H Q E →
   ∃ t,PSs (e8 CX P w K mg base N qual scope f cdv A outer s H E) body t∧t { nx:=fun _ H'=>Q .non H',rt:=Q } (start N vs) H) :
  aR P w K mg base CX (k+1) f (PySem.W.fnOf name qual params body scope dV kV doc pm an cdv ct) ps sp:=by
 refine ⟨len,fun A outer s H args us vs Q E hr e0 hb r hsp=>?_⟩
 have hl:=len _ _ _ _ hsp
 have KX:K.In s.heap:=e0.mod.kin.keeps fun b o e=>(e0.bs b o e).1
 have lim:s.heap.NoLimit:=e0.mod.nolimit.keeps fun b o e=>(e0.bs b o e).1
 have hkind:∀ y∈ps.zip us,scope.names.lookup y.1=some .local∨(scope.names.lookup y.1=some .cell∧((cellsFrom (s.heap.objs.size+1) scope.names []).lookup y.1).isSome=true):=fun ⟨n,v⟩ hy=>by
  rcases S.par n (List.of_mem_zip hy).1 with q | q
  ·exact .inl q
  ·exact .inr ⟨q,PySem.W.cellsFrom_some _ _ _ (.inl q)⟩
 refine codeAny_call_function hr.depth (KX _ _ lk) rfl S.co S.gen rfl (PySem.W.codeRec_of KX hcd) (hb _ _ _ _ ?_)
 refine wpAny_newFunctionEnv_cells S.kind hkind fun env he s1 x=>?_
 subst he
 refine ⟨lim.keeps x.toInCall.keep,codeAny_func ?_⟩
 obtain ⟨t,ht,hq⟩:=hbody A outer s H vs Q E (hr.deeper _) hsp
 have I:Inv (e8 CX P w K mg base N qual scope f cdv A outer s H E) [] (start N vs) H s1:=yC S hr.hd e0 hl r x
 refine wpAny_mono (ht [] s1 (start N vs) H _ I hq) (fun fl s' hs=>?_) fun e s' hs=>hs
 have fin:∀ {σ':St} {H':Hp} {v:V} {u:Value},Inv (e8 CX P w K mg base N qual scope f cdv A outer s H E) [] σ' H' s'→RelV v u→Q v H'→CE outer P w H s Q u s':=
  fun {σ' H' v u} J rv q=>⟨v,H',J.os,J.bare,J.base,J.hok,rv,q⟩
 cases fl with
 | ret u=>
  obtain ⟨v,σ',H',J,rv,q⟩:=hs
  exact fin J rv q
 | next=>
  obtain ⟨σ',H',J,q⟩:=hs
  exact fin (v:=V.non) (u:=Value.none) J rfl q
 | brk=>
  obtain ⟨_,_,_,q⟩:=hs
  exact False.elim q
 | cont=>
  obtain ⟨_,_,_,q⟩:=hs
  exact False.elim q
section
variable {X:Cx} {x:Str} {p pos:Pos} {e:Expr} {es:List Expr} {t:TA} {id T:String} {r:List V→Hp→VK→Prop}
noncomputable def tCB (r:List V→Hp→VK→Prop) (t:TA):TE:=fun σ H Q=>t σ H fun vs H1=>r vs H1 Q
theorem fX (hc:dw X (.builtin id) r) (hg:Gl X x) (hm:X.mg x=none) (hv:bootBuiltins x=some (.builtin id)) (ha:PA X (e::es) t) (hn:x ≠ "__name__" := by decide) (hdb:(x == ("__debug__" : Str))=false:=by decide)
  (he:starEach (e::es) X.env=(false,eval e X.env)::starEach es X.env:=by rfl) (hpl:(backTo pos (starEach es X.env)).any (·.1)=false:=by rfl):PE X (.Call (.Name x p) (e::es) [] pos) (tCB r t):=by
 intro pins s σ H Q I h
 refine wpAny_Call_Name_kw (dU I hg hm hv ?_ hn hdb)
 exact PyProof.Rows.callWith_builtin1 (thn (ha pos pins s σ H _ I h) fun us s1 ⟨vs,H1,I1,r1,q1⟩=>hc pins s1 σ H1 vs us Q I1 r1 q1) he hpl
theorem yD (hc:dw X (.type T) r) (hg:Gl X x) (hm:X.mg x=none) (hv:bootBuiltins x=some (.type T)) (ha:PA X (e::es) t) (hn:x ≠ "__name__" := by decide) (hdb:(x == ("__debug__" : Str))=false:=by decide)
  (he:starEach (e::es) X.env=(false,eval e X.env)::starEach es X.env:=by rfl) (hpl:(backTo pos (starEach es X.env)).any (·.1)=false:=by rfl):PE X (.Call (.Name x p) (e::es) [] pos) (tCB r t):=by
 intro pins s σ H Q I h
 refine wpAny_Call_Name_kw (dU I hg hm hv ?_ hn hdb)
 exact PyProof.Rows.callWith_type1 (thn (ha pos pins s σ H _ I h) fun us s1 ⟨vs,H1,I1,r1,q1⟩=>hc pins s1 σ H1 vs us Q I1 r1 q1) he hpl
end
end L2
namespace HT
open PySem PyProof.Rows
section
open PySem.SeqAt
open PySem.AutoSeq1 (wpAny_loadPart')
open PySem.MeetsSeq PySem.MeetsSeq2 PySem.MeetsSeq3
end
section
variable {prog:Program} {w:World} {A:Around} {E:Value→Shared→Prop} {s:Shared}
end
end HT
namespace L2
open PySem PySem.Spec PyProof.Rows
section
variable {X:Cx} {e:Expr} {te:TE} {lo hi:Option Expr} {tl th:TO} {pos p2:Pos}
end
noncomputable def ixN (n:Nat) (i:Int):Option Nat:=if 0≤i then (if i<n then some i.toNat else none) else if -(n:Int)≤i then some (i+n).toNat else none
noncomputable def atI {α:Type} (xs:List α) (i:Int):Option α:=(ixN xs.length i).bind fun j=>xs[j]?
theorem wO {n:Nat} {i:Int} {j:Nat} (h:ixN n i=some j):seqIndex? i n=some j∧j<n∧-(n:Int)≤i∧i<n:=by
 unfold ixN at h
 by_cases h0:0≤i
 ·rw [if_pos h0] at h
  by_cases h1:i<n
  ·rw [if_pos h1] at h
   have e:i.toNat=j:=Option.some.inj h
   exact ⟨by rw [seqIndex_of h0 h1,e],by omega,by omega,h1⟩
  ·rw [if_neg h1] at h;cases h
 ·rw [if_neg h0] at h
  by_cases h1:-(n:Int)≤i
  ·rw [if_pos h1] at h
   have e:(i+n).toNat=j:=Option.some.inj h
   exact ⟨by rw [seqIndex_neg (by omega) h1,e],by omega,h1,by omega⟩
  ·rw [if_neg h1] at h;cases h
theorem wQ {α:Type} {xs:List α} {i:Int} {v:α} (h:atI xs i=some v):∃ j,seqIndex? i xs.length=some j∧xs[j]?=some v∧j<xs.length∧-(xs.length:Int)≤i∧i<xs.length:=by
 unfold atI at h
 cases e:ixN xs.length i with
 | none=>rw [e] at h;cases h
 | some j=>
  rw [e] at h
  obtain ⟨h1,h2,h3,h4⟩:=wO e
  exact ⟨j,h1,h,h2,h3,h4⟩
noncomputable def qz (b:Expr):Prop:=∀ o i,subscripted b false o i=operate [o,i] (getItem o i)
noncomputable def IxR (X:Cx) (r:R2):Prop:=
 ∀ (value slice:Expr) (pins:List (Addr×Obj)) (s:Shared) (σ:St) (H:Hp) (x y:V) (v u:Value) (Q:VK),Inv X pins σ H s→RelV x v→RelV y u→r x y H Q →
  subscripted slice false v u=operate [v,u] (getItem v u)→wpAny (model X.prog X.w) X.A (subscriptTail value slice v u) (EP X pins σ Q) X.xe s
noncomputable def MtR (X:Cx) (id:String) (r:V→List V→Hp→VK→Prop):Prop:=
 ∀ (pins:List (Addr×Obj)) (s:Shared) (σ:St) (H:Hp) (x:V) (xs:List V) (v:Value) (us:List Value) (Q:VK),Inv X pins σ H s→RelV x v→Vals xs us→r x xs H Q →
  wpAny (model X.prog X.w) X.A (call (.builtin id) (v::us)) (EP X pins σ Q) X.xe s
section
variable {X:Cx} {a b:Expr} {ta tb:TE} {pos:Pos}
theorem IxR.or {r r':R2} (h:IxR X r) (h':IxR X r'):IxR X (fun x y H Q=>r x y H Q∨r' x y H Q):=by
 intro value slice pins s σ H x y v u Q I rx ry q hs
 rcases q with q | q
 ·exact h value slice pins s σ H x y v u Q I rx ry q hs
 ·exact h' value slice pins s σ H x y v u Q I rx ry q hs
theorem Fx {r:R2} (hr:IxR X r) (ha:PE X a ta) (hb:PE X b tb) (hs:qz b):PE X (.Subscript a b pos) (tOp r ta tb):=by
 intro pins s σ H Q I h
 exact Subscript_ (G4 ha hb I h fun v u s2 x y H2 I2 rx ry q=>hr a b pins s2 σ H2 x y v u Q I2 rx ry q (hs _ _))
noncomputable def Hq (K:PySem.W.Frag):R2:=fun x y H Q=>∃ p xs i v,x=.ref p∧y=.int i∧SqL K H p xs∧atI xs i=some v∧Q v H
noncomputable def KD (K:PySem.W.Frag):R2:=fun x y H Q=>∃ p xs i v,x=.ref p∧y=.int i∧SqT K H p xs∧atI xs i=some v∧Q v H
theorem wR:IxR X (Hq X.K):=by
 intro value slice pins s σ H x y v u Q I rx ry h hs
 obtain ⟨p,xs,i,z,rfl,rfl,hq,he,q⟩:=h
 cases rx
 obtain ⟨t,rfl⟩:=ry
 obtain ⟨its,r,pl,hz⟩:=I.list hq
 obtain ⟨j,h1,h2,h3,h4,h5⟩:=wQ he
 obtain ⟨w,ew,rw'⟩:=r.get h2
 have hl:=r.length
 have hn:=mQ
 have fin:EP X pins σ Q w s:=⟨z,H,I,rw',q⟩
 by_cases h0:0≤i
 ·have hj:i.toNat=j:=by
   rw [seqIndex_of h0 h5] at h1
   exact Option.some.inj h1
  exact item_listR pl.isList h0 (by omega) (by rw [hj];simpa using ew) fin hs
 ·have hj:(i+(its.toArray.size:Int)).toNat=j:=by
   rw [seqIndex_neg (by omega) h4] at h1
   rw [List.size_toArray,← hl]
   exact Option.some.inj h1
  exact subscriptTail_builtinR (x:=w) pl.isList.typeIs slot_list_getitem.lookup
   (wpAny_getItem_list_neg (Q:=fun r s'=>r=w∧EP X pins σ Q r s') pl.isList (by omega) (by rw [List.size_toArray]<;>omega) (by omega) (by rw [hj];simpa using ew) ⟨rfl,fin⟩) hs
theorem Hr:IxR X (KD X.K):=by
 intro value slice pins s σ H x y v u Q I rx ry h hs
 obtain ⟨p,xs,i,z,rfl,rfl,hq,he,q⟩:=h
 cases rx
 obtain ⟨t,rfl⟩:=ry
 obtain ⟨its,r,pl,hz⟩:=I.tuple hq
 obtain ⟨j,h1,h2,h3,h4,h5⟩:=wQ he
 obtain ⟨w,ew,rw'⟩:=r.get h2
 have hl:=r.length
 have hn:=mQ
 have fin:EP X pins σ Q w s:=⟨z,H,I,rw',q⟩
 exact subscriptTail_builtinR (x:=w) pl.typeIs slot_tuple_getitem.lookup
  (getItem_tuple (j:=j) (Q:=fun r s'=>r=w∧EP X pins σ Q r s') pl (by omega) (by omega) (by rw [List.size_toArray,← hl];exact h1) (by simpa using ew) ⟨rfl,fin⟩) hs
theorem u7 (its:List Value) (n j:Nat) (u:Value):Obj.mapSeq (·.setIfInBounds j u) { cls:=.type "list",data:=.seq its.toArray n }={ cls:=.type "list",data:=.seq (its.set j u).toArray n }:=by
 simp [Obj.mapSeq]
theorem Inv.lst {pins:List (Addr×Obj)} {σ:St} {H:Hp} {s:Shared} {p:Addr} {xs:List V} (I:Inv X pins σ H s) (h:H p=some (.lst xs)) :
  ∃ (its:List Value) (n:Nat),Vals xs its∧s.heap.get? p=some { cls:=.type "list",data:=.seq its.toArray n }∧xs.length≤sizeLine:=by
 obtain ⟨z,its,n,r,e⟩:=I.hok p _ h
 exact ⟨its,n,r,e,z⟩
theorem Inv.Ht {pins:List (Addr×Obj)} {σ:St} {H:Hp} {s:Shared} {p:Addr} {xs ys:List V} {its its':List Value} {n n':Nat} {f:Obj→Obj} (I:Inv X pins σ H s) (h:H p=some (.lst xs))
  (ho:s.heap.get? p=some { cls:=.type "list",data:=.seq its.toArray n }) (hf:f { cls:=.type "list",data:=.seq its.toArray n }={ cls:=.type "list",data:=.seq its'.toArray n' }) (r:Vals ys its') (hz:ys.length≤sizeLine) (t:Nat) :
  Inv X pins σ (upd H p (.lst ys)) { s with heap:=s.heap.update p f,toks:=t }:=by
 have e:(s.heap.update p f).get? p=some { cls:=.type "list",data:=.seq its'.toArray n' }:=by
  rw [Heap.get?_update_self f ho (by rw [hf]<;>rfl),hf]
 refine I.write (x:=p) (e:=p) (by rw [h];trivial) (.inl rfl) (fun b u hb q=>(Heap.get?_update_other _ _ (Ne.symm hb)).trans q) ⟨_,e⟩ ?_
 exact ⟨hz,its',n',r,e⟩
noncomputable def Fy:V→V→V→Hp→(Hp→Prop)→Prop:=fun o i v H Q=>∃ p xs k j,o=.ref p∧i=.int k∧H p=some (.lst xs)∧ixN xs.length k=some j∧Q (upd H p (.lst (xs.set j v)))
theorem set_list:Ku X Fy:=by
 intro pins s σ H o i v ov iv u Q I ro ri rv h
 obtain ⟨p,xs,k,j,rfl,rfl,hp,hj,q⟩:=h
 cases ro
 obtain ⟨t,rfl⟩:=ri
 obtain ⟨its,n,r,ho,hz⟩:=I.lst hp
 obtain ⟨h1,h2,h3,h4⟩:=wO hj
 have hl:=r.length
 have hn:=mQ
 have I':Inv X pins σ (upd H p (.lst (xs.set j v))) { s with heap:=s.heap.update p (Obj.mapSeq (·.setIfInBounds j u)) }:=
  I.Ht hp ho (u7 its n j u) (r.set rv j) (by rw [List.length_set];exact hz) s.toks
 by_cases h0:0≤k
 ·have hk:k.toNat=j:=by
   rw [seqIndex_of h0 h4] at h1
   exact Option.some.inj h1
  exact PySem.W.ki_setAt ho h0 (by omega) (by rw [List.size_toArray,← hl];exact h4) (by rw [hk];exact ⟨_,I',q⟩)
 ·have hk:(k+(its.toArray.size:Int)).toNat=j:=by
   rw [seqIndex_neg (by omega) h3] at h1
   rw [List.size_toArray,← hl]
   exact Option.some.inj h1
  exact PySem.W.ki_setBack ho (by omega) (by rw [List.size_toArray,← hl];exact h3) (by omega) (by rw [hk];exact ⟨_,I',q⟩)
theorem qA:dw X (.builtin "len") (fun xs H Q=>∃ p ys,xs=[.ref p]∧(SqL X.K H p ys∨SqT X.K H p ys)∧Q (.int ys.length) H):=by
 intro pins s σ H xs us Q I r h
 obtain ⟨p,ys,rfl,hq,q⟩:=h
 obtain ⟨u,rfl,rx⟩:=vals1 r
 cases rx
 have hn:=mQ
 rcases hq with hq | hq
 ·obtain ⟨its,r',pl,hz⟩:=I.list hq
  have hlen:=r'.length
  exact Calls.call_len_list pl.isList (by simp only [List.size_toArray]<;>omega) ⟨.int ys.length,H,I.tok _,⟨s.toks+1,by rw [List.size_toArray,hlen]⟩,q⟩
 ·obtain ⟨its,r',pl,hz⟩:=I.tuple hq
  have hlen:=r'.length
  exact len_tuple pl (by simp only [List.size_toArray]<;>omega) ⟨.int ys.length,H,I.tok _,⟨s.toks+1,by rw [List.size_toArray,hlen]⟩,q⟩
theorem qB:dw X (.type "list") (fun xs H Q=>∃ p ys,xs=[.ref p]∧(SqL X.K H p ys∨SqT X.K H p ys)∧∀ l,H l=none→Q (.ref l) (upd H l (.lst ys))):=by
 intro pins s σ H xs us Q I r h
 obtain ⟨p,ys,rfl,hq,q⟩:=h
 obtain ⟨u,rfl,rx⟩:=vals1 r
 cases rx
 have fin:∀ (its:List Value),Vals ys its→ys.length≤sizeLine→∀ (h':Heap) (c':Nat),(∀ b o',s.heap.get? b=some o'→h'.get? b=some o') →
   h'.get? s.heap.objs.size=some { cls:=.type "list",dict:=none,data:=.seq its.toArray c',slots:=#[] }→EP X pins σ Q (.ref s.heap.objs.size) { s with heap:=h' }:=fun its r' hz h' c' kp e=>
  ⟨.ref s.heap.objs.size,_,I.laid (t':=s.toks) kp (Nat.le_refl _) (show aT X.prog X.w _ h' _ (.lst ys) from ⟨hz,its,c',r',e⟩),rfl,q _ (I.hok.fresh (Nat.le_refl _))⟩
 rcases hq with hq | hq
 ·obtain ⟨its,r',pl,hz⟩:=I.list hq
  have hlen:=r'.length
  obtain ⟨o,ho,hc,n,hd⟩:=pl.isList
  exact call_list_seq p (.inl rfl) ho hc hd (fun h' c' kp e=>fin its r' hz h' c' kp e) (by simp only [List.size_toArray]<;>omega)
 ·obtain ⟨its,r',pl,hz⟩:=I.tuple hq
  have hlen:=r'.length
  obtain ⟨o,ho,hc,n,hd⟩:=pl
  exact call_list_seq p (.inr rfl) ho hc hd (fun h' c' kp e=>fin its r' hz h' c' kp e) (by simp only [List.size_toArray]<;>omega)
theorem pG:dw X (.type "tuple") (fun xs H Q=>∃ p ys,xs=[.ref p]∧((SqL X.K H p ys∧∀ l,H l=none→Q (.ref l) (upd H l (.tup ys)))∨(SqT X.K H p ys∧Q (.ref p) H))):=by
 intro pins s σ H xs us Q I r h
 obtain ⟨p,ys,rfl,h⟩:=h
 obtain ⟨u,rfl,rx⟩:=vals1 r
 cases rx
 rcases h with ⟨hq,q⟩ | ⟨hq,q⟩
 ·obtain ⟨its,r',pl,hz⟩:=I.list hq
  have hlen:=r'.length
  refine call_tuple_list pl.isList (fun h' kp=>?_) (by simp only [List.size_toArray]<;>omega)
  have I1:Inv X pins σ H { s with heap:=h' }:=I.kept (t':=s.toks) kp
  have I2:Inv X pins σ (upd H h'.objs.size (.tup ys)) { s with heap:=h'.push { cls:=.type "tuple",data:=.seq its.toArray } }:=
   I1.laid (t':=s.toks) (fun b o e=>Heap.get?_push_of_some _ e) (Nat.le_refl _) (show aT X.prog X.w _ _ _ (.tup ys) from ⟨hz,its,r',IsTup.new _ _⟩)
  exact ⟨.ref h'.objs.size,_,I2,rfl,q _ (I1.hok.fresh (Nat.le_refl _))⟩
 ·obtain ⟨its,r',pl,hz⟩:=I.tuple hq
  exact call_tuple_same pl ⟨.ref p,H,I,rfl,q⟩
noncomputable def tyV (K:PySem.W.Frag) (T:String) (x:V) (H:Hp):Prop:=match x with
 | .str _=>T = "str"
 | .int _=>T = "int"
 | .ref p=>(T = "list" ∧ ∃ xs,SqL K H p xs)∨(T = "tuple" ∧ ∃ o,K.lookup p=some o∧o.cls=.type "tuple" ∧ o.dict=none) ∨
   (T = "dict" ∧ ((∃ kvs,H p=some (.dK kvs))∨∃ kvs,H p=some (.dT kvs)))∨(T = "set" ∧ ∃ S n,H p=some (.set S n))
 | _=>False
theorem Hu {pins:List (Addr×Obj)} {σ:St} {H:Hp} {s:Shared} {T:String} {x:V} {v:Value} (I:Inv X pins σ H s) (r:RelV x v) (ty:tyV X.K T x H) :
  s.TypeIs v T∧∀ a,v=.ref a→∃ ob,s.heap.get? a=some ob∧ob.dict=none:=by
 cases x with
 | str z=>
  obtain ⟨t,rfl⟩:=r
  cases (show T = "str" from ty)
  exact ⟨typeIs_str s z t,fun _ e=>nomatch e⟩
 | int i=>
  obtain ⟨t,rfl⟩:=r
  cases (show T = "int" from ty)
  exact ⟨typeIs_int s i t,fun _ e=>nomatch e⟩
 | ref p=>
  cases r
  rcases ty with ⟨rfl,xs,hq⟩ | ⟨rfl,o,hk,hc,hd⟩ | ⟨rfl,hk⟩ | ⟨rfl,S,n,hk⟩
  ·obtain ⟨its,_,pl,_⟩:=I.list hq
   refine ⟨pl.isList.typeIs,fun a e=>?_⟩
   cases e
   obtain ⟨o,n,e,c,hd,_⟩:=pl
   exact ⟨o,e,hd⟩
  ·refine ⟨⟨o,I.kIn p o hk,hc⟩,fun a e=>?_⟩
   cases e
   exact ⟨o,I.kIn _ o hk,hd⟩
  ·have z:∃ o,s.heap.get? p=some o∧o.ExactDict:=by
    rcases hk with ⟨kvs,hk⟩ | ⟨kvs,hk⟩
    ·obtain ⟨_,_,_,_,o,_,_,e,ex,_⟩:=I.hok p _ hk
     exact ⟨o,e,ex⟩
    ·obtain ⟨_,_,_,_,o,_,_,e,ex,_⟩:=I.hok p _ hk
     exact ⟨o,e,ex⟩
   obtain ⟨o,e,ex⟩:=z
   refine ⟨⟨o,e,ex.1⟩,fun a e2=>?_⟩
   cases e2
   exact ⟨o,e,ex.2.1⟩
  ·obtain ⟨o,_,_,_,e,ex,_⟩:=I.hok p _ hk
   refine ⟨⟨o,e,ex.1⟩,fun a e2=>?_⟩
   cases e2
   exact ⟨o,e,ex.2.1⟩
 | _=>exact False.elim ty
noncomputable def tBM (K:PySem.W.Frag) (T:String) (r:V→List V→Hp→VK→Prop) (to:TE) (t:TA):TE:=fun σ H Q=>to σ H fun x H1=>tyV K T x H1∧t σ H1 fun xs H2=>r x xs H2 Q
variable {o e:Expr} {es:List Expr} {to:TE} {t:TA} {name:Str} {apos cpos:Pos} {T id:String} {r:V→List V→Hp→VK→Prop}
theorem zW (pa:PlainAttrs T) (slot:Slot T name id) (hty:typeOf (.builtin id)=pure (.type "method_descriptor")) (hm:MtR X id r) (ho:PE X o to) (ha:PA X (e::es) t)
  (hbase:attributeBase o name X.env (eval o X.env)=eval o X.env:=by rfl)
  (hfew:((backTo cpos (starEach (e::es) X.env)).all (fun x=>!x.1)&&(backToKw cpos (keywordEach [] X.env)).all (fun x=>x.1.isSome)
   && decide ((e::es).length+([]:List Keyword).length+(if ([]:List Keyword).isEmpty then 0 else 1)<30))=true:=by rfl)
  (hline:(apos.endLine == cpos.line)=true:=by rfl) (hs:starEach (e::es) X.env=(false,eval e X.env)::starEach es X.env:=by rfl) (hplain:(backTo cpos (starEach es X.env)).any (·.1)=false:=by rfl) :
  PE X (.Call (.Attribute o name apos) (e::es) [] cpos) (tBM X.K T r to t):=by
 intro pins s σ H Q I h
 refine wpAny_Call_method_late hbase hfew hline rfl (thn (ho pins s σ H _ I h) fun v s1 ⟨x,H1,I1,r1,ty,q1⟩=>?_)
 obtain ⟨h1,h2⟩:=Hu I1 r1 ty
 refine ⟨T,id,pa,slot,hty,h1,h2,?_⟩
 have hA:=ha cpos pins s1 σ H1 _ I1 q1
 rw [hs] at hA ⊢
 refine Calls.callWith_builtin (by show (false||(backTo cpos (starEach es X.env)).any (·.1))=false;rw [hplain]<;>rfl) (Calls.evalArgs_plain ?_)
 exact thn hA fun us s2 ⟨vs,H2,I2,r2,q2⟩=>hm pins s2 σ H2 x vs v us Q I2 r1 r2 q2
end
noncomputable def MtM (X:Cx) (id:String) (r:V→List V→Hp→VK→Prop):Prop:=
 ∀ (pins:List (Addr×Obj)) (s:Shared) (σ:St) (H:Hp) (x:V) (xs:List V) (v:Value) (us:List Value) (Q:VK),Inv X pins σ H s→RelV x v→Vals xs us→r x xs H Q →
  wpAny (model X.prog X.w) X.A (call (.builtin id) (v::us)) (EP X pins σ Q) X.xe s
theorem Vals.one:∀ {x:V} {us:List Value},Vals [x] us→∃ u,us=[u]∧RelV x u
 | _,_,.cons r .nil=>⟨_,rfl,r⟩
theorem Vals.eraseIdx:∀ {xs:List V} {us:List Value} (i:Nat),Vals xs us→Vals (xs.eraseIdx i) (us.eraseIdx i)
 | _,_,_,.nil=>.nil
 | _,_,0,.cons _ t=>t
 | _,_,i+1,.cons r t=>.cons r (Vals.eraseIdx i t)
theorem Vals.rep {xs:List V} {us:List Value} (h:Vals xs us):∀ k:Nat,Vals (List.replicate k xs).flatten (List.replicate k us).flatten
 | 0=>.nil
 | k+1=>by
  rw [List.replicate_succ,List.replicate_succ,List.flatten_cons,List.flatten_cons]
  exact Vals.append h (Vals.rep h k)
theorem pW {α:Type}:∀ (l:List α) (i:Nat),(l.eraseIdx i).length≤l.length
 | [],_=>Nat.le_refl _
 | _::_,0=>Nat.le_succ _
 | _::r,i+1=>Nat.succ_le_succ (pW r i)
theorem foldl_rep (its:List Value):∀ (k:Nat) (acc:List Value),
  List.foldl (fun x1 x2=>x1++x2) acc.toArray (List.replicate k its.toArray)=(acc++(List.replicate k its).flatten).toArray
 | 0,acc=>by simp
 | k+1,acc=>by
  have e:acc.toArray++its.toArray=(acc++its).toArray:=by simp
  have e2:(acc++its)++(List.replicate k its).flatten=acc++(List.replicate (k+1) its).flatten:=by
   rw [List.replicate_succ,List.flatten_cons,List.append_assoc]
  rw [← e2,← foldl_rep its k (acc++its),← e,List.replicate_succ,List.foldl_cons]
section
variable {X:Cx} {pins:List (Addr×Obj)} {σ:St} {H:Hp} {s:Shared} {l b:Addr} {xs ys zs:List V}
theorem Inv.KG {its its':List Value} {n:Nat} {f:Array Value→Array Value} {t':Nat} (I:Inv X pins σ H s) (hH:H l=some (.lst xs))
  (e:s.heap.get? l=some { cls:=.type "list",data:=.seq its.toArray n }) (hf:f its.toArray=its'.toArray) (hv:Vals ys its') (hz:ys.length≤sizeLine) :
  Inv X pins σ (upd H l (.lst ys)) { s with heap:=s.heap.update l (Obj.mapSeq f),toks:=t' }:=by
 have q:=PySem.IsL.update e f
 rw [hf] at q
 refine I.write (x:=l) (e:=l) (by rw [hH];exact trivial) (.inl rfl) (fun b' u hb hu=>(Heap.get?_update_other s.heap (Obj.mapSeq f) (Ne.symm hb)).trans hu) ⟨_,q⟩ ?_
 exact ⟨hz,its',_,hv,q⟩
theorem Inv.Hv {its:List Value} {t':Nat} (I:Inv X pins σ H s) (hv:Vals ys its) (hz:ys.length≤sizeLine) :
  Inv X pins σ (upd H s.heap.objs.size (.lst ys)) { s with heap:=s.heap.push { cls:=.type "list",data:=.seq its.toArray },toks:=t' }:=
 I.laid (fun _ _ q=>Heap.get?_push_of_some _ q) (Nat.le_refl _) ⟨hz,its,0,hv,Heap.get?_push_size _ rfl⟩
theorem Inv.fresh (I:Inv X pins σ H s):H s.heap.objs.size=none:=I.hok.fresh (Nat.le_refl _)
theorem Inv.KH (I:Inv X pins σ H s) (hH:H l=some (.lst xs)):xs.length≤sizeLine∧∃ (its:List Value) (n:Nat),Vals xs its∧xs.length=its.length∧s.heap.get? l=some { cls:=.type "list",data:=.seq its.toArray n }:=by
 obtain ⟨z,its,n,r,e⟩:=I.hok l _ hH
 exact ⟨z,its,n,r,r.length,e⟩
theorem zX {n:Nat} (h:n≤sizeLine):Builtin.List.listTooLong n=false:=by
 unfold Builtin.List.listTooLong
 exact decide_eq_false (by omega)
end
section
variable {X:Cx}
noncomputable def qC:V→List V→Hp→VK→Prop:=fun x vs H Q=>∃ l xs y,x=.ref l∧vs=[y]∧H l=some (.lst xs)∧xs.length<sizeLine∧Q .non (upd H l (.lst (xs++[y])))
theorem kD:MtM X "list.append" qC:=by
 intro pins s σ H x vs v us Q I rx rv h
 obtain ⟨l,xs,y,rfl,rfl,hH,hz,q⟩:=h
 cases rx
 obtain ⟨u,rfl,ru⟩:=rv.one
 obtain ⟨z,its,n,r,hl,e⟩:=I.KH hH
 refine call_meets F.slot_list_append ⟨_,e,rfl⟩ F.entry_list_append (F.args_list_append_2 _ _) (PySem.list_append l its.toArray n u (by rw [List.size_toArray];omega)) ⟨e,?_⟩
 refine ⟨.non,_,I.KG (its':=its++[u]) hH e (by simp) (r.append (.cons ru .nil)) ?_,rfl,q⟩
 rw [List.length_append,List.length_singleton]
 omega
noncomputable def zY:V→List V→Hp→VK→Prop:=fun x vs H Q=>∃ l xs i k y,x=.ref l∧vs=[.int i]∧H l=some (.lst xs)∧-(2 ^ 63)≤i∧i<2 ^ 63∧seqIndex? i xs.length=some k∧xs[k]?=some y∧Q y (upd H l (.lst (xs.eraseIdx k)))
theorem zZ:MtM X "list.pop" zY:=by
 intro pins s σ H x vs v us Q I rx rv h
 obtain ⟨l,xs,i,k,y,rfl,rfl,hH,h1,h2,hk,hy,q⟩:=h
 cases rx
 obtain ⟨u,rfl,ru⟩:=rv.one
 obtain ⟨t,rfl⟩:=ru
 obtain ⟨z,its,n,r,hl,e⟩:=I.KH hH
 obtain ⟨w,hw,rw'⟩:=r.get hy
 refine call_meets F.slot_list_pop ⟨_,e,rfl⟩ F.entry_list_pop (F.args_list_pop_2 _ _)
  (MeetsSeq.list_pop_at l its.toArray n i t k w (fitsIndex_both h1 h2) (by rw [List.size_toArray,← hl];exact hk) (by rw [← Array.getElem?_toList];exact hw) (by rw [List.size_toArray];omega)) ⟨e,?_⟩
 refine ⟨y,_,I.KG (its':=its.eraseIdx k) hH e ?_ (r.eraseIdx k) ?_,rw',q⟩
 ·show its.toArray.eraseIdxIfInBounds k=(its.eraseIdx k).toArray
  rw [List.eraseIdxIfInBounds_toArray]
 ·have:=pW xs k
  omega
theorem len_rep {α:Type} (xs:List α) (k:Nat):(List.replicate k xs).flatten.length=k*xs.length:=by
 induction k with
 | zero=>simp
 | succ k ih=>rw [List.replicate_succ,List.flatten_cons,List.length_append,ih,Nat.succ_mul,Nat.add_comm]
end
section
variable {prog:Program} {w:World} {A:Around} {E:Value→Shared→Prop} {s:Shared}
set_option maxRecDepth 100000 in
end
section
variable {X:Cx}
end
end L2
namespace Att
open PySem PySem.W PySem.Calls PyProof.Rows
theorem l8 {P:Params} {h:Heap}:∀ (ns:List Int) (vs:List Value),WellAll P h vs (ns.map WData.int)→IntsAre vs ns:=by
 intro ns
 induction ns with
 | nil=>
  intro vs w
  rw [List.map_nil] at w
  cases w
  exact .nil
 | cons n ns ih=>
  intro vs w
  rw [List.map_cons] at w
  cases w with
  | cons a b=>
   cases a
   exact .cons _ _ (ih _ b)
theorem yE {l:OpenLaw} {n:Nat} (hn:l.most=some n) {P:Params} {h:Heap} {args:List WData} {vals:List Value}
  (hpre:l.row.toRowW.claim.pre args=true) (hwl:WellAll P h vals args) :
  ∃ a vs ns,vals=[Value.ref a]∧args=[WData.list (ns.map WData.int)]∧h.get? a=some { cls:=.type "list",data:=.seq vs.toArray }∧IntsAre vs ns∧ns.length≤n:=by
 have hsh:WShape.hasAll [] args [.list .int]=true:=(pre_splitW hpre).1
 have hc:l.pre.holds [] { args:=args }=true:=(pre_splitW hpre).2
 obtain ⟨d,r,rfl,h1,h2⟩:=hasAllW_cons hsh
 obtain rfl:=hasAllW_nil h2
 obtain ⟨xs,rfl,h3⟩:=hasW_list h1
 obtain ⟨ns,rfl⟩:=items_int h3
 have hlen:ns.length≤n:=by
  unfold OpenLaw.pre at hc
  have h4:(WTm.not (.lt (.lit (.int (n:Int))) (.len (.arg 0)))).holds [] { args:=[.list (ns.map .int)] }=true:=by
   have h4:=(holds_andW hc).1
   rw [hn] at h4
   exact h4
  have h5:=condW_of h4 (w_not (w_lt w_lit (w_len_list (w_arg rfl))))
  rw [List.length_map] at h5
  refine Nat.le_of_not_lt fun q=>?_
  have q':(n:Int)<((ns.length:Nat):Int):=by omega
  first
   | (rw [decide_eq_true q'] at h5;exact absurd h5 (by decide))
   | (simp at h5;omega)
 cases hwl with
 | cons w1 w2=>
  cases w2
  cases w1 with
  | list ho hall=>exact ⟨_,_,ns,rfl,rfl,ho,l8 ns _ hall,hlen⟩
theorem yF (l:OpenLaw) (args:List WData):l.row.toRowW.claim.post args (.bool true) args=true:=
 postW_of (r:=l.row.toRowW) (X:=(true == true))
  (show WShape.has [] (.bool true) .bool=true by first | rfl | decide | simp [WShape.has,WShape.arms,WShape.armsAll])
  (show (WTm.eq .res (.lit (.bool true))).value [] { args:=args,res:=some (.bool true),after:=args }=some (.bool (true == true)) from w_eq_bool (w_res rfl) w_lit) rfl
theorem sd {l:OpenLaw} {n:Nat} {q:Program} {loose:List Str} {XP:(Str→Option Value)→Heap→Prop} {YP:World→Heap→Prop} {d:DefRec}
  (hn:l.most=some n) (hdf:d.params.defaults=[])
  (call:∀ (w:World) (s₀ s₁:Shared) (mg mb:Str→Option Value) (fa:Addr) (o:Obj) (pm cd doc:Value) (a:Addr) (vs:List Value) (ns:List Int),
   Ground q loose [] XP w s₀ mg mb s₁.heap→YP w s₁.heap →
   s₁.heap.get? fa=some o→o.data=.func (docDef d.name d.params d.body d.scope pm cd doc)→s₁.heap.CodeRec cd d.name→mg d.name=some (.ref fa) →
   s₁.heap.get? a=some { cls:=.type "list",data:=.seq vs.toArray }→IntsAre vs ns→ns.length≤n→s₁.gens=#[] →
   codeAny (model l.prog w) callerA (.call (.ref fa) ⟨[.ref a],[]⟩) (fun r s'=>r=.ok (.ret (.bool true))∧OldK s₁.heap s'.heap∧s'.os=s₁.os∧AllBare s'.gens) s₁) :
  WalkO q loose XP YP l.row.toRowW d [] (fun f vs=>PySem.call f vs):=by
 intro w s₀ s₁ mg mb G Y fa o pm cd doc dV kV ho hd hcd hD hmg hg args vals as hpre hlay hrd hwl hlo
 obtain rfl:dV=.none:=Dflts.none hD hdf
 obtain rfl:kV=.none:=Dflts.noKw hD
 obtain ⟨a,vs,ns,rfl,rfl,hobj,hints,hlen⟩:=yE hn hpre hwl
 refine enter_call (codeAny_mono (call w s₀ s₁ mg mb fa o pm cd doc a vs ns G Y ho (fd_plain hd) hcd hmg hobj hints hlen hg) fun r s' hq=>?_)
 obtain ⟨rfl,h2,h3,h4⟩:=hq
 exact ⟨.inl ⟨.bool true,.bool true,[],rfl,fun _=>rfl,.bool true,yF l _,fun _=>⟨List.Pairwise.nil,fun _ hm=>(nomatch hm)⟩⟩,h2,h3,h4⟩
section
variable {prog:Program} {w:World} {A:Around} {E:Value→Shared→Prop} {s:Shared} {K:Frag}
end
end Att
namespace L2
open PySem PySem.Spec PyProof.Rows
theorem eL:∀ {vs:List Value} {ns:List Int},IntsAre vs ns→Vals (ns.map V.int) vs
 | _,_,.nil=>.nil
 | _,_,.cons n t h=>.cons ⟨t,rfl⟩ (eL h)
noncomputable def Hw (H:Hp):Prop:=∀ b,H b=none∨∃ o xs,H b=some (.frz o (.lst xs))
theorem z0 {P:Program} {w:World} {K:PySem.W.Frag} {mg mb:Str→Option Value} {CX:CXT} {k:Nat} {fa a:Addr} {fd:FuncData} {x:Str} {sp:Sp} {s₁:Shared} {vs:List Value} {ns:List Int}
  (KX:K.In s₁.heap) (hns:s₁.heap.Ns mainGlobals mg) (hb:s₁.heap.Ns builtinsNs mb) (hbb:∀ x:Str,x ≠ "__name__" → mb x=bootBuiltins x) (hlim:s₁.heap.NoLimit) (hg:s₁.gens=#[])
  (ha:s₁.heap.get? a=some { cls:=.type "list",data:=.seq vs.toArray }) (hi:IntsAre vs ns) (hl:ns.length≤sizeLine) (hr:bB k callerA)
  (F:∀ base:Heap,K.In base→base.Ns mainGlobals mg→aR P w K mg base CX k fa fd [x] sp) (hbind:∀ (s:Shared) (u:Value),BindsTo s fd ⟨[u],[]⟩ [(x,u)])
  (hsp:∀ H:Hp,Hw H→SqL K H a (ns.map V.int)→sp [.ref a] H (fun v _=>v=.bl true) fun _ _ _=>False)
  (hCX:∀ H e s',CX [] H s₁ (fun _ _ _=>False) e s'→False) :
  codeAny (model P w) callerA (.call (.ref fa) ⟨[.ref a],[]⟩) (fun r s'=>r=.ok (.ret (.bool true))∧OldK s₁.heap s'.heap∧s'.os=s₁.os∧AllBare s'.gens) s₁:=by
 have rv:=eL hi
 have MY:=hi.length
 have core:∀ H:Hp,Hw H→SqL K H a (ns.map V.int)→HOk P w H s₁.heap→(∀ b,H b≠none→b=a)→(H a≠none→K.lookup a=none) →
   codeAny (model P w) callerA (.call (.ref fa) ⟨[.ref a],[]⟩) (fun r s'=>r=.ok (.ret (.bool true))∧OldK s₁.heap s'.heap∧s'.os=s₁.os∧AllBare s'.gens) s₁:=by
  intro H hO hS hok hA hK
  have wU:∀ {b:Addr} {o:Obj},s₁.heap.get? b=some o→H b=none→(qv s₁.heap H).get? b=some o:=fun e n=>zz e n
  have noA:∀ {b:Addr} {o:Obj} {es:Array DictEntry} {ep:Nat},s₁.heap.get? b=some o→o.data=.dict es ep→H b=none:=fun {b o es ep} e d=>by
   cases q:H b with
   | none=>rfl
   | some u=>
    have e':b=a:=hA b (by rw [q];simp)
    subst e'
    rw [ha] at e;cases e
    have d':Data.seq vs.toArray _=Data.dict es ep:=d
    cases d'
  have nsK:∀ {b:Addr} {m:Str→Option Value},s₁.heap.Ns b m→(qv s₁.heap H).Ns b m:=fun {b m} ⟨o,es,ep,e,d,r⟩=>⟨o,es,ep,wU e (noA e d),d,r⟩
  have hKb:K.In (qv s₁.heap H):=fun b o e=>wU (KX b o e) (by
   cases q:H b with
   | none=>rfl
   | some u=>
    have e':b=a:=hA b (by rw [q];simp)
    subst e'
    rw [hK (by rw [q];simp)] at e;cases e)
  have hM:Mod K mg (qv s₁.heap H):=⟨hKb,nsK hns,⟨mb,nsK hb,hbb⟩,let ⟨mc,h1,h2⟩:=hlim;⟨mc,nsK h1,h2⟩⟩
  have e0:Dt P w K mg (qv s₁.heap H) callerA [] s₁ H:=⟨rfl,hM,fun b o e=>Df e,Nat.le_of_eq (yj _ _),trivial,fun b hb=>absurd (show b∈([]:List Addr) from hb) (by simp),hok,.of_eq hg⟩
  refine codeAny_mono ((F _ hKb (nsK hns)).run callerA [] s₁ H ⟨[.ref a],[]⟩ [.ref a] [.ref a] _ _ hr e0 (hbind s₁ (.ref a)) (.cons rfl .nil) (hsp H hO hS)) fun r s' h=>?_
  cases r with
  | error e=>exact (hCX H e s' h).elim
  | ok fl=>
   cases fl with
   | next=>exact False.elim h
   | brk=>exact False.elim h
   | cont=>exact False.elim h
   | ret u=>
    obtain ⟨v,H',os,bare,un,MZ,r',q⟩:=h
    have q':v=.bl true:=q
    subst q'
    obtain rfl:u=Value.bool true:=r'
    refine ⟨rfl,OldK.of_keep fun b o e=>?_,os,bare⟩
    cases q:H b with
    | none=>exact un.keep b o e q (by intro z;exact absurd (show b∈([]:List Addr) from z) (by simp)) (by simp)
    | some u=>
     rcases hO b with z | ⟨ob,xs,z⟩
     ·rw [q] at z;cases z
     ·have z2:=un.l6 b ob _ z
      obtain ⟨e1,_⟩:=hok b _ z
      obtain ⟨e2,_⟩:=MZ b _ z2
      rw [e] at e1;cases e1
      exact e2
 cases hk:K.lookup a with
 | some o=>
  have e:=KX a o hk
  rw [ha] at e
  cases e
  refine core (fun _=>none) (fun _=>.inl rfl) (.inr ⟨_,vs.toArray,_,hk,rfl,rfl,rfl,by rw [List.size_toArray,MY];exact hl,by simpa using rv⟩) (fun b u z=>by have z':(none:Option HO)=some u:=z;cases z') (fun b z=>absurd rfl z) fun z=>absurd rfl z
 | none=>
  refine core (fun b=>if b=a then some (.frz { cls:=.type "list",data:=.seq vs.toArray } (.lst (ns.map V.int))) else none) (fun b=>?_) (.inl (.inr ⟨{ cls:=.type "list",data:=.seq vs.toArray },if_pos rfl⟩)) (fun b u z=>?_) (fun b z=>?_) fun _=>hk
  ·by_cases hb:b=a
   ·exact .inr ⟨_,_,if_pos hb⟩
   ·exact .inl (if_neg hb)
  ·by_cases hb:b=a
   ·have z':=(if_pos hb).symm.trans z
    cases z'
    subst hb
    exact ⟨ha,by rw [List.length_map];exact hl,vs,_,rv,ha⟩
   ·have z':=(if_neg hb).symm.trans z
    cases z'
  ·by_cases hb:b=a
   ·exact hb
   ·exact absurd (if_neg hb) z
theorem Du {l:PySem.W.OpenLaw} {n k:Nat} {q:Program} {loose:List Str} {XP:(Str→Option Value)→Heap→Prop} {YP:World→Heap→Prop} {d:DefRec} {K:Params→PySem.W.Frag} {CX:World→CXT} {sp:World→Sp} {x:Str}
  (hn:l.most=some n) (hn2:n≤sizeLine) (hdf:d.params.defaults=[]) (hr:bB k callerA)
  (hY:∀ (w:World) (h:Heap),YP w h→(K w.params).In h)
  (F:∀ (w:World) (mg:Str→Option Value) (fa:Addr) (h:Heap),(K w.params).In h→h.Ns mainGlobals mg→mg d.name=some (.ref fa) →
   ∃ fd:FuncData,(∀ (s:Shared) (u:Value),BindsTo s fd ⟨[u],[]⟩ [(x,u)]) ∧
    ∀ base:Heap,(K w.params).In base→base.Ns mainGlobals mg→aR l.prog w (K w.params) mg base (CX w) k fa fd [x] (sp w))
  (hsp:∀ (w:World) (H:Hp) (a:Addr) (ns:List Int),ns.length≤n→Hw H→SqL (K w.params) H a (ns.map V.int)→sp w [.ref a] H (fun v _=>v=.bl true) fun _ _ _=>False)
  (hCX:∀ (w:World) (H:Hp) (s:Shared) (e:Value) (s':Shared),CX w [] H s (fun _ _ _=>False) e s'→False) :
  PySem.W.WalkO q loose XP YP l.row.toRowW d [] (fun f vs=>PySem.call f vs):=by
 refine Att.sd hn hdf fun w s₀ s₁ mg mb fa o pm cd doc a vs ns G Y ho hd hcd hmg hobj hints hlen hg=>?_
 have KX:=hY w _ Y
 obtain ⟨fd,hb,hF⟩:=F w mg fa _ KX G.T.g hmg
 exact z0 KX G.T.g G.T.b G.T.builtins G.T.nolimit hg hobj hints (Nat.le_trans hlen hn2) hr hF hb (fun H hO hS=>hsp w H a ns hlen hO hS) fun H e s'=>hCX w H s₁ e s'
noncomputable def aL (s:Stmt):Arguments:=match s with
 | .FunctionDef _ a _ _ _ _ _ _ _ _=>a
 | _=>{ posonlyargs:=[],args:=[],vararg:=none,kwonlyargs:=[],kw_defaults:=[],kwarg:=none,defaults:=[] }
noncomputable def aH (s:Stmt):List Stmt:=match s with
 | .FunctionDef _ _ b _ _ _ _ _ _ _=>b
 | _=>[]
noncomputable def ah (s:Stmt):Scope:=match s with
 | .FunctionDef _ _ _ _ _ _ sc _ _ _=>sc
 | _=>{ kind:=.function,names:=[],isGenerator:=false,isCoroutine:=false }
noncomputable abbrev CX0:CXT:=fun _ _ _ _ _ _=>False
noncomputable abbrev E0:XK:=fun _ _ _=>False
theorem se {X:Cx}:Passes CX0 X E0:=fun _ _ _ _ _ _ _ h=>h.elim
structure Fun (K:PySem.W.Frag) (x qual:Str) (st:Stmt) (f:Addr) (fd:FuncData):Prop where
 ex:∃ (oc:Value) (od:Option Addr) (kV doc pm:Value) (an:Option Addr) (cdv ct:Value) (osl:Array (Option Value)),
  fd=PySem.W.fnOf x qual (aL st) (aH st) (ah st) .none kV doc pm an cdv ct∧K.lookup f=some ⟨oc,od,.func fd,osl⟩∧PySem.W.codeIn K cdv qual=true
 kp:PySem.W.keepIn K (.ref f)=true
section
variable {P:Program} {w:World} {K:PySem.W.Frag} {mg:Str→Option Value} {base:Heap}
theorem Fun.ok {x qual:Str} {st:Stmt} {f:Addr} {fd:FuncData} {N ps:List Str} {k:Nat} {sp:Sp} (F:Fun K x qual st f fd) (S:ay N ps (ah st)) (len:∀ vs H Q E,sp vs H Q E→vs.length=ps.length)
  (hbody:∀ (cdv:Value) (A:Around) (outer:List Env) (s:Shared) (H:Hp) (vs:List V) (Q:VK) (E:XK),bB k (A.deeper (envOfC qual (ah st) s.heap.objs.size f cdv))→sp vs H Q E →
   ∃ t,PSs (e8 CX0 P w K mg base N qual (ah st) f cdv A outer s H E).nox (aH st) t∧t { nx:=fun _ H'=>Q .non H',rt:=Q } (start N vs) H):aR P w K mg base CX0 (k+1) f fd ps sp:=by
 obtain ⟨oc,od,kV,doc,pm,an,cdv,ct,osl,rfl,lk,hcd⟩:=F.ex
 refine wN lk hcd S len fun A outer s H vs Q E hr hsp=>?_
 obtain ⟨t,h,q⟩:=hbody cdv A outer s H vs Q E hr hsp
 exact ⟨t,h.nox,q⟩
theorem Fun.binds {x qual:Str} {st:Stmt} {f:Addr} {fd:FuncData} {ps:List Str} (F:Fun K x qual st f fd)
  (h:∀ (kV doc pm:Value) (an:Option Addr) (cdv ct:Value) (us:List Value),us.length=ps.length→bindArgs (PySem.W.fnOf x qual (aL st) (aH st) (ah st) .none kV doc pm an cdv ct) ⟨us,[]⟩=pure (ps.zip us)):Binds K fd ps []:=by
 obtain ⟨oc,od,kV,doc,pm,an,cdv,ct,osl,rfl,lk,hcd⟩:=F.ex
 exact .all (h kV doc pm an cdv ct)
theorem Hx {x qual:Str} {st:Stmt} {f:Addr} {oc:Value} {od an:Option Addr} {osl:Array (Option Value)} {kV doc pm cdv ct:Value} (l:K.lookup f=some ⟨oc,od,.func (PySem.W.fnOf x qual (aL st) (aH st) (ah st) .none kV doc pm an cdv ct),osl⟩)
  (c:PySem.W.codeIn K cdv qual=true) (k:PySem.W.keepIn K (.ref f)=true):Fun K x qual st f (PySem.W.fnOf x qual (aL st) (aH st) (ah st) .none kV doc pm an cdv ct):=⟨⟨oc,od,kV,doc,pm,an,cdv,ct,osl,rfl,l,c⟩,k⟩
end
theorem yG {n:Nat} (h:n≤1000):n<sizeLine:=Nat.lt_of_le_of_lt h (by decide)
section
variable {X:Cx}
end
noncomputable def ak (H H':Hp):Prop:=∀ b o,H b=some o→H' b=some o
theorem ak.refl (H:Hp):ak H H:=fun _ _ h=>h
theorem ak.trans {H H1 H2:Hp} (a:ak H H1) (b:ak H1 H2):ak H H2:=fun c o h=>b c o (a c o h)
theorem ak.free {H H':Hp} (e:ak H H') {l:Addr} (h:H' l=Option.none):H l=Option.none:=by
 cases q:H l with
 | none=>rfl
 | some o=>
  rw [e l o q] at h
  cases h
section
variable {κ:Type} [DecidableEq κ]
noncomputable def iB (kvs:List (κ×V)) (k:κ):Option V:=(kvs.find? fun kv=>decide (kv.1=k)).map (·.2)
noncomputable def putK (kvs:List (κ×V)) (k:κ) (v:V):List (κ×V):=
 if (kvs.any fun kv=>decide (kv.1=k))=true then kvs.map (fun kv=>if kv.1=k then (kv.1,v) else kv) else kvs++[(k,v)]
noncomputable def lg (kvs:List (κ×V)) (k:κ):List (κ×V):=kvs.filter fun kv=>decide (kv.1≠k)
theorem jL {p:κ×V} {r:List (κ×V)} {k:κ} (e:p.1=k):iB (p::r) k=some p.2:=by simp [iB,List.find?_cons,e]
theorem jM {p:κ×V} {r:List (κ×V)} {k:κ} (e:¬ p.1=k):iB (p::r) k=iB r k:=by simp [iB,List.find?_cons,e]
theorem sj (k:κ):∀ kvs:List (κ×V),(kvs.any fun kv=>decide (kv.1=k))=(iB kvs k).isSome
 | []=>rfl
 | p::r=>by
  rw [List.any_cons]
  by_cases e:p.1=k
  ·simp only [jL e,decide_eq_true e,Bool.true_or,Option.isSome_some]
  ·rw [jM e,decide_eq_false e,Bool.false_or];exact sj k r
theorem fY (kvs:List (κ×V)) (k:κ) (v:V):(putK kvs k v).length≤kvs.length+1:=by
 unfold putK
 split
 ·rw [List.length_map];omega
 ·rw [List.length_append,List.length_cons,List.length_nil];omega
theorem jG.eN {o:Option V} {u:Option Value} (r:jG o u):o.isSome=u.isSome:=by
 cases o with
 | none=>cases u with
  | none=>rfl
  | some _=>exact (show False from r).elim
 | some _=>cases u with
  | none=>exact (show False from r).elim
  | some _=>rfl
theorem jG.getD {o:Option V} {u:Option Value} {d:V} {d':Value} (r:jG o u) (rd:RelV d d'):RelV (o.getD d) (u.getD d'):=by
 cases o with
 | none=>cases u with
  | none=>exact rd
  | some _=>exact (show False from r).elim
 | some _=>cases u with
  | none=>exact (show False from r).elim
  | some _=>exact r
theorem KV.val {kvs:List (κ×V)} {vs:List (κ×Value)} (r:KV kvs vs) (k:κ):jG (iB kvs k) (valueAt vs k):=by
 unfold KV at r
 induction r with
 | nil=>exact True.intro
 | @cons p q ps qs h t ih=>
  obtain ⟨h1,h2⟩:=h
  by_cases e:p.1=k
  ·have e':q.1=k:=h1.symm.trans e
   have b:valueAt (q::qs) k=some q.2:=by simp [valueAt,List.find?_cons,e']
   rw [jL e,b];exact h2
  ·have e':¬ q.1=k:=fun z=>e (h1.trans z)
   have b:valueAt (q::qs) k=valueAt qs k:=by simp [valueAt,List.find?_cons,e']
   rw [jM e,b];exact ih
theorem KV.any {kvs:List (κ×V)} {vs:List (κ×Value)} (r:KV kvs vs) (k:κ):(kvs.any fun kv=>decide (kv.1=k))=vs.any fun kv=>decide (kv.1=k):=by
 unfold KV at r
 induction r with
 | nil=>rfl
 | cons h t ih=>rw [List.any_cons,List.any_cons,ih,h.1]
theorem KV.repl {kvs:List (κ×V)} {vs:List (κ×Value)} (r:KV kvs vs) (k:κ) {y:V} {u:Value} (ry:RelV y u) :
  KV (kvs.map fun kv=>if kv.1=k then (kv.1,y) else kv) (vs.map fun kv=>if kv.1=k then (kv.1,u) else kv):=by
 unfold KV at r ⊢
 induction r with
 | nil=>exact .nil
 | @cons p q ps qs h t ih=>
  rw [List.map_cons,List.map_cons]
  refine .cons ?_ ih
  obtain ⟨h1,h2⟩:=h
  by_cases e:p.1=k
  ·rw [if_pos e,if_pos (h1.symm.trans e)];exact ⟨h1,ry⟩
  ·rw [if_neg e,if_neg (fun z=>e (h1.trans z))];exact ⟨h1,h2⟩
theorem KV.put {kvs:List (κ×V)} {vs:List (κ×Value)} (r:KV kvs vs) (k:κ) {y:V} {u:Value} (ry:RelV y u):KV (putK kvs k y) (stored vs k u):=by
 unfold putK stored
 rw [r.any k]
 by_cases e:(vs.any fun kv=>decide (kv.1=k))=true
 ·rw [if_pos e,if_pos e];exact r.repl k ry
 ·rw [if_neg e,if_neg e];exact Paired.snoc r ⟨rfl,ry⟩
theorem KV.drop {kvs:List (κ×V)} {vs:List (κ×Value)} (r:KV kvs vs) (k:κ):KV (lg kvs k) (without vs k):=by
 unfold KV at r ⊢
 unfold lg without
 induction r with
 | nil=>exact .nil
 | @cons p q ps qs h t ih=>
  obtain ⟨h1,h2⟩:=h
  rw [List.filter_cons,List.filter_cons]
  by_cases e:p.1=k
  ·have a:¬ decide (p.1≠k)=true:=by simp [e]
   have b:¬ decide (q.1≠k)=true:=by simp [h1.symm.trans e]
   rw [if_neg a,if_neg b];exact ih
  ·have e':¬ q.1=k:=fun z=>e (h1.trans z)
   have a:decide (p.1≠k)=true:=by simp [e]
   have b:decide (q.1≠k)=true:=by simp [e']
   rw [if_pos a,if_pos b];exact .cons ⟨h1,h2⟩ ih
theorem KV.length {kvs:List (κ×V)} {vs:List (κ×Value)} (r:KV kvs vs):kvs.length=vs.length:=Paired.length r
theorem z4 (kvs:List (κ×V)) (k:κ):(lg kvs k).length≤kvs.length:=List.length_filter_le _ _
end
theorem lq {P:Program} {w:World} {k:Key} {u:Value} (r:RelV (kV k) u):(bh P w).is k u=true:=by
 cases k with
 | inl i=>obtain ⟨t,e⟩:=(show ∃ t,u=Value.int i t from r);subst e;exact rW P w i t
 | inr x=>obtain ⟨t,e⟩:=(show ∃ t,u=Value.str x t from r);subst e;exact rX P w x t
theorem pX {P:Program} {w:World}:∀ {ks:List Key} {us:List Value},Vals (ks.map kV) us→ItemsAre (bh P w) ks us
 | [],_,r=>by rw [List.map_nil] at r;cases r;exact .nil
 | k::ks,_,r=>by
  rw [List.map_cons] at r
  cases r with
  | cons h t=>exact .cons (lq h) (pX t)
noncomputable abbrev KT (H:Hp):List (List Key×V)→List (List Key×Addr×Value)→Prop:=Paired fun p q=>p.1=q.1∧H q.2.1=some (.tup (p.1.map kV))∧RelV p.2 q.2.2
theorem KT.val {H:Hp} {kvs:List (List Key×V)} {xs:List (List Key×Addr×Value)} (r:KT H kvs xs) (k:List Key):jG (iB kvs k) ((atKey xs k).map (·.2)):=by
 induction r with
 | nil=>exact True.intro
 | @cons p q ps qs h t ih=>
  obtain ⟨h1,_,h2⟩:=h
  by_cases e:p.1=k
  ·have e':q.1=k:=h1.symm.trans e
   have b:atKey (q::qs) k=some q.2:=by simp [atKey,List.find?_cons,e']
   rw [jL e,b];exact h2
  ·have e':¬ q.1=k:=fun z=>e (h1.trans z)
   have b:atKey (q::qs) k=atKey qs k:=by simp [atKey,List.find?_cons,e']
   rw [jM e,b];exact ih
theorem KT.repl {H:Hp} {kvs:List (List Key×V)} {xs:List (List Key×Addr×Value)} (r:KT H kvs xs) (k:List Key) {y:V} {u:Value} (ry:RelV y u) :
  KT H (kvs.map fun kv=>if kv.1=k then (kv.1,y) else kv) (xs.map (putAt k u)):=by
 induction r with
 | nil=>exact .nil
 | @cons p q ps qs h t ih=>
  rw [List.map_cons,List.map_cons]
  refine .cons ?_ ih
  obtain ⟨h1,h2,h3⟩:=h
  unfold putAt
  by_cases e:p.1=k
  ·rw [if_pos e,if_pos (h1.symm.trans e)];exact ⟨h1,h2,ry⟩
  ·rw [if_neg e,if_neg (fun z=>e (h1.trans z))];exact ⟨h1,h2,h3⟩
theorem KT.put {H:Hp} {kvs:List (List Key×V)} {xs:List (List Key×Addr×Value)} (r:KT H kvs xs) (k:List Key) {b:Addr} {y:V} {u:Value} (hb:H b=some (.tup (k.map kV))) (ry:RelV y u) :
  KT H (putK kvs k y) (storedH xs k b u):=by
 have e:(kvs.any fun kv=>decide (kv.1=k))=(atKey xs k).isSome:=by
  rw [sj,(r.val k).eN,Option.isSome_map]
 unfold putK storedH
 rw [e]
 by_cases q:(atKey xs k).isSome=true
 ·rw [if_pos q,if_pos q];exact r.repl k ry
 ·rw [if_neg q,if_neg q];exact Paired.snoc r ⟨rfl,hb,ry⟩
theorem KT.keeps {H H':Hp} {kvs:List (List Key×V)} {xs:List (List Key×Addr×Value)} (r:KT H kvs xs) (ht:∀ b ys,H b=some (.tup ys)→H' b=some (.tup ys)):KT H' kvs xs:=
 Paired.GL r fun _ _ z=>⟨z.1,ht _ _ z.2.1,z.2.2⟩
section
variable {P:Program} {w:World} {H:Hp} {h:Heap} {a:Addr}
theorem Fz {u:HO} (ok:HOk P w H h) (e:Rd H a u):aT P w H h a u:=e.ok ok
theorem lu {kvs:List (Key×V)} (ok:HOk P w H h) (e:Rd H a (.dK kvs)):kvs.length≤sizeLine∧(a == sysModules)=false∧∃ vs,KV kvs vs∧h.DictOf (bh P w) a vs:=
 show aT P w H h a (.dK kvs) from Fz ok e
theorem wV {kvs:List (Key×V)} (ok:HOk P w H h) (e:H a=some (.dK kvs)):kvs.length≤sizeLine∧(a == sysModules)=false∧∃ vs,KV kvs vs∧h.DictOf (bh P w) a vs:=lu ok (.inl e)
theorem kE {ks:List Key} (ok:HOk P w H h) (e:H a=some (.tup (ks.map kV))):(tupleKind (bh P w)).is h ks a:=by
 obtain ⟨_,its,r,o,h1,h2,n,h3⟩:=(show aT P w H h a (.tup (ks.map kV)) from ok a _ e)
 exact ⟨o,its.toArray,n,h1,h2,h3,by simpa using pX r⟩
theorem mR {kvs:List (List Key×V)} (ok:HOk P w H h) (e:Rd H a (.dT kvs)):kvs.length≤sizeLine∧(a == sysModules)=false ∧
  ∃ xs,KT H kvs xs∧h.DictOfH (tupleKind (bh P w)) a xs:=by
 obtain ⟨z,y,xs,r,o,es,ep,h1,h2,h3,h4,h5⟩:=(show aT P w H h a (.dT kvs) from Fz ok e)
 refine ⟨z,y,xs,r,o,es,ep,h1,h2,h3,h4,fun x hx=>?_,h5⟩
 have all:∀ {l:List (List Key×V)} {m:List (List Key×Addr×Value)},KT H l m→∀ x∈m,(tupleKind (bh P w)).is h x.1 x.2.1:=by
  intro l m q
  induction q with
  | nil=>intro x hx;exact nomatch hx
  | @cons p q ps qs hq t ih=>
   intro x hx
   rcases List.mem_cons.mp hx with e | hx
   ·subst e
    exact kE ok (by rw [← hq.1];exact hq.2.1)
   ·exact ih x hx
 exact all r x hx
theorem KI {kvs:List (List Key×V)} (ok:HOk P w H h) (e:H a=some (.dT kvs)):kvs.length≤sizeLine∧(a == sysModules)=false ∧
  ∃ xs,KT H kvs xs∧h.DictOfH (tupleKind (bh P w)) a xs:=mR ok (.inl e)
end
noncomputable def fS (H:Hp) (a:Addr) (y:V) (r:Option V):Prop:=
 (∃ kvs k,Rd H a (.dK kvs)∧y=kV k∧r=iB kvs k)∨∃ kvs k b,Rd H a (.dT kvs)∧y=.ref b∧H b=some (.tup (k.map kV))∧r=iB kvs k
noncomputable def z5 (H:Hp) (a:Addr) (y v:V) (H':Hp):Prop:=
 (∃ kvs k,H a=some (.dK kvs)∧y=kV k∧kvs.length<sizeLine∧H'=upd H a (.dK (putK kvs k v))) ∨
 ∃ kvs k b,H a=some (.dT kvs)∧y=.ref b∧H b=some (.tup (k.map kV))∧kvs.length<sizeLine∧H'=upd H a (.dT (putK kvs k v))
theorem fS.k {H:Hp} {a:Addr} {kvs:List (Key×V)} {k:Key} (e:H a=some (.dK kvs)):fS H a (kV k) (iB kvs k):=.inl ⟨kvs,k,.inl e,rfl,rfl⟩
theorem z5.k {H:Hp} {a:Addr} {kvs:List (Key×V)} {k:Key} {v:V} (e:H a=some (.dK kvs)) (hl:kvs.length<sizeLine):z5 H a (kV k) v (upd H a (.dK (putK kvs k v))):=.inl ⟨kvs,k,e,rfl,hl,rfl⟩
section
variable {X:Cx} {pins:List (Addr×Obj)} {σ:St} {H:Hp} {s:Shared} {a:Addr} {y v:V} {u r:Value} {o:Option V} {A:Around} {E:Value→Shared→Prop}
theorem Inv.big (I:Inv X pins σ H s):sysModules<s.heap.objs.size:=by
 have h:mainGlobals<s.heap.objs.size:=(I.mod.glob.keeps I.bk).lt
 exact Nat.lt_trans (by decide) h
theorem yH {Q:Value→Shared→Prop} (hu:A.units+1<cLine) (I:Inv X pins σ H s) (g:fS H a y (some v)) (ry:RelV y u) (h:∀ w' s',Inv X pins σ H s'→RelV v w'→Q w' s') :
  wpAny (model X.prog X.w) A (getItem (.ref a) u) Q E s:=by
 rcases g with ⟨kvs,k,e,ey,l⟩ | ⟨kvs,k,b,e,ey,eb,l⟩
 ·subst ey
  obtain ⟨z,hd,vs,rel,dd⟩:=lu I.hok e
  obtain ⟨w',hw,rw'⟩:=jG.some_of (v:=v) (o:=valueAt vs k) (by rw [l];exact rel.val k)
  exact wpAny_getItem_of (lq ry) dd.mapOf hw (h w' _ (I.tok _) rw')
 ·subst ey
  cases (show u=Value.ref b from ry)
  obtain ⟨z,hd,xs,rel,dd⟩:=mR I.hok e
  obtain ⟨w',hw,rw'⟩:=jG.some_of (v:=v) (o:=(atKey xs k).map (·.2)) (by rw [l];exact rel.val k)
  obtain ⟨p,hp,hp2⟩:=Option.map_eq_some_iff.mp hw
  refine wpAny_getItem_heap (tupleKind_room_in1 hu) (kE I.hok eb) dd hp ?_
  rw [hp2]
  exact h w' _ (I.tok _) rw'
theorem M0 {Q:Value→Shared→Prop} (hu:A.units+1<cLine) (I:Inv X pins σ H s) (g:fS H a y o) (ry:RelV y u) (h:∀ s',Inv X pins σ H s'→Q (.bool o.isSome) s') :
  wpAny (model X.prog X.w) A (compareOp .In u (.ref a)) Q E s:=by
 rcases g with ⟨kvs,k,e,ey,l⟩ | ⟨kvs,k,b,e,ey,eb,l⟩
 ·subst ey
  obtain ⟨z,hd,vs,rel,dd⟩:=lu I.hok e
  refine wpAny_in_of (lq ry) hd dd.mapOf ?_
  rw [← (rel.val k).eN,← l]
  exact h _ (I.tok _)
 ·subst ey
  cases (show u=Value.ref b from ry)
  obtain ⟨z,hd,xs,rel,dd⟩:=mR I.hok e
  refine wpAny_in_heap (tupleKind_room_in1 hu) (kE I.hok eb) hd dd ?_
  have q:=(rel.val k).eN
  rw [Option.isSome_map] at q
  rw [← q,← l]
  exact h _ (I.tok _)
theorem Dv {Q:Value→Shared→Prop} (hu:A.units+1<cLine) (I:Inv X pins σ H s) (g:fS H a y o) (ry:RelV y u) (h:∀ s',Inv X pins σ H s'→Q (.bool (!o.isSome)) s') :
  wpAny (model X.prog X.w) A (compareOp .NotIn u (.ref a)) Q E s:=by
 rcases g with ⟨kvs,k,e,ey,l⟩ | ⟨kvs,k,b,e,ey,eb,l⟩
 ·subst ey
  obtain ⟨z,hd,vs,rel,dd⟩:=lu I.hok e
  refine wpAny_notIn_of (lq ry) hd dd.mapOf ?_
  rw [← (rel.val k).eN,← l]
  exact h _ (I.tok _)
 ·subst ey
  cases (show u=Value.ref b from ry)
  obtain ⟨z,hd,xs,rel,dd⟩:=mR I.hok e
  refine wpAny_notIn_heap (tupleKind_room_in1 hu) (kE I.hok eb) hd dd ?_
  have q:=(rel.val k).eN
  rw [Option.isSome_map] at q
  rw [← q,← l]
  exact h _ (I.tok _)
theorem mj {h':Heap} {t':Nat} {ob:HO} (I:Inv X pins σ H s) (mu:Mut (H a)) (hs:Heap.SameBut a s.heap h') (he:∃ q,h'.get? a=some q) (new:aT X.prog X.w (upd H a ob) h' a ob) :
  Inv X pins σ (upd H a ob) { s with heap:=h',toks:=t' }:=
 I.write (x:=a) (e:=a) mu (.inl rfl) (fun b q hb z=>(hs.2 b hb).trans z) he new
theorem qD {P:Program} {w:World} {H':Hp} {h':Heap} {kvs:List (Key×V)} {vs:List (Key×Value)} (z:kvs.length≤sizeLine) (hd:(a == sysModules)=false) (rel:KV kvs vs) (dd:h'.DictOf (bh P w) a vs) :
  aT P w H' h' a (.dK kvs):=⟨z,hd,vs,rel,dd⟩
theorem yI {H':Hp} {Q:Unit→Shared→Prop} (hu:A.units+1<cLine) (I:Inv X pins σ H s) (g:z5 H a y v H') (ry:RelV y u) (rv:RelV v r) (h:∀ s',Inv X pins σ H' s'→Q () s') :
  wpAny (model X.prog X.w) A (setItem (.ref a) u r) Q E s:=by
 rcases g with ⟨kvs,k,e,ey,l,eH⟩ | ⟨kvs,k,b,e,ey,eb,l,eH⟩
 ·subst ey eH
  obtain ⟨z,hd,vs,rel,dd⟩:=wV I.hok e
  have hz:vs.length≤sizeLine:=by rw [← rel.length];exact z
  have hl:(putK kvs k v).length≤sizeLine:=by have:=fY kvs k v;omega
  refine wpAny_setItem_pairs (hsz:=hz) (lq ry) dd fun h' dd' hs=>h _ ?_
  have he:∃ q,h'.get? a=some q:=let ⟨q,_,_,hq,_⟩:=dd';⟨q,hq⟩
  exact mj I (by rw [e];exact True.intro) hs he (qD hl hd (rel.put k rv) dd')
 ·subst ey eH
  cases (show u=Value.ref b from ry)
  obtain ⟨z,hd,xs,rel,dd⟩:=KI I.hok e
  have hz:xs.length≤sizeLine:=by rw [← Paired.length rel];exact z
  have hl:(putK kvs k v).length≤sizeLine:=by have:=fY kvs k v;omega
  refine wpAny_setItem_heap (hsz:=hz) (tupleKind_room_in1 hu) (kE I.hok eb) dd fun h' dd' hs=>h _ ?_
  obtain ⟨q,es,ep,hq,h2,h3,h4,_,h5⟩:=dd'
  refine mj I (by rw [e];exact True.intro) hs ⟨q,hq⟩ ⟨hl,hd,_,(rel.put k eb rv).keeps fun c ys ec=>?_,q,es,ep,hq,h2,h3,h4,h5⟩
  rw [ao (Kl ec e (fun z=>nomatch z))]
  exact ec
end
section
variable {X:Cx} {pins:List (Addr×Obj)} {σ:St} {H:Hp} {s:Shared} {a:Addr} {kvs:List (Key×V)} {k:Key} {u:Value} {A:Around} {E:Value→Shared→Prop}
theorem KJ {v:V} {more:List Value} {Q:Value→Shared→Prop} (I:Inv X pins σ H s) (e:H a=some (.dK kvs)) (ry:RelV (kV k) u) (l:iB kvs k=some v) (hm:more=[]∨∃ x,more=[x])
  (h:∀ w' s',Inv X pins σ (upd H a (.dK (lg kvs k))) s'→RelV v w'→Q w' s'):wpAny (model X.prog X.w) A (call (.builtin "dict.pop") (.ref a::u::more)) Q E s:=by
 obtain ⟨z,hd,vs,rel,dd⟩:=wV I.hok e
 obtain ⟨w',hw,rw'⟩:=jG.some_of (v:=v) (o:=valueAt vs k) (by rw [← l];exact rel.val k)
 have hp:(keyPart u).isSome=true:=by
  cases k with
  | inl i=>obtain ⟨t,q⟩:=(show ∃ t,u=Value.int i t from ry);subst q;rfl
  | inr x=>obtain ⟨t,q⟩:=(show ∃ t,u=Value.str x t from ry);subst q;rfl
 have ha:argsOk "dict.pop" ⟨.ref a::u::more,[]⟩:=by
  rcases hm with q | ⟨x,q⟩
  ·subst q;exact PySem.F.args_dict_pop_2 _ _
  ·subst q;exact PySem.F.args_dict_pop_3 _ _ _
 refine call_meetsIn PySem.F.slot_dict_pop dd.typeIs PySem.F.entry_dict_pop ha (meets_dict_pop_there (bh X.prog X.w) a (lq ry) more hm hp)
  ⟨vs,w',dd,by rw [← rel.length];exact z,hw,fun h' dd' hs=>h w' _ ?_ rw'⟩
 have he:∃ q,h'.get? a=some q:=let ⟨q,_,_,hq,_⟩:=dd';⟨q,hq⟩
 exact mj I (by rw [e];exact True.intro) hs he (qD (Nat.le_trans (z4 kvs k) z) hd (rel.drop k) dd')
end
noncomputable def Hy (i:Expr):Prop:=∀ ov iv,subscripted i false ov iv=operate [ov,iv] (getItem ov iv)
theorem Dw {prog:Program} {w:World} {A:Around} {E:Value→Shared→Prop} {s:Shared} {env:Env} {value slice:Expr} {pos:Pos} {T id:String} {Q:Value→Shared→Prop}
  (hl:typeLookup (.type T) "__getitem__" = pure (some (.builtin id))) (hs:Hy slice)
  (h:wpAny (model prog w) A (eval value env) (fun o s₁=>wpAny (model prog w) A (eval slice env) (fun i s₂=>s₂.TypeIs o T∧wpAny (model prog w) A (getItem o i) Q E s₂) E s₁) E s) :
  wpAny (model prog w) A (eval (.Subscript value slice pos) env) Q E s:=by
 refine Subscript_ (wpAny_mono h (fun o s₁ h₁=>wpAny_mono h₁ (fun i s₂ h₂=>?_) fun _ _ x=>x) fun _ _ x=>x)
 obtain ⟨hT,h₂⟩:=h₂
 unfold subscriptTail
 refine wpAny_bind ?_
 rw [getitemInPython_of_ne hT.not_modules]
 refine wpAny_bind (wpAny_specialOf hT hl ?_)
 have fin:wpAny (model prog w) A (subscripted slice false o i) (fun r s₃=>wpAny (model prog w) A (letTemporaryGo value o r >>= fun _=>pure r) Q E s₃) E s₂:=by
  rw [hs o i]
  exact wpAny_operating (wpAny_mono h₂ (fun r s₃ h₃=>wpAny_bind (wpAny_letTemporaryGo (wpAny_pure h₃))) fun _ _ x=>x)
 first
  | exact wpAny_pure (wpAny_bind fin)
  | exact wpAny_bind (wpAny_pure (wpAny_bind fin))
  | exact wpAny_bind fin
theorem sq {X:Cx} {pins:List (Addr×Obj)} {σ:St} {H:Hp} {s:Shared} {a:Addr} {y:V} {o:Option V} (I:Inv X pins σ H s) (g:fS H a y o):s.TypeIs (.ref a) "dict" := by
 rcases g with ⟨kvs,k,e,_,_⟩ | ⟨kvs,k,b,e,_,_,_⟩
 ·obtain ⟨_,_,vs,_,dd⟩:=lu I.hok e
  exact dd.typeIs
 ·obtain ⟨_,_,xs,_,dd⟩:=mR I.hok e
  exact dd.typeIs
noncomputable def KL (td ty:TE):TE:=fun σ H Q=>td σ H fun x H1=>ty σ H1 fun y H2=>∃ a v,x=.ref a∧fS H2 a y (some v)∧Q v H2
noncomputable def M3 (ty td:TE):TE:=fun σ H Q=>ty σ H fun y H1=>td σ H1 fun x H2=>∃ a o,x=.ref a∧fS H2 a y o∧Q (.bl o.isSome) H2
noncomputable def Dy (ty td:TE):TE:=fun σ H Q=>ty σ H fun y H1=>td σ H1 fun x H2=>∃ a o,x=.ref a∧fS H2 a y o∧Q (.bl (!o.isSome)) H2
noncomputable def FA (td ty tv:TE):TS:=fun D σ H=>tv σ H fun v H1=>td σ H1 fun x H2=>ty σ H2 fun y H3=>∃ a H4,x=.ref a∧z5 H3 a y v H4∧D.nx σ H4
section
variable {X:Cx} {o i e value:Expr} {pos pos' tpos:Pos} {td ty tv:TE}
theorem Dz (hu:X.A.units+1<cLine) (ho:PE X o td) (hi:PE X i ty) (hs:Hy i):PE X (.Subscript o i pos) (KL td ty):=by
 intro pins s σ H Q I h
 refine Dw PySem.F.slot_dict_getitem.lookup hs (thn (ho pins s σ H _ I h) fun u s1 ⟨x,H1,I1,rx,q1⟩=>thn (hi pins s1 σ H1 _ I1 q1) fun iv s2 ⟨y,H2,I2,ry,a,v,ex,g,q2⟩=>?_)
 subst ex
 obtain rfl:u=Value.ref a:=rx
 exact ⟨sq I2 g,yH hu I2 g ry fun w' s3 I3 rw'=>⟨v,H2,I3,rw',q2⟩⟩
theorem Hz (hu:X.A.units+1<cLine) (hi:PE X i ty) (ho:PE X o td):PC X .In i o (M3 ty td):=by
 intro pins s σ H Q I h
 refine thn (hi pins s σ H _ I h) fun iv s1 ⟨y,H1,I1,ry,q1⟩=>thn (ho pins s1 σ H1 _ I1 q1) fun u s2 ⟨x,H2,I2,rx,a,ov,ex,g,q2⟩=>?_
 subst ex
 obtain rfl:u=Value.ref a:=rx
 exact M0 hu I2 g ry fun s3 I3=>⟨.bl ov.isSome,H2,I3,rfl,q2⟩
theorem yJ (hu:X.A.units+1<cLine) (hi:PE X i ty) (ho:PE X o td):PC X .NotIn i o (Dy ty td):=by
 intro pins s σ H Q I h
 refine thn (hi pins s σ H _ I h) fun iv s1 ⟨y,H1,I1,ry,q1⟩=>thn (ho pins s1 σ H1 _ I1 q1) fun u s2 ⟨x,H2,I2,rx,a,ov,ex,g,q2⟩=>?_
 subst ex
 obtain rfl:u=Value.ref a:=rx
 exact Dv hu I2 g ry fun s3 I3=>⟨.bl (!ov.isSome),H2,I3,rfl,q2⟩
theorem DB (hu:X.A.units+1<cLine) (ho:PE X o td) (hi:PE X i ty) (hv:PE X value tv) (hs:swapsWith value (some (.Subscript o i pos')) pos.line X.env=pure false) :
  PS X (.Assign [.Subscript o i pos'] value pos) (FA td ty tv):=by
 intro pins s σ H D I h
 refine wpAny_Assign_Subscript (thn (hv pins s σ H _ I h) fun r s1 ⟨v,H1,I1,rv,q1⟩=>thn (ho pins s1 σ H1 _ I1 q1) fun u s2 ⟨x,H2,I2,rx,q2⟩=>thn (hi pins s2 σ H2 _ I2 q2) fun iv s3 ⟨y,H3,I3,ry,a,H4,ex,g,q3⟩=>?_) hs
 subst ex
 obtain rfl:u=Value.ref a:=rx
 exact yI hu I3 g ry rv fun s4 I4=>⟨σ,H4,I4,q3⟩
end
theorem sr {P:Program} {w:World} {H:Hp} (h:Heap) (hb:sysModules<h.objs.size):aT P w H (h.push { cls:=.type "dict",data:=.dict #[] }) h.objs.size (.dK []):=
 ⟨Nat.zero_le _,beq_eq_false_iff_ne.mpr (Ne.symm (Nat.ne_of_lt hb)),[],.nil,Heap.DictOf.new h⟩
noncomputable def z6:TE:=fun _ H Q=>∀ p,H p=none→Q (.ref p) (upd H p (.dK []))
section
variable {X:Cx} {pos:Pos}
theorem z7:PE X (.Dict [] [] pos) z6:=fun pins s σ H Q I h=>
 wpAny_Dict_empty ⟨.ref s.heap.objs.size,_,I.laid (a:=s.heap.objs.size) (o:=.dK []) (t':=s.toks) (fun _ _ q=>Heap.get?_push_of_some _ q) (Nat.le_refl _) (sr s.heap I.big),rfl,h _ (I.hok.fresh (Nat.le_refl _))⟩
end
noncomputable def u9:List (TE×TE)→St→Hp→(List (V×V)→Hp→Prop)→Prop
 | [],_,H,Q=>Q [] H
 | (tk,tv)::r,σ,H,Q=>tk σ H fun x H1=>tv σ H1 fun y H2=>u9 r σ H2 fun ps H3=>Q ((x,y)::ps) H3
noncomputable abbrev VV:List (V×V)→List (Value×Value)→Prop:=Paired fun p q=>RelV p.1 q.1∧RelV p.2 q.2
noncomputable def PPs (X:Cx) (pos:Pos) (keys:List (Option Expr)) (values:List Expr) (trs:List (TE×TE)):Prop:=
 ∀ (pins:List (Addr×Obj)) (s:Shared) (σ:St) (H:Hp) (Q:List (V×V)→Hp→Prop),Inv X pins σ H s→u9 trs σ H Q →
  wpAny (model X.prog X.w) X.A (evalPairs (pairTrees keys values X.env pos)) (fun vs s'=>∃ ps H',Inv X pins σ H' s'∧VV ps vs∧Q ps H') X.xe s
theorem DC {X:Cx} {pos:Pos}:PPs X pos [] [] []:=fun pins s σ H Q I h=>pairTrees_nil_walk ⟨[],H,I,.nil,h⟩
theorem z8 {X:Cx} {pos:Pos} {k v:Expr} {ks:List (Option Expr)} {vs:List Expr} {tk tv:TE} {trs:List (TE×TE)} (hk:PE X k tk) (hv:PE X v tv) (hr:PPs X pos ks vs trs) :
  PPs X pos (some k::ks) (v::vs) ((tk,tv)::trs):=fun pins s σ H Q I h=>
 pairTrees_cons_walk (thn (hk pins s σ H _ I h) fun u s1 ⟨x,H1,I1,rx,q1⟩=>thn (hv pins s1 σ H1 _ I1 q1) fun w2 s2 ⟨y,H2,I2,ry,q2⟩=>
  thn (hr pins s2 σ H2 _ I2 q2) fun ws s3 ⟨ps,H3,I3,rel,q3⟩=>⟨(x,y)::ps,H3,I3,.cons ⟨rx,ry⟩ rel,q3⟩)
noncomputable def kF (kvs more:List (Key×V)):List (Key×V):=more.foldl (fun acc kv=>putK acc kv.1 kv.2) kvs
theorem KV.merge:∀ {more:List (Key×V)} {rs:List (Key×Value)} {kvs:List (Key×V)} {vs:List (Key×Value)},KV more rs→KV kvs vs→KV (kF kvs more) (merged vs rs):=by
 intro more rs kvs vs r
 unfold KV at r
 induction r generalizing kvs vs with
 | nil=>intro q;exact q
 | @cons p q ps qs h t ih=>
  intro r0
  have e:KV (putK kvs p.1 p.2) (stored vs q.1 q.2):=by
   have:=r0.put p.1 h.2
   rw [← h.1];exact this
  exact ih e
theorem g_:∀ (more kvs:List (Key×V)),(kF kvs more).length≤kvs.length+more.length
 | [],kvs=>by show kvs.length≤kvs.length+0;omega
 | p::r,kvs=>by
  have h1:=g_ r (putK kvs p.1 p.2)
  have h2:=fY kvs p.1 p.2
  show (kF (putK kvs p.1 p.2) r).length≤_
  rw [List.length_cons];omega
theorem mS {P:Program} {w:World}:∀ {kvs:List (Key×V)} {ws:List (Value×Value)},VV (kvs.map fun kv=>(kV kv.1,kv.2)) ws→∃ rs,Carries (bh P w) ws rs∧KV kvs rs
 | [],_,r=>by rw [List.map_nil] at r;cases r;exact ⟨[],True.intro,.nil⟩
 | p::kvs,_,r=>by
  rw [List.map_cons] at r
  cases r with
  | @cons a b as bs h t=>
   obtain ⟨rs,c,q⟩:=mS (P:=P) (w:=w) t
   obtain ⟨b1,b2⟩:=b
   exact ⟨(p.1,b2)::rs,⟨lq h.1,rfl,c⟩,.cons ⟨rfl,h.2⟩ q⟩
noncomputable def FD (trs:List (TE×TE)):TE:=fun σ H Q=>∀ p,H p=none→u9 trs σ (upd H p (.dK [])) fun ps H2=>H2 p=some (.dK [])∧∃ kvs:List (Key×V),ps=kvs.map (fun kv=>(kV kv.1,kv.2))∧kvs.length≤15∧Q (.ref p) (upd H2 p (.dK (kF [] kvs)))
theorem DG {X:Cx} {pos:Pos} {keys:List (Option Expr)} {values:List Expr} {trs:List (TE×TE)} (h:PPs X pos keys values trs) (hall:keys.all (·.isSome)=true) (hl:keys.length=values.length) (h0:keys≠[])
  (h15:keys.length≤15):PE X (.Dict keys values pos) (FD trs):=by
 intro pins s σ H Q I q
 have hn:=I.hok.fresh (Nat.le_refl s.heap.objs.size)
 have I1:=I.laid (a:=s.heap.objs.size) (o:=.dK []) (h':=s.heap.push { cls:=.type "dict",data:=.dict #[] }) (t':=s.toks) (fun _ _ q=>Heap.get?_push_of_some _ q) (Nat.le_refl _) (sr s.heap I.big)
 refine wpAny_Dict_walk (knd:=bh X.prog X.w) hall hl h0 h15 (thn (h pins _ σ _ _ I1 (q _ hn)) fun ws s2 ⟨ps,H2,I2,rel,e,kvs,ep,lk,q2⟩=>?_)
 subst ep
 obtain ⟨rs,c,rk⟩:=mS (P:=X.prog) (w:=X.w) rel
 obtain ⟨z,hd,vs0,r0,dd⟩:=wV I2.hok e
 cases r0
 refine ⟨rs,c,dd,fun h' dd' hs=>⟨.ref s.heap.objs.size,_,?_,rfl,q2⟩⟩
 have hz:(kF [] kvs).length≤sizeLine:=by
  have h1:=g_ kvs []
  rw [List.length_nil] at h1
  rw [sizeLine_eq];omega
 have he:∃ q,h'.get? s.heap.objs.size=some q:=let ⟨q,_,_,hq,_⟩:=dd';⟨q,hq⟩
 exact mj I2 (by rw [e];exact True.intro) hs he (qD hz hd (rk.merge .nil) dd')
structure M1 (X:Cx) (o:Expr) (m:Str) (apos:Pos) (e:Expr) (cpos:Pos):Prop where
 base:attributeBase o m X.env (eval o X.env)=eval o X.env
 few:((backTo cpos (starEach [e] X.env)).all (fun x=>!x.1)&&(backToKw cpos (keywordEach [] X.env)).all (fun x=>x.1.isSome)
  && decide (([e]:List Expr).length+([]:List Keyword).length+(if ([]:List Keyword).isEmpty then 0 else 1)<30))=true
 line:(apos.endLine == cpos.line)=true
 trees:backTo cpos (starEach [e] X.env)=[(false,eval e X.env)]
noncomputable def IsD (H:Hp) (a:Addr):Prop:=(∃ kvs,Rd H a (.dK kvs))∨∃ kvs,Rd H a (.dT kvs)
theorem z_ {X:Cx} {pins:List (Addr×Obj)} {σ:St} {H:Hp} {s:Shared} {a:Addr} (I:Inv X pins σ H s) (d:IsD H a) :
  s.TypeIs (.ref a) "dict" ∧ (∀ b,Value.ref a=.ref b→∃ ob,s.heap.get? b=some ob∧ob.dict=none)∧(a == sysModules)=false:=by
 rcases d with ⟨kvs,e⟩ | ⟨kvs,e⟩
 ·obtain ⟨_,hd,vs,_,dd⟩:=lu I.hok e
  refine ⟨dd.typeIs,fun b q=>?_,hd⟩
  cases q
  obtain ⟨ob,_,_,h1,h2,_⟩:=dd
  exact ⟨ob,h1,h2.2.1⟩
 ·obtain ⟨_,hd,xs,_,dd⟩:=mR I.hok e
  refine ⟨dd.typeIs,fun b q=>?_,hd⟩
  cases q
  obtain ⟨ob,_,_,h1,h2,_⟩:=dd
  exact ⟨ob,h1,h2.2.1⟩
section
variable {X:Cx} {pins:List (Addr×Obj)} {σ:St} {H:Hp} {s:Shared} {a:Addr} {y d:V} {u r:Value} {o:Option V} {A:Around} {E:Value→Shared→Prop}
theorem HA {Q:Value→Shared→Prop} (hu:A.units+1<cLine) (I:Inv X pins σ H s) (g:fS H a y o) (ry:RelV y u) (h:∀ w' s',Inv X pins σ H s'→RelV (o.getD .non) w'→Q w' s') :
  wpAny (model X.prog X.w) A (call (.builtin "dict.get") [.ref a,u]) Q E s:=by
 rcases g with ⟨kvs,k,e,ey,l⟩ | ⟨kvs,k,b,e,ey,eb,l⟩
 ·subst ey
  obtain ⟨z,hd,vs,rel,dd⟩:=lu I.hok e
  refine call_meetsIn PySem.F.slot_dict_get dd.typeIs PySem.F.entry_dict_get (PySem.F.args_dict_get_2 _ _) (meets_dict_get (bh X.prog X.w) a (lq ry) hd) ⟨_,dd.mapOf,h _ _ (I.tok _) ?_⟩
  rw [l]
  exact (rel.val k).getD rfl
 ·subst ey
  cases (show u=Value.ref b from ry)
  obtain ⟨z,hd,xs,rel,dd⟩:=mR I.hok e
  refine call_meetsIn PySem.F.slot_dict_get dd.typeIs PySem.F.entry_dict_get (PySem.F.args_dict_get_2 _ _) (meetsH_dict_get (tupleKind (bh X.prog X.w)) a b hd) ⟨tupleKind_room_in1 hu,k,xs,kE I.hok eb,dd,h _ _ (I.tok _) ?_⟩
  rw [l]
  exact (rel.val k).getD rfl
end
noncomputable def Aa (td ty:TE):TE:=fun σ H Q=>td σ H fun x H1=>∃ a,x=.ref a∧IsD H1 a∧ty σ H1 fun y H2=>∃ o,fS H2 a y o∧Q (o.getD .non) H2
noncomputable def Ab (td ty:TE):TE:=fun σ H Q=>td σ H fun x H1=>∃ a,x=.ref a∧IsD H1 a∧ty σ H1 fun y H2=>∃ kvs k v,H2 a=some (.dK kvs)∧y=kV k∧iB kvs k=some v∧Q v (upd H2 a (.dK (lg kvs k)))
section
variable {X:Cx} {o e f:Expr} {apos cpos:Pos} {td ty tx:TE}
theorem Ac (hu:X.A.units+1<cLine) (ho:PE X o td) (he:PE X e ty) (m:M1 X o "get" apos e cpos):PE X (.Call (.Attribute o "get" apos) [e] [] cpos) (Aa td ty):=by
 intro pins s σ H Q I h
 refine wpAny_Call_method m.base m.few m.line PySem.F.plainAttrs_dict PySem.F.slot_dict_get PySem.F.type_dict_get (thn (ho pins s σ H _ I h) fun u s1 ⟨x,H1,I1,rx,a,ex,d,q1⟩=>?_)
 subst ex
 obtain rfl:u=Value.ref a:=rx
 obtain ⟨t1,t2,_⟩:=z_ I1 d
 refine ⟨t1,t2,?_⟩
 rw [m.trees]
 refine Calls.callWith_builtin rfl (Calls.evalArgs_plain (Calls.spliced_cons (thn (he pins s1 σ H1 _ I1 q1) fun iv s2 ⟨y,H2,I2,ry,ov,g,q2⟩=>Calls.spliced_nil ?_)))
 exact HA hu I2 g ry fun w' s3 I3 rw'=>⟨_,H2,I3,rw',q2⟩
theorem Ad (ho:PE X o td) (he:PE X e ty) (m:M1 X o "pop" apos e cpos):PE X (.Call (.Attribute o "pop" apos) [e] [] cpos) (Ab td ty):=by
 intro pins s σ H Q I h
 refine wpAny_Call_method m.base m.few m.line PySem.F.plainAttrs_dict PySem.F.slot_dict_pop PySem.F.type_dict_pop (thn (ho pins s σ H _ I h) fun u s1 ⟨x,H1,I1,rx,a,ex,d,q1⟩=>?_)
 subst ex
 obtain rfl:u=Value.ref a:=rx
 obtain ⟨t1,t2,_⟩:=z_ I1 d
 refine ⟨t1,t2,?_⟩
 rw [m.trees]
 refine Calls.callWith_builtin rfl (Calls.evalArgs_plain (Calls.spliced_cons (thn (he pins s1 σ H1 _ I1 q1) fun iv s2 ⟨y,H2,I2,ry,kvs,k,v,ea,ey,l,q2⟩=>Calls.spliced_nil ?_)))
 subst ey
 exact KJ I2 ea ry l (.inl rfl) fun w' s3 I3 rw'=>⟨v,_,I3,rw',q2⟩
end
section
variable {X:Cx} {pins:List (Addr×Obj)} {σ:St} {H:Hp} {s:Shared} {a:Addr} {kvs:List (Key×V)} {A:Around} {E:Value→Shared→Prop}
theorem Ae {Q:Value→Shared→Prop} (I:Inv X pins σ H s) (e:Rd H a (.dK kvs)) (h:∀ p s',H p=none→Inv X pins σ (upd H p (.dK kvs)) s'→Q (.ref p) s'):wpAny (model X.prog X.w) A (call (.type "dict") [.ref a]) Q E s:=by
 obtain ⟨z,hd,vs,rel,dd⟩:=lu I.hok e
 refine kt_call_dict hd dd (by rw [← rel.length];exact z) fun h' dd' hs=>?_
 refine h _ _ (I.hok.fresh (Nat.le_refl _)) (I.laid (a:=s.heap.objs.size) (o:=.dK kvs) (t':=s.toks) (fun b q hq=>?_) (Nat.le_refl _) (qD z (beq_eq_false_iff_ne.mpr (Ne.symm (Nat.ne_of_lt I.big))) rel dd'))
 exact (hs.2 b (Nat.ne_of_lt (Heap.lt_size hq))).trans (Heap.get?_push_of_some _ hq)
end
section
variable {X:Cx} {pins:List (Addr×Obj)} {σ:St} {H:Hp} {s:Shared} {a:Addr} {y:V} {u:Value} {A:Around} {E:Value→Shared→Prop}
end
end L2
namespace Dm
inductive Dat where
 | non
 | bl (b:Bool)
 | int (i:Int)
 | str (s:List Nat)
 | tup (xs:List Dat)
 | lst (xs:List Dat)
 | dct (ks:List Int) (vs:List Dat)
 | exc (C:Nat)
 | fn (a:Nat)
deriving Inhabited
inductive Cell where
 | un
 | sh (d:Dat)
 | ow (d:Dat)
deriving Inhabited
noncomputable abbrev Env:=List Cell
inductive Val where
 | val (d:Dat)
 | slot (i:Nat)
 | new (d:Dat)
inductive RV where
 | val (d:Dat)
 | new (d:Dat)
noncomputable def RV.dat:RV→Dat
 | .val d=>d
 | .new d=>d
noncomputable def RV.bG:RV→Val
 | .val d=>.val d
 | .new d=>.new d
noncomputable def SZ:Nat:=100000
noncomputable def fH:Dat→Bool
 | .tup _=>true
 | .lst _=>true
 | .dct _ _=>true
 | .exc _=>true
 | _=>false
noncomputable def pk (ρ:Env):Val→Option Dat
 | .val d=>some d
 | .new d=>some d
 | .slot i=>match ρ[i]? with
  | some (.ow d)=>some d
  | some (.sh d)=>some d
  | _=>none
noncomputable def tk (ρ:Env):Val→Option (Dat×Env)
 | .val d=>some (d,ρ)
 | .new d=>some (d,ρ)
 | .slot i=>match ρ[i]? with
  | some (.ow d)=>some (d,ρ.set i (.sh d))
  | some (.sh d)=>some (d,ρ)
  | _=>none
noncomputable def pks (ρ:Env):List Val→Option (List Dat)
 | []=>some []
 | x::r=>match pk ρ x with
  | none=>none
  | some d=>match pks ρ r with
   | none=>none
   | some ds=>some (d::ds)
noncomputable def tks (ρ:Env):List Val→Option (List Dat×Env)
 | []=>some ([],ρ)
 | x::r=>match tk ρ x with
  | none=>none
  | some (d,ρ1)=>match tks ρ1 r with
   | none=>none
   | some (ds,ρ2)=>some (d::ds,ρ2)
noncomputable abbrev FE:=Env→Option (Val×Env)
noncomputable abbrev FT:=Env→Option (Bool×Env)
noncomputable def eC (d:Dat):FE:=fun ρ=>some (.val d,ρ)
noncomputable def eV (i:Nat):FE:=fun ρ=>match ρ[i]? with
 | some (.sh d)=>some (.val d,ρ)
 | some (.ow _)=>some (.slot i,ρ)
 | _=>none
noncomputable def e1 (g:Dat→Option RV) (a:FE):FE:=fun ρ=>match a ρ with
 | none=>none
 | some (x,ρ1)=>match pk ρ1 x with
  | none=>none
  | some d=>match g d with
   | none=>none
   | some v=>some (v.bG,ρ1)
noncomputable def e2 (g:Dat→Dat→Option RV) (a b:FE):FE:=fun ρ=>match a ρ with
 | none=>none
 | some (x,ρ1)=>match b ρ1 with
  | none=>none
  | some (y,ρ2)=>match pk ρ2 x with
   | none=>none
   | some d=>match pk ρ2 y with
    | none=>none
    | some e=>match g d e with
     | none=>none
     | some v=>some (v.bG,ρ2)
noncomputable def eAs:List FE→Env→Option (List Val×Env)
 | [],ρ=>some ([],ρ)
 | a::r,ρ=>match a ρ with
  | none=>none
  | some (x,ρ1)=>match eAs r ρ1 with
   | none=>none
   | some (xs,ρ2)=>some (x::xs,ρ2)
noncomputable def eB (g:List Dat→Option RV) (as:List FE):FE:=fun ρ=>match eAs as ρ with
 | none=>none
 | some (xs,ρ1)=>match pks ρ1 xs with
  | none=>none
  | some ds=>match g ds with
   | none=>none
   | some v=>some (v.bG,ρ1)
noncomputable def bE (as:List FE):FE:=fun ρ=>match eAs as ρ with
 | none=>none
 | some (xs,ρ1)=>match tks ρ1 xs with
  | none=>none
  | some (ds,ρ2)=>if ds.length≤SZ then some (.val (.tup ds),ρ2) else none
noncomputable def bF (as:List FE):FE:=fun ρ=>match eAs as ρ with
 | none=>none
 | some (xs,ρ1)=>match tks ρ1 xs with
  | none=>none
  | some (ds,ρ2)=>if ds.length≤SZ then some (.new (.lst ds),ρ2) else none
noncomputable def eF (f:List Dat→Option RV) (as:List FE):FE:=fun ρ=>match eAs as ρ with
 | none=>none
 | some (xs,ρ1)=>match pks ρ1 xs with
  | none=>none
  | some ds=>match f ds with
   | none=>none
   | some v=>if fH v.dat then (match tks ρ1 xs with
     | none=>none
     | some (_,ρ2)=>some (v.bG,ρ2)) else some (v.bG,ρ1)
noncomputable def eIf (t:FT) (a b:FE):FE:=fun ρ=>match t ρ with
 | none=>none
 | some (true,ρ1)=>a ρ1
 | some (false,ρ1)=>b ρ1
noncomputable def jN (a b:FE):FE:=fun ρ=>match a ρ with
 | some (.val (.bl true),ρ1)=>b ρ1
 | some (.val (.bl false),ρ1)=>some (.val (.bl false),ρ1)
 | _=>none
noncomputable def eOr (a b:FE):FE:=fun ρ=>match a ρ with
 | some (.val (.bl true),ρ1)=>some (.val (.bl true),ρ1)
 | some (.val (.bl false),ρ1)=>b ρ1
 | _=>none
noncomputable def yK (a:FE):FE:=fun ρ=>match a ρ with
 | some (.val (.bl c),ρ1)=>some (.val (.bl (!c)),ρ1)
 | _=>none
noncomputable def tV (a:FE):FT:=fun ρ=>match a ρ with
 | some (.val (.bl c),ρ1)=>some (c,ρ1)
 | _=>none
noncomputable def d8 (t:FT):FT:=fun ρ=>match t ρ with
 | some (c,ρ1)=>some (!c,ρ1)
 | none=>none
noncomputable def pC (t u:FT):FT:=fun ρ=>match t ρ with
 | some (true,ρ1)=>u ρ1
 | some (false,ρ1)=>some (false,ρ1)
 | none=>none
noncomputable def tOr (t u:FT):FT:=fun ρ=>match t ρ with
 | some (true,ρ1)=>some (true,ρ1)
 | some (false,ρ1)=>u ρ1
 | none=>none
noncomputable def truth:Dat→Option Bool
 | .non=>some false
 | .bl b=>some b
 | .int i=>some (i != 0)
 | .tup xs=>some (!xs.isEmpty)
 | .lst xs=>some (!xs.isEmpty)
 | _=>none
noncomputable def tTr (a:FE):FT:=fun ρ=>match a ρ with
 | none=>none
 | some (x,ρ1)=>match pk ρ1 x with
  | none=>none
  | some d=>match truth d with
   | none=>none
   | some c=>some (c,ρ1)
noncomputable def fJ:FT:=fun ρ=>some (true,ρ)
noncomputable abbrev FI:=Env→Option (List Dat×Env)
noncomputable def iL (a:FE):FI:=fun ρ=>match a ρ with
 | none=>none
 | some (x,ρ1)=>match tk ρ1 x with
  | some (.lst ds,ρ2)=>some (ds,ρ2)
  | _=>none
noncomputable def iT (a:FE):FI:=fun ρ=>match a ρ with
 | none=>none
 | some (x,ρ1)=>match tk ρ1 x with
  | some (.tup ds,ρ2)=>some (ds,ρ2)
  | _=>none
noncomputable def iS (a:FE):FI:=fun ρ=>match a ρ with
 | none=>none
 | some (x,ρ1)=>match tk ρ1 x with
  | some (.lst ds,ρ2)=>some (ds,ρ2)
  | some (.tup ds,ρ2)=>some (ds,ρ2)
  | _=>none
noncomputable def ups (lo:Int) (n:Nat):List Dat:=(List.range n).map fun i=>Dat.int (lo+(i:Nat))
noncomputable def downs (hi:Int) (n:Nat):List Dat:=(List.range n).map fun i=>Dat.int (hi-(i:Nat))
noncomputable def BIG:Int:=1000000000
noncomputable def iR1 (a:FE):FI:=fun ρ=>match a ρ with
 | some (.val (.int j),ρ1)=>if j≤BIG∧-BIG≤j then some (ups 0 j.toNat,ρ1) else none
 | _=>none
noncomputable def iR2 (a b:FE):FI:=fun ρ=>match a ρ with
 | some (.val (.int i),ρ1)=>(match b ρ1 with
  | some (.val (.int j),ρ2)=>if j≤BIG∧-BIG≤j∧i≤BIG∧-BIG≤i then some (ups i (j-i).toNat,ρ2) else none
  | _=>none)
 | _=>none
noncomputable abbrev FB:=Dat→Env→Option Env
noncomputable def bN (i:Nat):FB:=fun d ρ=>if i=0 then none else some (ρ.set i (.sh d))
noncomputable def sets:List Nat→List Dat→Env→Option Env
 | [],[],ρ=>some ρ
 | i::is,d::ds,ρ=>if i=0 then none else sets is ds (ρ.set i (.sh d))
 | _,_,_=>none
noncomputable def bT (is:List Nat):FB:=fun d ρ=>match d with
 | .tup ds=>sets is ds ρ
 | _=>none
noncomputable def d9 (bd:FB) (t:FT) (el:FE):List Dat→Env→List Dat→Option (List Dat×Env)
 | [],ρ,acc=>some (acc,ρ)
 | d::r,ρ,acc=>match bd d ρ with
  | none=>none
  | some ρ1=>match t ρ1 with
   | none=>none
   | some (false,ρ2)=>d9 bd t el r ρ2 acc
   | some (true,ρ2)=>match el ρ2 with
    | none=>none
    | some (x,ρ3)=>match tk ρ3 x with
     | none=>none
     | some (y,ρ4)=>d9 bd t el r ρ4 (acc++[y])
noncomputable def cK (it:FI) (own:Nat) (bd:FB) (t:FT) (el:FE):FE:=fun ρ=>match it ρ with
 | none=>none
 | some (ds,ρ1)=>if ds.length≤SZ then (match d9 bd t el ds (ρ1++List.replicate own .un) [] with
  | none=>none
  | some (ys,ρ2)=>some (.new (.lst ys),ρ2.take ρ1.length)) else none
inductive Out where
 | nx (ρ:Env)
 | ret (r:RV) (ρ:Env)
 | bk (ρ:Env)
 | ct (ρ:Env)
noncomputable abbrev FS:=Env→Option Out
noncomputable def sNx:FS:=fun ρ=>some (.nx ρ)
noncomputable def aD (s u:FS):FS:=fun ρ=>match s ρ with
 | some (.nx ρ1)=>u ρ1
 | o=>o
noncomputable def sA (i:Nat) (e:FE):FS:=fun ρ=>if i=0 then none else match e ρ with
 | none=>none
 | some (.new d,ρ1)=>some (.nx (ρ1.set i (.ow d)))
 | some (x,ρ1)=>match tk ρ1 x with
  | none=>none
  | some (d,ρ2)=>some (.nx (ρ2.set i (.sh d)))
noncomputable def sU (is:List Nat) (e:FE):FS:=fun ρ=>match e ρ with
 | none=>none
 | some (x,ρ1)=>match tk ρ1 x with
  | some (.tup ds,ρ2)=>(match sets is ds ρ2 with
   | none=>none
   | some ρ3=>some (.nx ρ3))
  | _=>none
noncomputable def sE (e:FE):FS:=fun ρ=>match e ρ with
 | none=>none
 | some (_,ρ1)=>some (.nx ρ1)
noncomputable def sR (e:FE):FS:=fun ρ=>match e ρ with
 | none=>none
 | some (.new d,ρ1)=>some (.ret (.new d) ρ1)
 | some (.val d,ρ1)=>some (.ret (.val d) ρ1)
 | some (.slot i,ρ1)=>match ρ1[i]? with
  | some (.ow d)=>some (.ret (.new d) (ρ1.set i .un))
  | some (.sh d)=>some (.ret (.val d) ρ1)
  | _=>none
noncomputable def sIf (t:FT) (a b:FS):FS:=fun ρ=>match t ρ with
 | none=>none
 | some (true,ρ1)=>a ρ1
 | some (false,ρ1)=>b ρ1
noncomputable def qE (i:Nat) (e:FE):FS:=fun ρ=>match ρ[i]? with
 | some (.ow (.lst _))=>(match e ρ with
  | none=>none
  | some (x,ρ1)=>match tk ρ1 x with
   | none=>none
   | some (d,ρ2)=>match ρ2[i]? with
    | some (.ow (.lst ds))=>if ds.length<SZ then some (.nx (ρ2.set i (.ow (.lst (ds++[d]))))) else none
    | _=>none)
 | _=>none
noncomputable def ixN (n:Nat) (i:Int):Option Nat:=
 if 0≤i then (if i<n then some i.toNat else none) else if -(n:Int)≤i then some (i+n).toNat else none
noncomputable def u_ (i:Nat) (j e:FE):FS:=fun ρ=>match e ρ with
 | none=>none
 | some (x,ρ1)=>match tk ρ1 x with
  | none=>none
  | some (d,ρ2)=>match ρ2[i]? with
   | some (.ow _)=>(match j ρ2 with
    | some (.val (.int k),ρ3)=>(match ρ3[i]? with
     | some (.ow (.lst ds))=>(match ixN ds.length k with
      | none=>none
      | some m=>some (.nx (ρ3.set i (.ow (.lst (ds.set m d))))))
     | _=>none)
    | _=>none)
   | _=>none
noncomputable def kG (bd:FB) (body:FS):List Dat→FS
 | [],ρ=>some (.nx ρ)
 | d::r,ρ=>match bd d ρ with
  | none=>none
  | some ρ1=>match body ρ1 with
   | some (.nx ρ2)=>kG bd body r ρ2
   | some (.ct ρ2)=>kG bd body r ρ2
   | some (.bk ρ2)=>some (.nx ρ2)
   | some (.ret v ρ2)=>some (.ret v ρ2)
   | none=>none
noncomputable def g8 (it:FI) (bd:FB) (body:FS):FS:=fun ρ=>match it ρ with
 | none=>none
 | some (ds,ρ1)=>kG bd body ds ρ1
noncomputable def whD (t:FT) (body:FS):Nat→FS
 | 0,_=>none
 | n+1,ρ=>match t ρ with
  | none=>none
  | some (false,ρ1)=>some (.nx ρ1)
  | some (true,ρ1)=>match body ρ1 with
   | some (.nx ρ2)=>whD t body n ρ2
   | some (.ct ρ2)=>whD t body n ρ2
   | some (.bk ρ2)=>some (.nx ρ2)
   | some (.ret v ρ2)=>some (.ret v ρ2)
   | none=>none
noncomputable def fn (n m:Nat) (body:FS) (ds:List Dat):Option RV:=if ds.length=n then (match body (ds.map Cell.sh++List.replicate m .un) with
 | some (.ret r _)=>some r
 | some (.nx _)=>some (.val .non)
 | _=>none) else none
noncomputable def b2i (b:Bool):Int:=if b then 1 else 0
mutual
noncomputable def eqD:Dat→Dat→Bool
 | .non,.non=>true
 | .bl a,.bl b=>a == b
 | .bl a,.int j=>b2i a == j
 | .int i,.bl b=>i == b2i b
 | .int i,.int j=>i == j
 | .str a,.str b=>a == b
 | .tup xs,.tup ys=>eO xs ys
 | .lst xs,.lst ys=>eO xs ys
 | _,_=>false
noncomputable def eO:List Dat→List Dat→Bool
 | [],[]=>true
 | x::xs,y::ys=>eqD x y&&eO xs ys
 | _,_=>false
end
noncomputable def okD:Nat→Dat→Bool
 | _,.dct _ _=>false
 | _,.exc _=>false
 | _,.fn _=>false
 | _,.str s=>s.all fun c=>decide (c<128)
 | 0,.tup _=>false
 | 0,.lst _=>false
 | n+1,.tup xs=>xs.all (okD n)
 | n+1,.lst xs=>xs.all (okD n)
 | _,_=>true
noncomputable abbrev vB (b:Bool):Option RV:=some (.val (.bl b))
noncomputable def pH (p:Dat→Bool):Dat→Option RV
 | .exc _=>none
 | .fn _=>none
 | d=>vB (p d)
noncomputable abbrev vI (i:Int):Option RV:=some (.val (.int i))
noncomputable def gEq (x y:Dat):Option RV:=if okD 8 x&&okD 8 y then vB (eqD x y) else none
noncomputable def gNe (x y:Dat):Option RV:=if okD 8 x&&okD 8 y then vB (!eqD x y) else none
noncomputable def gLt:Dat→Dat→Option RV
 | .int i,.int j=>vB (decide (i<j))
 | _,_=>none
noncomputable def gLe:Dat→Dat→Option RV
 | .int i,.int j=>vB (decide (i≤j))
 | _,_=>none
noncomputable def gGt:Dat→Dat→Option RV
 | .int i,.int j=>vB (decide (j<i))
 | _,_=>none
noncomputable def gGe:Dat→Dat→Option RV
 | .int i,.int j=>vB (decide (j≤i))
 | _,_=>none
noncomputable def B64:Int:=18446744073709551616
noncomputable def cZ:Dat→Dat→Option RV
 | .int i,.int j=>vI (i+j)
 | .lst xs,.lst ys=>if xs.length+ys.length≤SZ then some (.new (.lst (xs++ys))) else none
 | _,_=>none
noncomputable def fR:Dat→Dat→Option RV
 | .int i,.int j=>vI (i-j)
 | _,_=>none
noncomputable def iC:Dat→Dat→Option RV
 | .int i,.int j=>if (-B64<i∧i<B64)∨(-B64<j∧j<B64) then vI (i*j) else none
 | .lst xs,.int k=>if k≤BIG∧-BIG≤k∧xs.length*k.toNat≤SZ then some (.new (.lst (List.replicate k.toNat xs).flatten)) else none
 | _,_=>none
noncomputable def iD:Int:=1606938044258990275541962092341162602522202993782792835301376
noncomputable def yL:Dat→Dat→Option RV
 | .int i,.int j=>if 0<j∧j<iD then vI (i / j) else none
 | _,_=>none
noncomputable def iE:Dat→Dat→Option RV
 | .int i,.int j=>if 0<j then vI (i % j) else none
 | _,_=>none
noncomputable def fZ:Dat→Dat→Option RV
 | .int i,.int j=>if 0≤j∧j≤1000000∧i.natAbs<1000000 then vI (i ^ j.toNat) else none
 | _,_=>none
noncomputable def atI (xs:List Dat) (i:Int):Option Dat:=(ixN xs.length i).bind fun j=>xs[j]?
noncomputable def gIx:Dat→Dat→Option RV
 | .lst xs,.int i=>(atI xs i).map .val
 | .tup xs,.int i=>(atI xs i).map .val
 | _,_=>none
noncomputable def inD (x:Dat) (xs:List Dat):Bool:=xs.any fun y=>eqD y x
noncomputable def gIn:Dat→Dat→Option RV
 | x,.lst xs=>if okD 8 x&&xs.all (okD 7) then vB (inD x xs) else none
 | x,.tup xs=>if okD 8 x&&xs.all (okD 7) then vB (inD x xs) else none
 | _,_=>none
noncomputable def kH:Dat→Dat→Option RV
 | x,.lst xs=>if okD 8 x&&xs.all (okD 7) then vB (!inD x xs) else none
 | x,.tup xs=>if okD 8 x&&xs.all (okD 7) then vB (!inD x xs) else none
 | _,_=>none
noncomputable def f9:List Dat→Option RV
 | [.lst xs]=>vI xs.length
 | [.tup xs]=>vI xs.length
 | _=>none
noncomputable def mT:List Dat→Option RV
 | [.int i,.int j]=>vI (if j<i then j else i)
 | _=>none
noncomputable def pY:List Dat→Option RV
 | [.int i,.int j]=>vI (if j>i then j else i)
 | _=>none
noncomputable def su:List Dat→Option RV
 | [.lst xs]=>some (.new (.lst xs))
 | [.tup xs]=>some (.new (.lst xs))
 | _=>none
noncomputable def kI:List Dat→Option RV
 | [.lst xs]=>some (.val (.tup xs))
 | [.tup xs]=>some (.val (.tup xs))
 | _=>none
noncomputable def isI:Dat→Bool
 | .int _=>true
 | .bl _=>true
 | _=>false
noncomputable def isB:Dat→Bool
 | .bl _=>true
 | _=>false
noncomputable def isL:Dat→Bool
 | .lst _=>true
 | _=>false
noncomputable def isT:Dat→Bool
 | .tup _=>true
 | _=>false
noncomputable def bools:List Dat→Option (List Bool)
 | []=>some []
 | .bl b::r=>(bools r).map fun bs=>b::bs
 | _=>none
noncomputable def vc:List Dat→Option RV
 | [.lst xs]=>(match bools xs with
  | some bs=>vB (bs.all id)
  | none=>none)
 | _=>none
noncomputable def iF (g h:Dat→Dat→Option RV) (a b c:FE):FE:=fun ρ=>match a ρ with
 | none=>none
 | some (x,ρ1)=>match b ρ1 with
  | none=>none
  | some (y,ρ2)=>match pk ρ2 x with
   | none=>none
   | some d=>match pk ρ2 y with
    | none=>none
    | some e=>match g d e with
     | some (.val (.bl true))=>(match c ρ2 with
      | none=>none
      | some (z,ρ3)=>match pk ρ3 y with
       | none=>none
       | some e'=>match pk ρ3 z with
        | none=>none
        | some f=>match h e' f with
         | none=>none
         | some v=>some (v.bG,ρ3))
     | some (.val (.bl false))=>some (.val (.bl false),ρ2)
     | _=>none
noncomputable def Af:List Dat→Option RV
 | [.int i]=>vI i
 | [.bl b]=>vI (b2i b)
 | _=>none
end Dm
namespace Br
open PySem L2
mutual
inductive Rep (H:Hp):V→Dm.Dat→Prop
 | non:Rep H V.non Dm.Dat.non
 | bl (b:Bool):Rep H (V.bl b) (Dm.Dat.bl b)
 | int (i:Int):Rep H (V.int i) (Dm.Dat.int i)
 | str (s:List Nat):Rep H (V.str ⟨s.toArray⟩) (Dm.Dat.str s)
 | tup {a:Addr} {xs:List V} {ds:List Dm.Dat}:H a=some (.tup xs)→aC H xs ds→Rep H (V.ref a) (Dm.Dat.tup ds)
 | lst {a:Addr} {xs:List V} {ds:List Dm.Dat}:Rd H a (.lst xs)→aC H xs ds→Rep H (V.ref a) (Dm.Dat.lst ds)
 | dct {a:Addr} {kvs:List (Key×V)} {ks:List Int} {ds:List Dm.Dat}:H a=some (.dK kvs)→kvs.map (·.1)=ks.map Sum.inl→aC H (kvs.map (·.2)) ds→Rep H (V.ref a) (Dm.Dat.dct ks ds)
 | exc {a:Addr} {C:Nat}:H a=some (.ext fun h=>∃ o,h.get? a=some o∧o.cls=.ref C)→Rep H (V.ref a) (Dm.Dat.exc C)
 | fn (a:Addr):Rep H (V.ref a) (Dm.Dat.fn a)
inductive aC (H:Hp):List V→List Dm.Dat→Prop
 | nil:aC H [] []
 | cons {v:V} {d:Dm.Dat} {vs:List V} {ds:List Dm.Dat}:Rep H v d→aC H vs ds→aC H (v::vs) (d::ds)
end
theorem ak.rd {H H':Hp} (s:ak H H') {a:Addr} {u:HO} (h:Rd H a u):Rd H' a u:=by
 rcases h with h | ⟨o,h⟩
 ·exact .inl (s _ _ h)
 ·exact .inr ⟨o,s _ _ h⟩
mutual
theorem Rep.mono {H H':Hp} (s:ak H H'):∀ {v:V} {d:Dm.Dat},Rep H v d→Rep H' v d
 | _,_,.non=>.non
 | _,_,.bl b=>.bl b
 | _,_,.int i=>.int i
 | _,_,.str x=>.str x
 | _,_,.tup h r=>.tup (s _ _ h) (aC.mono s r)
 | _,_,.lst h r=>.lst (ak.rd s h) (aC.mono s r)
 | _,_,.dct h e r=>.dct (s _ _ h) e (aC.mono s r)
 | _,_,.exc h=>.exc (s _ _ h)
 | _,_,.fn a=>.fn a
theorem aC.mono {H H':Hp} (s:ak H H'):∀ {vs:List V} {ds:List Dm.Dat},aC H vs ds→aC H' vs ds
 | _,_,.nil=>.nil
 | _,_,.cons h r=>.cons (Rep.mono s h) (aC.mono s r)
end
theorem aC.length {H:Hp}:∀ {vs:List V} {ds:List Dm.Dat},aC H vs ds→vs.length=ds.length
 | _,_,.nil=>rfl
 | _,_,.cons _ r=>by simp [aC.length r]
theorem aC.get {H:Hp}:∀ {vs:List V} {ds:List Dm.Dat} {i:Nat} {d:Dm.Dat},aC H vs ds→ds[i]?=some d→∃ v,vs[i]?=some v∧Rep H v d
 | _,_,_,_,.nil,e=>by simp at e
 | _,_,0,_,.cons h _,e=>by simp at e;subst e;exact ⟨_,rfl,h⟩
 | _,_,i+1,_,.cons _ r,e=>by
  obtain ⟨v,h1,h2⟩:=aC.get (i:=i) r (by simpa using e)
  exact ⟨v,by simpa using h1,h2⟩
theorem aC.append {H:Hp}:∀ {vs ws:List V} {ds es:List Dm.Dat},aC H vs ds→aC H ws es→aC H (vs++ws) (ds++es)
 | _,_,_,_,.nil,s=>s
 | _,_,_,_,.cons h r,s=>.cons h (aC.append r s)
theorem aC.take {H:Hp}:∀ {vs:List V} {ds:List Dm.Dat} (n:Nat),aC H vs ds→aC H (vs.take n) (ds.take n)
 | _,_,0,_=>by simpa using aC.nil
 | _,_,_+1,.nil=>by simpa using aC.nil
 | _,_,n+1,.cons h r=>by simpa using aC.cons h (aC.take n r)
theorem aC.drop {H:Hp}:∀ {vs:List V} {ds:List Dm.Dat} (n:Nat),aC H vs ds→aC H (vs.drop n) (ds.drop n)
 | _,_,0,r=>by simpa using r
 | _,_,_+1,.nil=>by simpa using aC.nil
 | _,_,n+1,.cons _ r=>by simpa using aC.drop n r
theorem aC.set {H:Hp} {v:V} {d:Dm.Dat} (h:Rep H v d):∀ {vs:List V} {ds:List Dm.Dat} (i:Nat),aC H vs ds→aC H (vs.set i v) (ds.set i d)
 | _,_,_,.nil=>.nil
 | _,_,0,.cons _ r=>.cons h r
 | _,_,i+1,.cons q r=>.cons q (aC.set h i r)
theorem aC.rep {H:Hp} {vs:List V} {ds:List Dm.Dat} (r:aC H vs ds):∀ k:Nat,aC H (List.replicate k vs).flatten (List.replicate k ds).flatten
 | 0=>by simpa using aC.nil
 | k+1=>by
  rw [List.replicate_succ,List.replicate_succ,List.flatten_cons,List.flatten_cons]
  exact aC.append r (aC.rep r k)
noncomputable def Own (H0 H:Hp) (a:Addr):Dm.Dat→Prop
 | .lst ds=>∃ xs,H a=some (.lst xs)∧aC H0 xs ds
 | .dct ks ds=>∃ kvs:List (Key×V),H a=some (.dK kvs)∧kvs.map (·.1)=ks.map Sum.inl∧aC H0 (kvs.map (·.2)) ds
 | _=>False
theorem Own.some {H0 H:Hp} {a:Addr} {d:Dm.Dat} (h:Own H0 H a d):∃ o,H a=some o:=by
 cases d with
 | lst ds=>obtain ⟨xs,e,_⟩:=h;exact ⟨_,e⟩
 | dct ks ds=>obtain ⟨xs,e,_⟩:=h;exact ⟨_,e⟩
 | _=>exact False.elim h
theorem Own.mono {H0 H H0' H':Hp} {a:Addr} {d:Dm.Dat} (h:Own H0 H a d) (s:ak H0 H0') (e:H' a=H a):Own H0' H' a d:=by
 cases d with
 | lst ds=>obtain ⟨xs,q,r⟩:=h;exact ⟨xs,by rw [e];exact q,r.mono s⟩
 | dct ks ds=>obtain ⟨xs,q,k,r⟩:=h;exact ⟨xs,by rw [e];exact q,k,r.mono s⟩
 | _=>exact False.elim h
noncomputable def kJ (H0 H:Hp) (v:V) (d:Dm.Dat):Prop:=Rep H0 v d∨∃ a,v=V.ref a∧Own H0 H a d
inductive sy (H0 H:Hp):List V→List Dm.Dat→Prop
 | nil:sy H0 H [] []
 | cons {v:V} {d:Dm.Dat} {vs:List V} {ds:List Dm.Dat}:kJ H0 H v d→sy H0 H vs ds→sy H0 H (v::vs) (d::ds)
noncomputable def shr (H0 H:Hp) (a:Addr):Hp:=fun b=>if b=a then H a else H0 b
theorem eS {H0 H:Hp} {a:Addr}:shr H0 H a a=H a:=by unfold shr;rw [if_pos rfl]
theorem iG {H0 H:Hp} {a b:Addr} (h:b≠a):shr H0 H a b=H0 b:=by unfold shr;rw [if_neg h]
theorem jO {H0 H:Hp} {a:Addr} (h:H0 a=none):ak H0 (shr H0 H a):=fun b o e=>by
 by_cases q:b=a
 ·subst q;rw [h] at e;cases e
 ·rw [iG q];exact e
theorem wW {H0 H:Hp} {a:Addr} (s:ak H0 H):ak (shr H0 H a) H:=fun b o e=>by
 by_cases q:b=a
 ·subst q;rw [eS] at e;exact e
 ·rw [iG q] at e;exact s _ _ e
theorem Own.rep {H0 H:Hp} {a:Addr} {d:Dm.Dat} (h:Own H0 H a d) (n:H0 a=none):Rep (shr H0 H a) (V.ref a) d:=by
 cases d with
 | lst ds=>obtain ⟨xs,q,r⟩:=h;exact .lst (.inl (by rw [eS];exact q)) (r.mono (jO n))
 | dct ks ds=>obtain ⟨xs,q,k,r⟩:=h;exact .dct (by rw [eS];exact q) k (r.mono (jO n))
 | _=>exact False.elim h
noncomputable def aj (σ:St) (ρ:Dm.Env) (a:Addr):Prop:=∃ (i:Nat) (d:Dm.Dat),ρ[i]?=some (Dm.Cell.ow d)∧σ[i]?=some (some (V.ref a))
noncomputable abbrev Def (_:Dm.Env) (_:Nat):Prop:=True
structure au (H0 H:Hp) (σ:St) (ρ:Dm.Env):Prop where
 same:ak H0 H
 len:σ.length=ρ.length
 sh:∀ (i:Nat) (d:Dm.Dat),ρ[i]?=some (Dm.Cell.sh d)→∃ v,σ[i]?=some (some v)∧Rep H0 v d
 ow:∀ (i:Nat) (d:Dm.Dat),ρ[i]?=some (Dm.Cell.ow d)→∃ a,σ[i]?=some (some (V.ref a))∧H0 a=none∧Own H0 H a d
 dis:∀ (i j:Nat) (d e:Dm.Dat) (a:Addr),ρ[i]?=some (Dm.Cell.ow d)→ρ[j]?=some (Dm.Cell.ow e)→σ[i]?=some (some (V.ref a))→σ[j]?=some (some (V.ref a))→i=j
structure Stp (O:Addr→Prop) (H0 H H0' H':Hp):Prop where
 s0:ak H0 H0'
 s1:∀ a o,H a=some o→¬ O a→H' a=some o
 s2:∀ a o,H0' a=some o→H a=none∨H0 a=some o∨O a
 s3:∀ a o,H a=some o→∃ o',H' a=some o'
theorem Stp.refl (O:Addr→Prop) (H0 H:Hp):Stp O H0 H H0 H:=⟨ak.refl _,fun _ _ e _=>e,fun _ _ e=>.inr (.inl e),fun _ o e=>⟨o,e⟩⟩
theorem Stp.gone {O:Addr→Prop} {H0 H H0' H':Hp} (t:Stp O H0 H H0' H') {a:Addr} (h:H' a=none):H a=none:=by
 cases q:H a with
 | none=>rfl
 | some o=>obtain ⟨o',e⟩:=t.s3 a o q;rw [h] at e;cases e
theorem Stp.trans {O1 O2:Addr→Prop} {H0 H H1 H' H2 H'':Hp} (t:Stp O1 H0 H H1 H') (u:Stp O2 H1 H' H2 H'') (k:∀ a,O2 a→O1 a∨H a=none):Stp O1 H0 H H2 H'' where
 s0:=t.s0.trans u.s0
 s1:=fun a o e n=>u.s1 a o (t.s1 a o e n) fun z=>(k a z).elim n fun q=>by rw [q] at e;cases e
 s2:=fun a o e=>by
  rcases u.s2 a o e with q | q | q
  ·exact .inl (t.gone q)
  ·exact t.s2 a o q
  ·rcases k a q with z | z
   ·exact .inr (.inr z)
   ·exact .inl z
 s3:=fun a o e=>by
  obtain ⟨o',e'⟩:=t.s3 a o e
  exact u.s3 a o' e'
theorem Stp.wide {O O':Addr→Prop} {H0 H H0' H':Hp} (t:Stp O H0 H H0' H') (k:∀ a,O a→O' a):Stp O' H0 H H0' H':=
 ⟨t.s0,fun a o e n=>t.s1 a o e fun z=>n (k a z),fun a o e=>(t.s2 a o e).imp id (Or.imp id (k a)),t.s3⟩
structure aK (H0 H H0' H':Hp):Prop where
 s0:ak H0 H0'
 s1:ak H H'
 s2:∀ a o,H0' a=some o→H a=none∨H0 a=some o
 s3:ak H0' H'
theorem aK.refl {H0 H:Hp} (s:ak H0 H):aK H0 H H0 H:=⟨ak.refl _,ak.refl _,fun _ _ e=>.inr e,s⟩
theorem aK.stp {H0 H H0' H':Hp} (g:aK H0 H H0' H') (O:Addr→Prop):Stp O H0 H H0' H':=
 ⟨g.s0,fun a o e _=>g.s1 a o e,fun a o e=>(g.s2 a o e).imp id .inl,fun a o e=>⟨o,g.s1 a o e⟩⟩
theorem aK.yM {H0 H:Hp} (s:ak H0 H) {p:Addr} {o:HO} (n:H p=none):aK H0 H (upd H0 p o) (upd H p o) where
 s0:=fun b u e=>by rw [ao (aI e (s.free n))];exact e
 s1:=fun b u e=>by rw [ao (aI e n)];exact e
 s2:=fun b u e=>by
  by_cases q:b=p
  ·subst q;exact .inl n
  ·rw [ao q] at e;exact .inr e
 s3:=fun b u e=>by
  by_cases q:b=p
  ·subst q;rw [aq] at e ⊢;exact e
  ·rw [ao q] at e ⊢;exact s _ _ e
theorem aK.mU {H0 H:Hp} (s:ak H0 H) {p:Addr} {o:HO} (n:H p=none):aK H0 H H0 (upd H p o) where
 s0:=ak.refl _
 s1:=fun b u e=>by rw [ao (aI e n)];exact e
 s2:=fun b u e=>.inr e
 s3:=fun b u e=>by rw [ao (aI (s _ _ e) n)];exact s _ _ e
noncomputable def f_ (Hs H0 H:Hp) (σ:St) (ρ:Dm.Env) (v:V):Dm.Val→Prop
 | .val d=>Rep H0 v d
 | .slot i=>σ[i]?=some (some v)∧Def ρ i
 | .new d=>∃ a,v=V.ref a∧Hs a=none∧¬ aj σ ρ a∧H0 a=none∧Own H0 H a d
structure ESt (σ:St) (ρ:Dm.Env) (H0 H:Hp) (ρ':Dm.Env) (H0' H':Hp):Prop where
 st:au H0' H' σ ρ'
 stp:Stp (aj σ ρ) H0 H H0' H'
 own:∀ a,aj σ ρ' a→aj σ ρ a
 dfn:∀ i,Def ρ i→Def ρ' i
theorem ESt.refl {σ:St} {ρ:Dm.Env} {H0 H:Hp} (st:au H0 H σ ρ):ESt σ ρ H0 H ρ H0 H:=⟨st,Stp.refl _ _ _,fun _ z=>z,fun _ z=>z⟩
theorem ESt.trans {σ:St} {ρ ρ1 ρ2:Dm.Env} {H0 H H1 H' H2 H'':Hp} (t:ESt σ ρ H0 H ρ1 H1 H') (u:ESt σ ρ1 H1 H' ρ2 H2 H''):ESt σ ρ H0 H ρ2 H2 H'':=
 ⟨u.st,t.stp.trans u.stp fun a z=>.inl (t.own a z),fun a z=>t.own a (u.own a z),fun i z=>u.dfn i (t.dfn i z)⟩
theorem au.grow {σ:St} {ρ:Dm.Env} {H0 H H0' H':Hp} (st:au H0 H σ ρ) (g:aK H0 H H0' H'):au H0' H' σ ρ where
 same:=g.s3
 len:=st.len
 sh:=fun i d e=>by
  obtain ⟨v,q,r⟩:=st.sh i d e
  exact ⟨v,q,r.mono g.s0⟩
 ow:=fun i d e=>by
  obtain ⟨a,q,n,w⟩:=st.ow i d e
  obtain ⟨o,z⟩:=w.some
  refine ⟨a,q,?_,w.mono g.s0 ((g.s1 a o z).trans z.symm)⟩
  cases y:H0' a with
  | none=>rfl
  | some u=>
   rcases g.s2 a u y with k | k
   ·rw [z] at k;cases k
   ·rw [n] at k;cases k
 dis:=st.dis
theorem ESt.grow {σ:St} {ρ:Dm.Env} {H0 H H0' H':Hp} (st:au H0 H σ ρ) (g:aK H0 H H0' H'):ESt σ ρ H0 H ρ H0' H':=
 ⟨st.grow g,g.stp _,fun _ z=>z,fun _ z=>z⟩
theorem f_.mono {Hs H0 H H0' H':Hp} {σ:St} {ρ ρ':Dm.Env} {v:V} {x:Dm.Val} (r:f_ Hs H0 H σ ρ v x) (t:ESt σ ρ H0 H ρ' H0' H'):f_ Hs H0' H' σ ρ' v x:=by
 cases x with
 | val d=>exact Rep.mono t.stp.s0 r
 | slot i=>exact ⟨r.1,t.dfn i r.2⟩
 | new d=>
  obtain ⟨a,e,n,no,n0,w⟩:=r
  obtain ⟨o,z⟩:=w.some
  refine ⟨a,e,n,fun y=>no (t.own a y),?_,w.mono t.stp.s0 ((t.stp.s1 a o z no).trans z.symm)⟩
  cases y:H0' a with
  | none=>rfl
  | some u=>
   rcases t.stp.s2 a u y with k | k | k
   ·rw [z] at k;cases k
   ·rw [n0] at k;cases k
   ·exact absurd k no
theorem f_.early {Hs Hs' H0 H:Hp} {σ:St} {ρ:Dm.Env} {v:V} {x:Dm.Val} (r:f_ Hs H0 H σ ρ v x) (k:∀ a,Hs a=none→Hs' a=none):f_ Hs' H0 H σ ρ v x:=by
 cases x with
 | val d=>exact r
 | slot i=>exact r
 | new d=>obtain ⟨a,e,n,z⟩:=r;exact ⟨a,e,k a n,z⟩
theorem f_.look {Hs H0 H:Hp} {σ:St} {ρ:Dm.Env} {v:V} {x:Dm.Val} {d:Dm.Dat} (r:f_ Hs H0 H σ ρ v x) (st:au H0 H σ ρ) (e:Dm.pk ρ x=some d):kJ H0 H v d:=by
 cases x with
 | val d'=>cases e;exact .inl r
 | new d'=>
  cases e
  obtain ⟨a,e,_,_,_,w⟩:=r
  exact .inr ⟨a,e,w⟩
 | slot i=>
  obtain ⟨q,_⟩:=r
  unfold Dm.pk at e
  dsimp only at e
  split at e
  ·rename_i d' h
   cases e
   obtain ⟨a,z,_,w⟩:=st.ow i d h
   rw [q] at z
   cases z
   exact .inr ⟨a,rfl,w⟩
  ·rename_i d' h
   cases e
   obtain ⟨u,z,w⟩:=st.sh i d h
   rw [q] at z
   cases z
   exact .inl w
  ·cases e
noncomputable def sC (Hs H0 H:Hp) (v:V):Dm.RV→Prop
 | .val d=>Rep H0 v d
 | .new d=>∃ a,v=V.ref a∧Hs a=none∧H0 a=none∧Own H0 H a d
theorem sC.toV {H H0' H' H0:Hp} {σ:St} {ρ:Dm.Env} {v:V} {z:Dm.RV} (r:sC H H0' H' v z) (st:au H0 H σ ρ):f_ H H0' H' σ ρ v z.bG:=by
 cases z with
 | val d=>exact r
 | new d=>
  obtain ⟨a,e,n,n0,w⟩:=r
  refine ⟨a,e,n,fun ⟨i,d',h1,h2⟩=>?_,n0,w⟩
  obtain ⟨a',q,_,w'⟩:=st.ow i d' h1
  rw [h2] at q
  cases q
  obtain ⟨o,z⟩:=w'.some
  rw [n] at z;cases z
noncomputable def tD (f:Dm.FE):TE:=fun σ H Q=>∃ H0 ρ x ρ',au H0 H σ ρ∧f ρ=some (x,ρ')∧∀ v H0' H',ESt σ ρ H0 H ρ' H0' H'→f_ H H0' H' σ ρ' v x→Q v H'
noncomputable def tDT (f:Dm.FT):TT:=fun σ H Q=>∃ H0 ρ b ρ',au H0 H σ ρ∧f ρ=some (b,ρ')∧∀ H0' H',ESt σ ρ H0 H ρ' H0' H'→Q b H'
inductive dB (Hs H0 H:Hp) (σ:St) (ρ:Dm.Env):List V→List Dm.Val→Prop
 | nil:dB Hs H0 H σ ρ [] []
 | cons {v:V} {x:Dm.Val} {vs:List V} {xs:List Dm.Val}:f_ Hs H0 H σ ρ v x→dB Hs H0 H σ ρ vs xs→dB Hs H0 H σ ρ (v::vs) (x::xs)
noncomputable def tDA (fs:List Dm.FE):TA:=fun σ H Q=>∃ H0 ρ xs ρ',au H0 H σ ρ∧Dm.eAs fs ρ=some (xs,ρ')∧∀ vs H0' H',ESt σ ρ H0 H ρ' H0' H'→dB H H0' H' σ ρ' vs xs→Q vs H'
noncomputable abbrev DE (X:Cx) (e:Expr) (f:Dm.FE):Prop:=PE X e (tD f)
noncomputable abbrev DT (X:Cx) (e:Expr) (f:Dm.FT):Prop:=PT X e (tDT f)
noncomputable abbrev DA (X:Cx) (es:List Expr) (fs:List Dm.FE):Prop:=PA X es (tDA fs)
theorem PE.weak {X:Cx} {e:Expr} {t t':TE} (h:PE X e t) (k:∀ σ H Q,t' σ H Q→t σ H Q):PE X e t':=fun pins s σ H Q I q=>h pins s σ H Q I (k σ H Q q)
theorem PT.weak {X:Cx} {e:Expr} {t t':TT} (h:PT X e t) (k:∀ σ H Q,t' σ H Q→t σ H Q):PT X e t':=fun pins s σ H Q I q=>h pins s σ H Q I (k σ H Q q)
theorem PA.weak {X:Cx} {es:List Expr} {t t':TA} (h:PA X es t) (k:∀ σ H Q,t' σ H Q→t σ H Q):PA X es t':=fun pos pins s σ H Q I q=>h pos pins s σ H Q I (k σ H Q q)
theorem PS.weak {X:Cx} {st:Stmt} {t t':TS} (h:PS X st t) (k:∀ D σ H,t' D σ H→t D σ H):PS X st t':=fun pins s σ H D I q=>h pins s σ H D I (k D σ H q)
theorem PSs.weak {X:Cx} {st:List Stmt} {t t':TS} (h:PSs X st t) (k:∀ D σ H,t' D σ H→t D σ H):PSs X st t':=fun pins s σ H D I q=>h pins s σ H D I (k D σ H q)
theorem dP {H0 H:Hp} {a:Addr} (s:ak H0 H):ak H0 (shr H0 H a):=fun b o e=>by
 by_cases q:b=a
 ·subst q;rw [eS];exact s _ _ e
 ·rw [iG q];exact e
theorem Own.KN {H0 H0c H:Hp} {a:Addr} {d:Dm.Dat} (h:Own H0 H a d) (b:ak H0 H0c) (s:ak H0c H):Rep (shr H0c H a) (V.ref a) d:=by
 cases d with
 | lst ds=>obtain ⟨xs,q,r⟩:=h;exact .lst (.inl (by rw [eS];exact q)) (r.mono (b.trans (dP s)))
 | dct ks ds=>obtain ⟨xs,q,k,r⟩:=h;exact .dct (by rw [eS];exact q) k (r.mono (b.trans (dP s)))
 | _=>exact False.elim h
theorem f_.rho {Hs H0 H:Hp} {σ:St} {ρ ρ':Dm.Env} {v:V} {x:Dm.Val} (r:f_ Hs H0 H σ ρ v x) (o:∀ a,aj σ ρ' a→aj σ ρ a) (d:∀ i,Def ρ i→Def ρ' i):f_ Hs H0 H σ ρ' v x:=by
 cases x with
 | val d=>exact r
 | slot i=>exact ⟨r.1,d i r.2⟩
 | new d=>obtain ⟨a,e,n,no,z⟩:=r;exact ⟨a,e,n,fun y=>no (o a y),z⟩
theorem dB.rho {Hs H0 H:Hp} {σ:St} {ρ ρ':Dm.Env} (o:∀ a,aj σ ρ' a→aj σ ρ a) (d:∀ i,Def ρ i→Def ρ' i):∀ {vs:List V} {xs:List Dm.Val},dB Hs H0 H σ ρ vs xs→dB Hs H0 H σ ρ' vs xs
 | _,_,.nil=>.nil
 | _,_,.cons h r=>.cons (h.rho o d) (dB.rho o d r)
theorem dB.early {Hs Hs' H0 H:Hp} {σ:St} {ρ:Dm.Env} (k:∀ a,Hs a=none→Hs' a=none):∀ {vs:List V} {xs:List Dm.Val},dB Hs H0 H σ ρ vs xs→dB Hs' H0 H σ ρ vs xs
 | _,_,.nil=>.nil
 | _,_,.cons h r=>.cons (h.early k) (dB.early k r)
theorem aQ {ρ:Dm.Env} {i j:Nat} {c d:Dm.Cell} (h:(ρ.set i c)[j]?=some d):(j=i∧d=c)∨(j≠i∧ρ[j]?=some d):=by
 by_cases e:j=i
 ·subst e
  by_cases l:j<ρ.length
  ·rw [List.getElem?_set_self l] at h
   exact .inl ⟨rfl,(Option.some.inj h).symm⟩
  ·rw [List.getElem?_eq_none (by simpa using Nat.not_lt.mp l)] at h
   cases h
 ·rw [List.getElem?_set_ne (Ne.symm e)] at h
  exact .inr ⟨e,h⟩
theorem vd {H0 H:Hp} {σ:St} {ρ:Dm.Env} {i:Nat} {a:Addr} {d:Dm.Dat} (st:au H0 H σ ρ) (e:ρ[i]?=some (.ow d)) (q:σ[i]?=some (some (V.ref a))) :
  au (shr H0 H a) H σ (ρ.set i (.sh d))∧(∀ b,aj σ (ρ.set i (.sh d)) b→aj σ ρ b)∧∀ j,Def ρ j→Def (ρ.set i (.sh d)) j:=by
 obtain ⟨a',q',n,w⟩:=st.ow i d e
 rw [q] at q'
 cases q'
 have hil:i<ρ.length:=(List.getElem?_eq_some_iff.mp e).1
 refine ⟨⟨wW st.same,by rw [List.length_set];exact st.len,fun j d' h=>?_,fun j d' h=>?_,fun j k d1 d2 b h1 h2 h3 h4=>?_⟩,fun b ⟨j,d',h1,h2⟩=>?_,fun j h=>?_⟩
 ·rcases aQ h with ⟨rfl,z⟩ | ⟨_,h⟩
  ·cases z
   exact ⟨_,q,w.rep n⟩
  ·obtain ⟨v,z,r⟩:=st.sh j d' h
   exact ⟨v,z,r.mono (jO n)⟩
 ·rcases aQ h with ⟨_,z⟩ | ⟨hj,h⟩
  ·cases z
  ·obtain ⟨b,z,n',w'⟩:=st.ow j d' h
   have nb:b≠a:=fun y=>hj (st.dis j i d' d a h e (y▸z) q)
   exact ⟨b,z,by rw [iG nb];exact n',w'.mono (jO n) rfl⟩
 ·rcases aQ h1 with ⟨_,z⟩ | ⟨_,h1⟩
  ·cases z
  ·rcases aQ h2 with ⟨_,z⟩ | ⟨_,h2⟩
   ·cases z
   ·exact st.dis j k d1 d2 b h1 h2 h3 h4
 ·rcases aQ h1 with ⟨_,z⟩ | ⟨_,h1⟩
  ·cases z
  ·exact ⟨j,d',h1,h2⟩
 ·trivial
theorem yN {H0 H:Hp} {σ:St} {ρ:Dm.Env} {a:Addr} (st:au H0 H σ ρ) (no:¬ aj σ ρ a):au (shr H0 H a) H σ ρ where
 same:=wW st.same
 len:=st.len
 sh:=fun j d h=>by
  obtain ⟨v,z,r⟩:=st.sh j d h
  exact ⟨v,z,r.mono (dP st.same)⟩
 ow:=fun j d h=>by
  obtain ⟨b,z,n',w'⟩:=st.ow j d h
  have nb:b≠a:=fun y=>no ⟨j,d,h,y▸z⟩
  exact ⟨b,z,by rw [iG nb];exact n',w'.mono (dP st.same) rfl⟩
 dis:=st.dis
theorem take1 {Hs H0s H0 H0c H:Hp} {σ:St} {ρs ρ ρ':Dm.Env} {v:V} {x:Dm.Val} {d:Dm.Dat} (t:ESt σ ρs H0s Hs ρ H0c H) (b:ak H0 H0c) (r:f_ Hs H0 H σ ρ v x) (e:Dm.tk ρ x=some (d,ρ')) :
  ∃ mV,ESt σ ρs H0s Hs ρ' mV H∧ak H0c mV∧Rep mV v d∧(∀ a,aj σ ρ' a→aj σ ρ a)∧∀ i,Def ρ i→Def ρ' i:=by
 cases x with
 | val d'=>cases e;exact ⟨H0c,t,ak.refl _,Rep.mono b r,fun _ z=>z,fun _ z=>z⟩
 | new d'=>
  cases e
  obtain ⟨a,e,n,no,n0,w⟩:=r
  subst e
  have ss:=dP (a:=a) t.st.same
  refine ⟨shr H0c H a,⟨yN t.st no,⟨t.stp.s0.trans ss,t.stp.s1,fun c o q=>?_,t.stp.s3⟩,t.own,t.dfn⟩,ss,w.KN b t.st.same,fun _ z=>z,fun _ z=>z⟩
  by_cases y:c=a
  ·subst y;exact .inl n
  ·rw [iG y] at q;exact t.stp.s2 c o q
 | slot i=>
  obtain ⟨q,_⟩:=r
  unfold Dm.tk at e
  dsimp only at e
  split at e
  ·rename_i d' h
   cases e
   obtain ⟨a,z,n,w⟩:=t.st.ow i _ h
   rw [q] at z
   cases z
   obtain ⟨s1,s2,s3⟩:=vd t.st h q
   have ss:=dP (a:=a) t.st.same
   refine ⟨shr H0c H a,⟨s1,⟨t.stp.s0.trans ss,t.stp.s1,fun c o q'=>?_,t.stp.s3⟩,fun b z=>t.own b (s2 b z),fun j z=>s3 j (t.dfn j z)⟩,ss,w.KN (ak.refl _) t.st.same,s2,s3⟩
   by_cases y:c=a
   ·subst y;exact .inr (.inr (t.own c ⟨i,_,h,q⟩))
   ·rw [iG y] at q';exact t.stp.s2 c o q'
  ·rename_i d' h
   cases e
   obtain ⟨u,z,w⟩:=t.st.sh i _ h
   rw [q] at z
   cases z
   exact ⟨H0c,t,ak.refl _,w,fun _ z=>z,fun _ z=>z⟩
  ·cases e
theorem takes {Hs H0s H0 H:Hp} {σ:St} {ρs:Dm.Env}:∀ {xs:List Dm.Val} {vs:List V} {ρ ρ':Dm.Env} {ds:List Dm.Dat} {H0c:Hp},ESt σ ρs H0s Hs ρ H0c H→ak H0 H0c→dB Hs H0 H σ ρ vs xs→Dm.tks ρ xs=some (ds,ρ') →
  ∃ mV,ESt σ ρs H0s Hs ρ' mV H∧ak H0c mV∧aC mV vs ds
 | [],_,ρ,ρ',ds,H0c,t,b,r,e=>by
  cases r
  cases e
  exact ⟨H0c,t,ak.refl _,.nil⟩
 | x::xs,_,ρ,ρ',ds,H0c,t,b,r,e=>by
  cases r with
  | cons h r=>
   unfold Dm.tks at e
   split at e
   ·cases e
   ·rename_i d ρ1 e1
    split at e
    ·cases e
    ·rename_i ds' ρ2 e2
     cases e
     obtain ⟨H1,t1,b1,r1,o1,d1⟩:=take1 t b h e1
     obtain ⟨H2,t2,b2,r2⟩:=takes t1 (b.trans b1) (r.rho o1 d1) e2
     exact ⟨H2,t2,b1.trans b2,.cons (r1.mono b2) r2⟩
theorem KP {ρ ρ':Dm.Env} {x:Dm.Val} {d:Dm.Dat} (e:Dm.tk ρ x=some (d,ρ')) (y:Dm.Val):Dm.pk ρ' y=Dm.pk ρ y:=by
 cases x with
 | val d'=>cases e;rfl
 | new d'=>cases e;rfl
 | slot i=>
  unfold Dm.tk at e
  dsimp only at e
  split at e
  ·rename_i d' h
   cases e
   cases y with
   | val _=>rfl
   | new _=>rfl
   | slot j=>
    unfold Dm.pk
    dsimp only
    by_cases z:j=i
    ·subst z
     rw [List.getElem?_set_self (List.getElem?_eq_some_iff.mp h).1,h]
    ·rw [List.getElem?_set_ne (Ne.symm z)]
  ·cases e;rfl
  ·cases e
theorem Ag {ρ:Dm.Env} {x:Dm.Val} {d:Dm.Dat} (e:Dm.pk ρ x=some d):∃ ρ',Dm.tk ρ x=some (d,ρ'):=by
 cases x with
 | val d'=>cases e;exact ⟨ρ,rfl⟩
 | new d'=>cases e;exact ⟨ρ,rfl⟩
 | slot i=>
  unfold Dm.pk at e
  dsimp only at e
  unfold Dm.tk
  dsimp only
  split at e
  ·rename_i d' h;cases e;exact ⟨_,rfl⟩
  ·rename_i d' h;cases e;exact ⟨_,rfl⟩
  ·cases e
theorem iH:∀ {xs:List Dm.Val} {ρ:Dm.Env} {ds:List Dm.Dat},Dm.pks ρ xs=some ds→∃ ρ',Dm.tks ρ xs=some (ds,ρ')
 | [],ρ,ds,e=>by cases e;exact ⟨ρ,rfl⟩
 | x::xs,ρ,ds,e=>by
  unfold Dm.pks at e
  split at e
  ·cases e
  ·rename_i d e1
   split at e
   ·cases e
   ·rename_i ds' e2
    cases e
    obtain ⟨ρ1,h1⟩:=Ag e1
    have key:∀ ys:List Dm.Val,Dm.pks ρ1 ys=Dm.pks ρ ys:=fun ys=>by
     induction ys with
     | nil=>rfl
     | cons y ys ih=>unfold Dm.pks;rw [KP h1 y,ih]
    obtain ⟨ρ2,h2⟩:=iH (xs:=xs) (ρ:=ρ1) (ds:=ds') (by rw [key];exact e2)
    exact ⟨ρ2,by unfold Dm.tks;rw [h1];dsimp only;rw [h2]⟩
theorem looks {Hs H0 H:Hp} {σ:St} {ρ:Dm.Env} (st:au H0 H σ ρ):∀ {xs:List Dm.Val} {vs:List V} {ds:List Dm.Dat},dB Hs H0 H σ ρ vs xs→Dm.pks ρ xs=some ds→sy H0 H vs ds
 | [],_,ds,r,e=>by cases r;cases e;exact .nil
 | x::xs,_,ds,r,e=>by
  cases r with
  | cons h r=>
   unfold Dm.pks at e
   split at e
   ·cases e
   ·rename_i d e1
    split at e
    ·cases e
    ·rename_i ds' e2
     cases e
     exact .cons (h.look st e1) (looks st r e2)
noncomputable def OpD (r:R2) (g:Dm.Dat→Dm.Dat→Option Dm.RV):Prop:=∀ (H0 H:Hp) (x y:V) (dx dy:Dm.Dat) (z:Dm.RV) (Q:VK),ak H0 H→kJ H0 H x dx→kJ H0 H y dy→g dx dy=some z →
 (∀ v H0' H',aK H0 H H0' H'→sC H H0' H' v z→Q v H')→r x y H Q
noncomputable def UnD (r:V→Hp→VK→Prop) (g:Dm.Dat→Option Dm.RV):Prop:=∀ (H0 H:Hp) (x:V) (dx:Dm.Dat) (z:Dm.RV) (Q:VK),ak H0 H→kJ H0 H x dx→g dx=some z →
 (∀ v H0' H',aK H0 H H0' H'→sC H H0' H' v z→Q v H')→r x H Q
noncomputable def CallD (r:List V→Hp→VK→Prop) (g:List Dm.Dat→Option Dm.RV):Prop:=∀ (H0 H:Hp) (vs:List V) (ds:List Dm.Dat) (z:Dm.RV) (Q:VK),ak H0 H→sy H0 H vs ds→g ds=some z →
 (∀ v H0' H',aK H0 H H0' H'→sC H H0' H' v z→Q v H')→r vs H Q
noncomputable def spD (f:List Dm.Dat→Option Dm.RV):Sp:=fun vs H Q _=>∃ H0 ds z,ak H0 H∧aC H0 vs ds∧f ds=some z∧∀ v H0' H',aK H0 H H0' H'→sC H H0' H' v z→Q v H'
section
variable {σ:St} {H:Hp} {Q:VK}
theorem KQ {i:Nat} (h:tD (Dm.eV i) σ H Q):rZ i σ H Q:=by
 obtain ⟨H0,ρ,x,ρ',st,e,k⟩:=h
 unfold Dm.eV at e
 split at e
 ·rename_i d h1
  cases e
  obtain ⟨v,q,r⟩:=st.sh i d h1
  exact ⟨v,q,k v H0 H (.refl st) r⟩
 ·rename_i d h1
  cases e
  obtain ⟨a,q,_⟩:=st.ow i d h1
  exact ⟨_,q,k _ H0 H (.refl st) ⟨q,trivial⟩⟩
 ·cases e
theorem jP {d:Dm.Dat} {v:V} (c:∀ H0:Hp,Rep H0 v d) (h:tD (Dm.eC d) σ H Q):tC v σ H Q:=by
 obtain ⟨H0,ρ,x,ρ',st,e,k⟩:=h
 cases e
 exact k v H0 H (.refl st) (c H0)
theorem ve {r:R2} {g:Dm.Dat→Dm.Dat→Option Dm.RV} {fa fb:Dm.FE} (o:OpD r g) (h:tD (Dm.e2 g fa fb) σ H Q):tOp r (tD fa) (tD fb) σ H Q:=by
 obtain ⟨H0,ρ,x,ρ',st,e,k⟩:=h
 unfold Dm.e2 at e
 split at e
 ·cases e
 rename_i x1 ρ1 e1
 split at e
 ·cases e
 rename_i y1 ρ2 e2
 split at e
 ·cases e
 rename_i dx p1
 split at e
 ·cases e
 rename_i dy p2
 split at e
 ·cases e
 rename_i z gz
 cases e
 refine ⟨H0,ρ,x1,ρ1,st,e1,fun v H1 Hb t1 r1=>⟨H1,ρ1,y1,_,t1.st,e2,fun u H2 Hc t2 r2=>?_⟩⟩
 refine o H2 Hc v u dx dy z Q t2.st.same ((r1.mono t2).look t2.st p1) (r2.look t2.st p2) gz fun w H3 Hd g3 r3=>?_
 exact k w H3 Hd (t1.trans (t2.trans (.grow t2.st g3))) ((r3.toV t2.st).early fun a n=>(t1.trans t2).stp.gone n)
theorem M4 {r:V→Hp→VK→Prop} {g:Dm.Dat→Option Dm.RV} {fa:Dm.FE} (o:UnD r g) (h:tD (Dm.e1 g fa) σ H Q):tUn r (tD fa) σ H Q:=by
 obtain ⟨H0,ρ,x,ρ',st,e,k⟩:=h
 unfold Dm.e1 at e
 split at e
 ·cases e
 rename_i x1 ρ1 e1
 split at e
 ·cases e
 rename_i dx p1
 split at e
 ·cases e
 rename_i z gz
 cases e
 refine ⟨H0,ρ,x1,_,st,e1,fun v H1 Hb t1 r1=>?_⟩
 refine o H1 Hb v dx z Q t1.st.same (r1.look t1.st p1) gz fun w H3 Hd g3 r3=>?_
 exact k w H3 Hd (t1.trans (.grow t1.st g3)) ((r3.toV t1.st).early fun a n=>t1.stp.gone n)
theorem KR {Q:List V→Hp→Prop} (h:tDA [] σ H Q):u6 σ H Q:=by
 obtain ⟨H0,ρ,xs,ρ',st,e,k⟩:=h
 cases e
 exact k [] H0 H (.refl st) .nil
theorem HB {f:Dm.FE} {fs:List Dm.FE} {Q:List V→Hp→Prop} (h:tDA (f::fs) σ H Q):k_ (tD f) (tDA fs) σ H Q:=by
 obtain ⟨H0,ρ,xs,ρ',st,e,k⟩:=h
 unfold Dm.eAs at e
 split at e
 ·cases e
 rename_i x1 ρ1 e1
 split at e
 ·cases e
 rename_i xs1 ρ2 e2
 cases e
 refine ⟨H0,ρ,x1,ρ1,st,e1,fun v H1 Hb t1 r1=>⟨H1,ρ1,xs1,_,t1.st,e2,fun vs H2 Hc t2 r2=>?_⟩⟩
 exact k (v::vs) H2 Hc (t1.trans t2) (.cons (r1.mono t2) (r2.early fun a n=>t1.stp.gone n))
theorem HC {r:List V→Hp→VK→Prop} {g:List Dm.Dat→Option Dm.RV} {fs:List Dm.FE} (o:CallD r g) (h:tD (Dm.eB g fs) σ H Q):tCB r (tDA fs) σ H Q:=by
 obtain ⟨H0,ρ,x,ρ',st,e,k⟩:=h
 unfold Dm.eB at e
 split at e
 ·cases e
 rename_i xs ρ1 e1
 split at e
 ·cases e
 rename_i ds p1
 split at e
 ·cases e
 rename_i z gz
 cases e
 refine ⟨H0,ρ,xs,_,st,e1,fun vs H1 Hb t1 r1=>?_⟩
 refine o H1 Hb vs ds z Q t1.st.same (looks t1.st r1 p1) gz fun w H3 Hd g3 r3=>?_
 exact k w H3 Hd (t1.trans (.grow t1.st g3)) ((r3.toV t1.st).early fun a n=>t1.stp.gone n)
theorem jQ {n:Nat} (h:n≤Dm.SZ):n≤sizeLine:=Nat.le_trans h (by decide)
theorem KS {fs:List Dm.FE} (h:tD (Dm.bE fs) σ H Q):Hi (tDA fs) σ H Q:=by
 obtain ⟨H0,ρ,x,ρ',st,e,k⟩:=h
 unfold Dm.bE at e
 split at e
 ·cases e
 rename_i xs ρ1 e1
 split at e
 ·cases e
 rename_i ds ρ2 e2
 split at e
 ·rename_i hz
  cases e
  refine ⟨H0,ρ,xs,ρ1,st,e1,fun vs H1 Hb t1 r1=>?_⟩
  obtain ⟨H2,t2,b2,r2⟩:=takes t1 (ak.refl _) r1 e2
  refine ⟨by rw [r2.length];exact jQ hz,fun p hp=>?_⟩
  have g:=aK.yM (o:=HO.tup vs) t2.st.same hp
  exact k _ _ _ (t2.trans (.grow t2.st g)) (.tup aq (r2.mono g.s0))
 ·cases e
theorem KU {fs:List Dm.FE} (h:tD (Dm.bF fs) σ H Q):Dr (tDA fs) σ H Q:=by
 obtain ⟨H0,ρ,x,ρ',st,e,k⟩:=h
 unfold Dm.bF at e
 split at e
 ·cases e
 rename_i xs ρ1 e1
 split at e
 ·cases e
 rename_i ds ρ2 e2
 split at e
 ·rename_i hz
  cases e
  refine ⟨H0,ρ,xs,ρ1,st,e1,fun vs H1 Hb t1 r1=>?_⟩
  obtain ⟨H2,t2,b2,r2⟩:=takes t1 (ak.refl _) r1 e2
  refine ⟨by rw [r2.length];exact jQ hz,fun p hp=>?_⟩
  have g:=aK.mU (o:=HO.lst vs) t2.st.same hp
  refine k _ _ _ (t2.trans (.grow t2.st g)) ⟨p,rfl,t2.stp.gone hp,fun ⟨i,d,h1,h2⟩=>?_,t2.st.same.free hp,vs,aq,r2⟩
  obtain ⟨a,q,_,w⟩:=t2.st.ow i d h1
  rw [h2] at q
  cases q
  obtain ⟨o,z⟩:=w.some
  rw [hp] at z;cases z
 ·cases e
theorem Rep.plain {H0 H1:Hp} {v:V} {d:Dm.Dat} (r:Rep H0 v d) (n:Dm.fH d=false):Rep H1 v d:=by
 cases r with
 | non=>exact .non
 | bl b=>exact .bl b
 | int i=>exact .int i
 | str s=>exact .str s
 | tup _ _=>cases n
 | lst _ _=>cases n
 | dct _ _ _=>cases n
 | exc _=>cases n
 | fn a=>exact .fn a
theorem Own.box {H0 H:Hp} {a:Addr} {d:Dm.Dat} (w:Own H0 H a d):Dm.fH d=true:=by
 cases d with
 | lst ds=>rfl
 | dct ks ds=>rfl
 | _=>exact False.elim w
theorem Ah {f:List Dm.Dat→Option Dm.RV} {fs:List Dm.FE} {E:XK} (h:tD (Dm.eF f fs) σ H Q):pR (spD f) [] E (tDA fs) σ H Q:=by
 obtain ⟨H0,ρ,x,ρ',st,e,k⟩:=h
 unfold Dm.eF at e
 split at e
 ·cases e
 rename_i xs ρ1 e1
 split at e
 ·cases e
 rename_i ds p1
 split at e
 ·cases e
 rename_i z fz
 refine ⟨H0,ρ,xs,ρ1,st,e1,fun vs H1 Hb t1 r1=>?_⟩
 dsimp only
 rw [List.append_nil]
 obtain ⟨ρ2,e2⟩:=iH p1
 obtain ⟨H2,t2,b2,r2⟩:=takes t1 (ak.refl _) r1 e2
 split at e
 ·rw [e2] at e
  cases e
  exact ⟨H2,ds,z,t2.st.same,r2,fz,fun w H3 Hd g3 r3=>k w H3 Hd (t2.trans (.grow t2.st g3)) ((r3.toV t2.st).early fun a n=>t2.stp.gone n)⟩
 ·rename_i nb
  cases e
  refine ⟨H2,ds,z,t2.st.same,r2,fz,fun w H3 Hd g3 r3=>?_⟩
  have g:aK H1 Hb H1 Hd:=⟨ak.refl _,g3.s1,fun a o q=>.inr q,t1.st.same.trans g3.s1⟩
  refine k w H1 Hd (t1.trans (.grow t1.st g)) ?_
  cases z with
  | val d=>exact Rep.plain r3 (by simpa [Dm.RV.dat] using nb)
  | new d=>
   obtain ⟨a,_,_,_,w⟩:=r3
   exact absurd w.box (by simpa [Dm.RV.dat] using nb)
theorem M5 {t:Dm.FT} {a b:Dm.FE} (h:tD (Dm.eIf t a b) σ H Q):tIf (tDT t) (tD a) (tD b) σ H Q:=by
 obtain ⟨H0,ρ,x,ρ',st,e,k⟩:=h
 unfold Dm.eIf at e
 split at e
 ·cases e
 ·rename_i ρ1 e1
  refine ⟨H0,ρ,true,ρ1,st,e1,fun H1 Hb t1=>?_⟩
  dsimp only
  rw [if_pos rfl]
  exact ⟨H1,ρ1,x,ρ',t1.st,e,fun v H2 Hc t2 r2=>k v H2 Hc (t1.trans t2) (r2.early fun a n=>t1.stp.gone n)⟩
 ·rename_i ρ1 e1
  refine ⟨H0,ρ,false,ρ1,st,e1,fun H1 Hb t1=>?_⟩
  dsimp only
  rw [if_neg Bool.false_ne_true]
  exact ⟨H1,ρ1,x,ρ',t1.st,e,fun v H2 Hc t2 r2=>k v H2 Hc (t1.trans t2) (r2.early fun a n=>t1.stp.gone n)⟩
theorem Rep.mW {H0:Hp} {v:V} {c:Bool} (r:Rep H0 v (.bl c)):v=.bl c:=by cases r;rfl
theorem Rep.isInt {H0:Hp} {v:V} {c:Int} (r:Rep H0 v (.int c)):v=.int c:=by cases r;rfl
theorem KW {a b:Dm.FE} (h:tD (Dm.jN a b) σ H Q):Fj (tD a) (tD b) σ H Q:=by
 obtain ⟨H0,ρ,x,ρ',st,e,k⟩:=h
 unfold Dm.jN at e
 split at e
 ·rename_i ρ1 e1
  refine ⟨H0,ρ,_,_,st,e1,fun v H1 Hb t1 r1=>⟨true,Rep.mW r1,?_⟩⟩
  try dsimp only
  rw [if_pos rfl]
  exact ⟨H1,ρ1,x,ρ',t1.st,e,fun v H2 Hc t2 r2=>k v H2 Hc (t1.trans t2) (r2.early fun a n=>t1.stp.gone n)⟩
 ·rename_i ρ1 e1
  cases e
  refine ⟨H0,ρ,_,_,st,e1,fun v H1 Hb t1 r1=>⟨false,Rep.mW r1,?_⟩⟩
  try dsimp only
  rw [if_neg Bool.false_ne_true]
  exact k _ H1 Hb t1 (Rep.bl false)
 ·cases e
theorem M6 {a b:Dm.FE} (h:tD (Dm.eOr a b) σ H Q):Kq (tD a) (tD b) σ H Q:=by
 obtain ⟨H0,ρ,x,ρ',st,e,k⟩:=h
 unfold Dm.eOr at e
 split at e
 ·rename_i ρ1 e1
  cases e
  refine ⟨H0,ρ,_,_,st,e1,fun v H1 Hb t1 r1=>⟨true,Rep.mW r1,?_⟩⟩
  try dsimp only
  rw [if_pos rfl]
  exact k _ H1 Hb t1 (Rep.bl true)
 ·rename_i ρ1 e1
  refine ⟨H0,ρ,_,_,st,e1,fun v H1 Hb t1 r1=>⟨false,Rep.mW r1,?_⟩⟩
  try dsimp only
  rw [if_neg Bool.false_ne_true]
  exact ⟨H1,ρ1,x,ρ',t1.st,e,fun v H2 Hc t2 r2=>k v H2 Hc (t1.trans t2) (r2.early fun a n=>t1.stp.gone n)⟩
 ·cases e
theorem KY {a:Dm.FE} (h:tD (Dm.yK a) σ H Q):Fo (tD a) σ H Q:=by
 obtain ⟨H0,ρ,x,ρ',st,e,k⟩:=h
 unfold Dm.yK at e
 split at e
 ·rename_i c ρ1 e1
  cases e
  exact ⟨H0,ρ,_,_,st,e1,fun v H1 Hb t1 r1=>⟨c,Rep.mW r1,k _ H1 Hb t1 (Rep.bl (!c))⟩⟩
 ·cases e
variable {Qt:Bool→Hp→Prop}
theorem qF {a:Dm.FE} (h:tDT (Dm.tV a) σ H Qt):Fw (tD a) σ H Qt:=by
 obtain ⟨H0,ρ,x,ρ',st,e,k⟩:=h
 unfold Dm.tV at e
 split at e
 ·rename_i c ρ1 e1
  cases e
  exact ⟨H0,ρ,_,_,st,e1,fun v H1 Hb t1 r1=>⟨_,Rep.mW r1,k H1 Hb t1⟩⟩
 ·cases e
theorem HD {t:Dm.FT} (h:tDT (Dm.d8 t) σ H Qt):d8 (tDT t) σ H Qt:=by
 obtain ⟨H0,ρ,x,ρ',st,e,k⟩:=h
 unfold Dm.d8 at e
 split at e
 ·rename_i c ρ1 e1
  cases e
  exact ⟨H0,ρ,_,_,st,e1,fun H1 Hb t1=>k H1 Hb t1⟩
 ·cases e
theorem HE {t u:Dm.FT} (h:tDT (Dm.pC t u) σ H Qt):pC (tDT t) (tDT u) σ H Qt:=by
 obtain ⟨H0,ρ,x,ρ',st,e,k⟩:=h
 unfold Dm.pC at e
 split at e
 ·rename_i ρ1 e1
  refine ⟨H0,ρ,_,ρ1,st,e1,fun H1 Hb t1=>?_⟩
  dsimp only
  rw [if_pos rfl]
  exact ⟨H1,ρ1,x,ρ',t1.st,e,fun H2 Hc t2=>k H2 Hc (t1.trans t2)⟩
 ·rename_i ρ1 e1
  cases e
  refine ⟨H0,ρ,_,_,st,e1,fun H1 Hb t1=>?_⟩
  dsimp only
  rw [if_neg Bool.false_ne_true]
  exact k H1 Hb t1
 ·cases e
theorem KZ {t u:Dm.FT} (h:tDT (Dm.tOr t u) σ H Qt):tOr (tDT t) (tDT u) σ H Qt:=by
 obtain ⟨H0,ρ,x,ρ',st,e,k⟩:=h
 unfold Dm.tOr at e
 split at e
 ·rename_i ρ1 e1
  cases e
  refine ⟨H0,ρ,_,_,st,e1,fun H1 Hb t1=>?_⟩
  dsimp only
  rw [if_pos rfl]
  exact k H1 Hb t1
 ·rename_i ρ1 e1
  refine ⟨H0,ρ,_,ρ1,st,e1,fun H1 Hb t1=>?_⟩
  dsimp only
  rw [if_neg Bool.false_ne_true]
  exact ⟨H1,ρ1,x,ρ',t1.st,e,fun H2 Hc t2=>k H2 Hc (t1.trans t2)⟩
 ·cases e
end
structure SSt (σ:St) (ρ:Dm.Env) (H0 H:Hp) (σ':St) (ρ':Dm.Env) (H0' H':Hp):Prop where
 st:au H0' H' σ' ρ'
 stp:Stp (aj σ ρ) H0 H H0' H'
 own:∀ a,aj σ' ρ' a→aj σ ρ a∨H a=none
 fx:σ'[0]?=σ[0]?
theorem ESt.sst {σ:St} {ρ ρ':Dm.Env} {H0 H H0' H':Hp} (t:ESt σ ρ H0 H ρ' H0' H'):SSt σ ρ H0 H σ ρ' H0' H':=⟨t.st,t.stp,fun a z=>.inl (t.own a z),rfl⟩
theorem SSt.refl {σ:St} {ρ:Dm.Env} {H0 H:Hp} (st:au H0 H σ ρ):SSt σ ρ H0 H σ ρ H0 H:=(ESt.refl st).sst
theorem SSt.trans {σ σ1 σ2:St} {ρ ρ1 ρ2:Dm.Env} {H0 H H1 H' H2 H'':Hp} (t:SSt σ ρ H0 H σ1 ρ1 H1 H') (u:SSt σ1 ρ1 H1 H' σ2 ρ2 H2 H''):SSt σ ρ H0 H σ2 ρ2 H2 H'':=
 ⟨u.st,t.stp.trans u.stp t.own,fun a z=>(u.own a z).elim (t.own a) fun n=>.inr (t.stp.gone n),u.fx.trans t.fx⟩
noncomputable def Ai (σ:St) (ρ:Dm.Env) (H H0' H':Hp) (v:V):Dm.RV→Prop
 | .val d=>Rep H0' v d
 | .new d=>∃ a,v=V.ref a∧(H a=none∨aj σ ρ a)∧H0' a=none∧Own H0' H' a d
noncomputable def mX (D:Ends) (σ:St) (ρ:Dm.Env) (H0 H:Hp):Dm.Out→Prop
 | .nx ρ'=>∀ σ' H0' H',SSt σ ρ H0 H σ' ρ' H0' H'→D.nx σ' H'
 | .bk ρ'=>∀ σ' H0' H',SSt σ ρ H0 H σ' ρ' H0' H'→D.bk σ' H'
 | .ct ρ'=>∀ σ' H0' H',SSt σ ρ H0 H σ' ρ' H0' H'→D.ct σ' H'
 | .ret z ρ'=>∀ σ' v H0' H',SSt σ ρ H0 H σ' ρ' H0' H'→Ai σ ρ H H0' H' v z→(∀ d a,z=.new d→v=.ref a→¬ aj σ' ρ' a)→D.rt v H'
noncomputable def tDS (g:Dm.FS):TS:=fun D σ H=>∃ H0 ρ o,au H0 H σ ρ∧g ρ=some o∧mX D σ ρ H0 H o
theorem mX.pre {D:Ends} {σ σ1:St} {ρ ρ1:Dm.Env} {H0 H H1 H':Hp} {o:Dm.Out} (t:SSt σ ρ H0 H σ1 ρ1 H1 H') (k:mX D σ ρ H0 H o):mX D σ1 ρ1 H1 H' o:=by
 cases o with
 | nx ρ'=>exact fun σ' H0' H' u=>k σ' H0' H' (t.trans u)
 | bk ρ'=>exact fun σ' H0' H' u=>k σ' H0' H' (t.trans u)
 | ct ρ'=>exact fun σ' H0' H' u=>k σ' H0' H' (t.trans u)
 | ret z ρ'=>
  refine fun σ' v H0' H'' u r no=>k σ' v H0' H'' (t.trans u) ?_ no
  cases z with
  | val d=>exact r
  | new d=>
   obtain ⟨a,e,n,n0,w⟩:=r
   refine ⟨a,e,?_,n0,w⟩
   rcases n with n | n
   ·exact .inl (t.stp.gone n)
   ·exact (t.own a n).symm
theorem au.mask {H0 H:Hp} {σ:L2.St} {ρ:Dm.Env} (st:au H0 H σ ρ) (i:Nat):au H0 H σ (ρ.set i .un) where
 same:=st.same
 len:=by rw [List.length_set];exact st.len
 sh:=fun j d h=>by
  by_cases q:i=j
  ·subst q;rw [List.getElem?_set] at h;simp only [if_true] at h;split at h<;>cases h
  ·rw [List.getElem?_set_ne q] at h;exact st.sh j d h
 ow:=fun j d h=>by
  by_cases q:i=j
  ·subst q;rw [List.getElem?_set] at h;simp only [if_true] at h;split at h<;>cases h
  ·rw [List.getElem?_set_ne q] at h;exact st.ow j d h
 dis:=fun j j' d d' a h1 h2 h3 h4=>by
  by_cases q:i=j
  ·subst q;rw [List.getElem?_set] at h1;simp only [if_true] at h1;split at h1<;>cases h1
  ·by_cases q':i=j'
   ·subst q';rw [List.getElem?_set] at h2;simp only [if_true] at h2;split at h2<;>cases h2
   ·rw [List.getElem?_set_ne q] at h1
    rw [List.getElem?_set_ne q'] at h2
    exact st.dis j j' d d' a h1 h2 h3 h4
theorem cN {σ:L2.St} {ρ:Dm.Env} {i:Nat} {a:Addr} (h:aj σ (ρ.set i .un) a):∃ (j:Nat) (d:Dm.Dat),j≠i∧ρ[j]?=some (Dm.Cell.ow d)∧σ[j]?=some (some (V.ref a)):=by
 obtain ⟨j,d,h1,h2⟩:=h
 by_cases q:i=j
 ·subst q;rw [List.getElem?_set] at h1;simp only [if_true] at h1;split at h1<;>cases h1
 ·rw [List.getElem?_set_ne q] at h1;exact ⟨j,d,fun z=>q z.symm,h1,h2⟩
section
variable {D:Ends} {σ:St} {H:Hp}
theorem M7 (h:tDS Dm.sNx D σ H):zD D σ H:=by
 obtain ⟨H0,ρ,o,st,e,k⟩:=h
 cases e
 exact k σ H0 H (.refl st)
theorem K0 {s u:Dm.FS} (h:tDS (Dm.aD s u) D σ H):yl (tDS s) (tDS u) D σ H:=by
 obtain ⟨H0,ρ,o,st,e,k⟩:=h
 unfold Dm.aD at e
 split at e
 ·rename_i ρ1 e1
  exact ⟨H0,ρ,.nx ρ1,st,e1,fun σ' H0' H' t=>⟨H0',ρ1,o,t.st,e,k.pre t⟩⟩
 ·rename_i h1
  cases o with
  | nx ρ1=>exact absurd e (h1 ρ1)
  | bk ρ1=>exact ⟨H0,ρ,_,st,e,k⟩
  | ct ρ1=>exact ⟨H0,ρ,_,st,e,k⟩
  | ret z ρ1=>exact ⟨H0,ρ,_,st,e,k⟩
theorem HF {f:Dm.FE} (h:tDS (Dm.sE f) D σ H):wK (tD f) D σ H:=by
 obtain ⟨H0,ρ,o,st,e,k⟩:=h
 unfold Dm.sE at e
 split at e
 ·cases e
 ·rename_i x ρ1 e1
  cases e
  exact ⟨H0,ρ,x,ρ1,st,e1,fun v H0' H' t r=>k σ H0' H' t.sst⟩
theorem K1 {f:Dm.FE} (h:tDS (Dm.sR f) D σ H):Ks (tD f) D σ H:=by
 obtain ⟨H0,ρ,o,st,e,k⟩:=h
 unfold Dm.sR at e
 split at e
 ·cases e
 ·rename_i d ρ1 e1
  cases e
  refine ⟨H0,ρ,_,ρ1,st,e1,fun v H0' H' t r=>?_⟩
  obtain ⟨a,e,n,no,n0,w⟩:=r
  exact k σ v H0' H' t.sst ⟨a,e,.inl n,n0,w⟩ fun d' a' _ e' z=>by
   rw [e] at e'
   cases e'
   exact no z
 ·rename_i d ρ1 e1
  cases e
  exact ⟨H0,ρ,_,ρ1,st,e1,fun v H0' H' t r=>k σ v H0' H' t.sst r fun d' a' z=>by cases z⟩
 ·rename_i i ρ1 e1
  split at e
  ·rename_i d h1
   cases e
   refine ⟨H0,ρ,_,ρ1,st,e1,fun v H0' H' t r=>?_⟩
   obtain ⟨q,_⟩:=r
   obtain ⟨a,q',n0,w⟩:=t.st.ow i d h1
   rw [q] at q'
   cases q'
   refine k σ _ H0' H' ⟨t.st.mask i,t.stp,fun b z=>?_,rfl⟩ ⟨a,rfl,.inr (t.own a ⟨i,d,h1,q⟩),n0,w⟩ fun d' a' _ e' z=>?_
   ·obtain ⟨j,d2,_,z1,z2⟩:=cN z
    exact .inl (t.own b ⟨j,d2,z1,z2⟩)
   ·cases e'
    obtain ⟨j,d2,hj,z1,z2⟩:=cN z
    exact hj (t.st.dis j i d2 d a z1 h1 z2 q)
  ·rename_i d h1
   cases e
   refine ⟨H0,ρ,_,ρ1,st,e1,fun v H0' H' t r=>?_⟩
   obtain ⟨q,_⟩:=r
   obtain ⟨u,q',w⟩:=t.st.sh i d h1
   rw [q] at q'
   cases q'
   exact k σ _ H0' H' t.sst w fun d' a' z=>by cases z
  ·cases e
theorem K2 {t:Dm.FT} {a b:Dm.FS} (h:tDS (Dm.sIf t a b) D σ H):GW (tDT t) (tDS a) (tDS b) D σ H:=by
 obtain ⟨H0,ρ,o,st,e,k⟩:=h
 unfold Dm.sIf at e
 split at e
 ·cases e
 ·rename_i ρ1 e1
  refine ⟨H0,ρ,true,ρ1,st,e1,fun H1 Hb t1=>?_⟩
  dsimp only
  rw [if_pos rfl]
  exact ⟨H1,ρ1,o,t1.st,e,k.pre t1.sst⟩
 ·rename_i ρ1 e1
  refine ⟨H0,ρ,false,ρ1,st,e1,fun H1 Hb t1=>?_⟩
  dsimp only
  rw [if_neg Bool.false_ne_true]
  exact ⟨H1,ρ1,o,t1.st,e,k.pre t1.sst⟩
end
theorem gb {σ:St} {i j:Nat} {c d:Option V} (h:(σ.set i c)[j]?=some d):(j=i∧d=c)∨(j≠i∧σ[j]?=some d):=by
 by_cases e:j=i
 ·subst e
  by_cases l:j<σ.length
  ·rw [List.getElem?_set_self l] at h
   exact .inl ⟨rfl,(Option.some.inj h).symm⟩
  ·rw [List.getElem?_eq_none (by simpa using Nat.not_lt.mp l)] at h
   cases h
 ·rw [List.getElem?_set_ne (Ne.symm e)] at h
  exact .inr ⟨e,h⟩
theorem au.inσ {H0 H:Hp} {σ:St} {ρ:Dm.Env} {i:Nat} {c d:Dm.Cell} (st:au H0 H σ ρ) (h:(ρ.set i c)[i]?=some d):i<σ.length:=by
 have:=(List.getElem?_eq_some_iff.mp h).1
 rw [List.length_set] at this
 rw [st.len];exact this
theorem dI {σ:St} {ρ:Dm.Env} {i:Nat} {v:V} {d:Dm.Dat} {b:Addr} (h:aj (σ.set i (some v)) (ρ.set i (.sh d)) b):aj σ ρ b:=by
 obtain ⟨j,d',h1,h2⟩:=h
 rcases aQ h1 with ⟨_,z⟩ | ⟨hj,h1⟩
 ·cases z
 ·rcases gb h2 with ⟨z,_⟩ | ⟨_,h2⟩
  ·exact absurd z hj
  ·exact ⟨j,d',h1,h2⟩
theorem au.qG {H0 H:Hp} {σ:St} {ρ:Dm.Env} {i:Nat} {v:V} {d:Dm.Dat} (st:au H0 H σ ρ) (r:Rep H0 v d):au H0 H (σ.set i (some v)) (ρ.set i (.sh d)) where
 same:=st.same
 len:=by rw [List.length_set,List.length_set];exact st.len
 sh:=fun j d' h=>by
  rcases aQ h with ⟨rfl,z⟩ | ⟨hj,h'⟩
  ·cases z
   exact ⟨v,List.getElem?_set_self (st.inσ h),r⟩
  ·obtain ⟨u,q,w⟩:=st.sh j d' h'
   exact ⟨u,by rw [List.getElem?_set_ne (Ne.symm hj)];exact q,w⟩
 ow:=fun j d' h=>by
  rcases aQ h with ⟨_,z⟩ | ⟨hj,h'⟩
  ·cases z
  ·obtain ⟨u,q,w⟩:=st.ow j d' h'
   exact ⟨u,by rw [List.getElem?_set_ne (Ne.symm hj)];exact q,w⟩
 dis:=fun j k d1 d2 b h1 h2 h3 h4=>by
  rcases aQ h1 with ⟨_,z⟩ | ⟨hj,h1⟩
  ·cases z
  rcases aQ h2 with ⟨_,z⟩ | ⟨hk,h2⟩
  ·cases z
  rw [List.getElem?_set_ne (Ne.symm hj)] at h3
  rw [List.getElem?_set_ne (Ne.symm hk)] at h4
  exact st.dis j k d1 d2 b h1 h2 h3 h4
theorem au.Aj {H0 H:Hp} {σ:St} {ρ:Dm.Env} {i:Nat} {a:Addr} {d:Dm.Dat} (st:au H0 H σ ρ) (no:¬ aj σ ρ a) (n0:H0 a=none) (w:Own H0 H a d):au H0 H (σ.set i (some (.ref a))) (ρ.set i (.ow d)) where
 same:=st.same
 len:=by rw [List.length_set,List.length_set];exact st.len
 sh:=fun j d' h=>by
  rcases aQ h with ⟨_,z⟩ | ⟨hj,h'⟩
  ·cases z
  ·obtain ⟨u,q,w⟩:=st.sh j d' h'
   exact ⟨u,by rw [List.getElem?_set_ne (Ne.symm hj)];exact q,w⟩
 ow:=fun j d' h=>by
  rcases aQ h with ⟨rfl,z⟩ | ⟨hj,h'⟩
  ·cases z
   exact ⟨a,List.getElem?_set_self (st.inσ h),n0,w⟩
  ·obtain ⟨u,q,w⟩:=st.ow j d' h'
   exact ⟨u,by rw [List.getElem?_set_ne (Ne.symm hj)];exact q,w⟩
 dis:=fun j k d1 d2 b h1 h2 h3 h4=>by
  rcases aQ h1 with ⟨e1,z1⟩ | ⟨hj,h1'⟩
  ·rcases aQ h2 with ⟨e2,z2⟩ | ⟨hk,h2'⟩
   ·rw [e1,e2]
   ·rcases gb h3 with ⟨_,z⟩ | ⟨z,_⟩
    ·cases z
     rw [List.getElem?_set_ne (Ne.symm hk)] at h4
     exact absurd ⟨k,d2,h2',h4⟩ no
    ·exact absurd e1 z
  ·rcases aQ h2 with ⟨e2,z2⟩ | ⟨hk,h2'⟩
   ·rcases gb h4 with ⟨_,z⟩ | ⟨z,_⟩
    ·cases z
     rw [List.getElem?_set_ne (Ne.symm hj)] at h3
     exact absurd ⟨j,d1,h1',h3⟩ no
    ·exact absurd e2 z
   ·rw [List.getElem?_set_ne (Ne.symm hj)] at h3
    rw [List.getElem?_set_ne (Ne.symm hk)] at h4
    exact st.dis j k d1 d2 b h1' h2' h3 h4
theorem qH {σ:St} {ρ:Dm.Env} {i:Nat} {a b:Addr} {d:Dm.Dat} (h:aj (σ.set i (some (.ref a))) (ρ.set i (.ow d)) b):b=a∨aj σ ρ b:=by
 obtain ⟨j,d',h1,h2⟩:=h
 rcases aQ h1 with ⟨e,_⟩ | ⟨hj,h1⟩
 ·rcases gb h2 with ⟨_,z⟩ | ⟨z,_⟩
  ·cases z;exact .inl rfl
  ·exact absurd e z
 ·rcases gb h2 with ⟨z,_⟩ | ⟨_,h2⟩
  ·exact absurd z hj
  ·exact .inr ⟨j,d',h1,h2⟩
theorem au.write {H0 H:Hp} {σ:St} {ρ:Dm.Env} {i:Nat} {a:Addr} {d d':Dm.Dat} {o:HO} (st:au H0 H σ ρ) (e:ρ[i]?=some (.ow d)) (q:σ[i]?=some (some (V.ref a))) (w':Own H0 (upd H a o) a d') :
  au H0 (upd H a o) σ (ρ.set i (.ow d')):=by
 obtain ⟨a',q',n,w⟩:=st.ow i d e
 rw [q] at q'
 cases q'
 refine ⟨fun b u z=>?_,by rw [List.length_set];exact st.len,fun j d1 h=>?_,fun j d1 h=>?_,fun j k d1 d2 b h1 h2 h3 h4=>?_⟩
 ·rw [ao (aI z n)];exact st.same _ _ z
 ·rcases aQ h with ⟨_,z⟩ | ⟨hj,h'⟩
  ·cases z
  ·exact st.sh j d1 h'
 ·rcases aQ h with ⟨rfl,z⟩ | ⟨hj,h'⟩
  ·cases z
   exact ⟨a,q,n,w'⟩
  ·obtain ⟨b,q1,n1,w1⟩:=st.ow j d1 h'
   have nb:b≠a:=fun y=>hj (st.dis j i d1 d a h' e (y▸q1) q)
   exact ⟨b,q1,n1,w1.mono (ak.refl _) (ao nb)⟩
 ·have f:∀ {j:Nat} {d1:Dm.Dat},(ρ.set i (.ow d'))[j]?=some (.ow d1)→∃ d2,ρ[j]?=some (.ow d2):=fun {j d1} h=>by
   rcases aQ h with ⟨rfl,_⟩ | ⟨_,h'⟩
   ·exact ⟨d,e⟩
   ·exact ⟨d1,h'⟩
  obtain ⟨x1,y1⟩:=f h1
  obtain ⟨x2,y2⟩:=f h2
  exact st.dis j k x1 x2 b y1 y2 h3 h4
theorem c_ {σ:St} {ρ:Dm.Env} {i:Nat} {d d':Dm.Dat} {b:Addr} (e:ρ[i]?=some (.ow d)) (h:aj σ (ρ.set i (.ow d')) b):aj σ ρ b:=by
 obtain ⟨j,d1,h1,h2⟩:=h
 rcases aQ h1 with ⟨rfl,_⟩ | ⟨_,h'⟩
 ·exact ⟨j,d,e,h2⟩
 ·exact ⟨j,d1,h',h2⟩
theorem Stp.write {σ:St} {ρ:Dm.Env} {H0 H:Hp} {a:Addr} {o:HO} (w:aj σ ρ a):Stp (aj σ ρ) H0 H H0 (upd H a o):=
 ⟨ak.refl _,fun b u e n=>by rw [ao (show b≠a from fun z=>n (by rw [z];exact w))];exact e,fun b u e=>.inr (.inl e),fun b u e=>by
  by_cases z:b=a
  ·subst z;exact ⟨o,aq⟩
  ·exact ⟨u,by rw [ao z];exact e⟩⟩
section
variable {D:Ends} {σ:St} {H:Hp}
theorem FF {i:Nat} {f:Dm.FE} (h:tDS (Dm.sA i f) D σ H):uX (tD f) (jH i) D σ H:=by
 obtain ⟨H0,ρ,o,st,e,k⟩:=h
 unfold Dm.sA at e
 split at e
 ·cases e
 rename_i hi0
 split at e
 ·cases e
 ·rename_i d ρ1 e1
  cases e
  refine ⟨H0,ρ,_,ρ1,st,e1,fun v H0' H' t r=>?_⟩
  obtain ⟨a,e,n,no,n0,w⟩:=r
  subst e
  refine k _ H0' H' ⟨t.st.Aj no n0 w,t.stp,fun b z=>?_,List.getElem?_set_ne hi0⟩
  rcases qH z with rfl | z
  ·exact .inr n
  ·exact .inl (t.own b z)
 ·rename_i x ρ1 _ e1
  split at e
  ·cases e
  ·rename_i d ρ2 e2
   cases e
   refine ⟨H0,ρ,_,ρ1,st,e1,fun v H0' H' t r=>?_⟩
   obtain ⟨H1,t1,b1,r1,_,_⟩:=take1 t (ak.refl _) r e2
   exact k _ H1 H' ⟨t1.st.qG r1,t1.stp,fun b z=>.inl (t1.own b (dI z)),List.getElem?_set_ne hi0⟩
theorem wX {ρ:Dm.Env} {i:Nat} {d:Dm.Dat} {j:Nat} (h:Def ρ j):Def (ρ.set i (.sh d)) j:=trivial
noncomputable def eE:List Nat→TGs
 | []=>Kv
 | i::is=>Fp (jH i) (eE is)
theorem qI {H0 H:Hp} {Q:St→Hp→Prop}:∀ {is:List Nat} {xs:List V} {ds:List Dm.Dat} {σ:St} {ρ ρ':Dm.Env},au H0 H σ ρ→aC H0 xs ds→Dm.sets is ds ρ=some ρ' →
  (∀ σ',au H0 H σ' ρ'→(∀ a,aj σ' ρ' a→aj σ ρ a)→(∀ j,j∉is→σ'[j]?=σ[j]?)→(∀ j,Def ρ j→Def ρ' j)→σ'[0]?=σ[0]?→Q σ' H)→eE is xs σ H Q
 | [],_,[],σ,ρ,ρ',st,r,e,k=>by
  cases r
  cases e
  exact ⟨rfl,k σ st (fun _ z=>z) (fun _ _=>rfl) (fun _ z=>z) rfl⟩
 | i::is,_,d::ds,σ,ρ,ρ',st,r,e,k=>by
  cases r with
  | cons h r=>
   unfold Dm.sets at e
   split at e
   ·cases e
   rename_i hi0
   refine ⟨_,_,rfl,?_⟩
   refine qI (st.qG h) r e fun σ' st' o' n' d' f'=>k σ' st' (fun a z=>dI (o' a z)) (fun j hj=>?_) (fun j z=>d' j (wX z)) (f'.trans (List.getElem?_set_ne hi0))
   rw [n' j fun z=>hj (List.mem_cons_of_mem _ z)]
   exact List.getElem?_set_ne fun z=>hj (by rw [z];exact List.mem_cons_self)
 | [],_,_::_,_,_,_,_,_,e,_=>by cases e
 | _::_,_,[],_,_,_,_,_,e,_=>by cases e
theorem mY:∀ {is:List Nat} {ds:List Dm.Dat} {ρ ρ':Dm.Env},Dm.sets is ds ρ=some ρ'→ds.length=is.length
 | [],[],_,_,_=>rfl
 | i::is,_::ds,_,_,e=>by
  unfold Dm.sets at e
  split at e
  ·cases e
  ·simp [mY (is:=is) (ds:=ds) e]
 | [],_::_,_,_,e=>by cases e
 | _::_,[],_,_,e=>by cases e
noncomputable def BD (is:List Nat) (g:TG) (bd:Dm.FB):Prop:=∀ (H0 H:Hp) (σ:St) (ρ ρ':Dm.Env) (x:V) (d:Dm.Dat) (Q:St→Hp→Prop),au H0 H σ ρ→Rep H0 x d→bd d ρ=some ρ' →
 (∀ σ',au H0 H σ' ρ'→(∀ a,aj σ' ρ' a→aj σ ρ a)→(∀ j,j∉is→σ'[j]?=σ[j]?)→(∀ j,Def ρ j→Def ρ' j)→σ'[0]?=σ[0]?→Q σ' H)→g x σ H Q
theorem wY (i:Nat):BD [i] (jH i) (Dm.bN i):=by
 intro H0 H σ ρ ρ' x d Q st r e k
 unfold Dm.bN at e
 split at e
 ·cases e
 rename_i hi0
 cases e
 refine k _ (st.qG r) (fun a z=>dI z) (fun j hj=>?_) (fun j h=>wX h) (List.getElem?_set_ne hi0)
 exact List.getElem?_set_ne (fun z=>hj (by rw [z];exact List.mem_singleton.mpr rfl))
theorem Ak {K:PySem.W.Frag} {is:List Nat} {n:Nat} {f:Dm.FE} (hn:is.length=n) (h:tDS (Dm.sU is f) D σ H):uX (tD f) (GZ K n (eE is)) D σ H:=by
 obtain ⟨H0,ρ,o,st,e,k⟩:=h
 unfold Dm.sU at e
 split at e
 ·cases e
 ·rename_i x ρ1 e1
  split at e
  ·rename_i ds ρ2 e2
   split at e
   ·cases e
   ·rename_i ρ3 e3
    cases e
    refine ⟨H0,ρ,_,ρ1,st,e1,fun v H0' H' t r=>?_⟩
    obtain ⟨H1,t1,b1,r1,_,_⟩:=take1 t (ak.refl _) r e2
    cases r1 with
    | tup q rs=>
     refine ⟨_,_,rfl,SqT.of (t1.st.same _ _ q),by rw [rs.length,mY e3,hn],?_⟩
     exact qI t1.st rs e3 fun σ' st' o' _ _ f'=>k σ' H1 H' ⟨st',t1.stp,fun a z=>.inl (t1.own a (o' a z)),f'⟩
  ·cases e
theorem Al {K:PySem.W.Frag} (is:List Nat) {n:Nat} (hn:is.length=n):BD is (GZ K n (eE is)) (Dm.bT is):=by
 intro H0 H σ ρ ρ' x d Q st r e k
 unfold Dm.bT at e
 split at e
 ·cases r with
  | tup q rs=>exact ⟨_,_,rfl,SqT.of (st.same _ _ q),by rw [rs.length,mY e,hn],qI st rs e k⟩
 ·cases e
theorem K3 {K:PySem.W.Frag} {i:Nat} {f:Dm.FE} (h:tDS (Dm.qE i f) D σ H):wK (tBM K "list" qC (rZ i) (tDA [f])) D σ H:=by
 obtain ⟨H0,ρ,o,st,e,k⟩:=h
 unfold Dm.qE at e
 split at e
 ·rename_i ds0 h0
  obtain ⟨a0,q0,n0,w0⟩:=st.ow i _ h0
  refine ⟨_,q0,?_⟩
  split at e
  ·cases e
  rename_i x ρ1 e1
  split at e
  ·cases e
  rename_i d ρ2 e2
  split at e
  ·rename_i ds h2
   split at e
   ·rename_i hz
    cases e
    obtain ⟨xs0,y0,_⟩:=w0
    refine ⟨.inl ⟨rfl,xs0,.inl (.inl y0)⟩,?_⟩
    refine ⟨H0,ρ,[x],ρ1,st,by unfold Dm.eAs;rw [e1];rfl,fun vs H0' H' t r=>?_⟩
    cases r with
    | cons r rr=>
     cases rr
     obtain ⟨H1,t1,b1,r1,_,_⟩:=take1 t (ak.refl _) r e2
     obtain ⟨a,q,n,w⟩:=t1.st.ow i _ h2
     rw [q0] at q
     cases q
     obtain ⟨xs,y,rs⟩:=w
     refine ⟨a0,xs,_,rfl,rfl,y,by rw [rs.length];exact Nat.lt_of_lt_of_le hz (by decide),?_⟩
     have ow:aj σ ρ2 a0:=⟨i,_,h2,q0⟩
     refine k σ H1 _ ⟨t1.st.write h2 q0 ⟨_,aq,rs.append (.cons r1 .nil)⟩,t1.stp.trans (Stp.write ow) fun b z=>.inl (t1.own b z),fun b z=>.inl (t1.own b (c_ h2 z)),rfl⟩
   ·cases e
  ·cases e
 ·cases e
theorem HG (n:Nat) (i:Int):Dm.ixN n i=L2.ixN n i:=rfl
theorem K4 {i:Nat} {j f:Dm.FE} (h:tDS (Dm.u_ i j f) D σ H):uX (tD f) (fR (rZ i) (tD j) Fy) D σ H:=by
 obtain ⟨H0,ρ,o,st,e,k⟩:=h
 unfold Dm.u_ at e
 split at e
 ·cases e
 rename_i x ρ1 e1
 split at e
 ·cases e
 rename_i d ρ2 e2
 split at e
 case h_2=>cases e
 rename_i d0 h2
 split at e
 ·rename_i m ρ3 e3
  split at e
  ·rename_i ds h3
   split at e
   ·cases e
   ·rename_i p e4
    cases e
    refine ⟨H0,ρ,_,ρ1,st,e1,fun v H0' H' t r=>?_⟩
    obtain ⟨H1,t1,b1,r1,_,_⟩:=take1 t (ak.refl _) r e2
    obtain ⟨a0,q0,_,_⟩:=t1.st.ow i _ h2
    refine ⟨_,q0,H1,ρ2,_,ρ3,t1.st,e3,fun u H2 Hc t2 r2=>?_⟩
    obtain ⟨a,q,n,w⟩:=t2.st.ow i _ h3
    rw [q0] at q
    cases q
    obtain ⟨xs,y,rs⟩:=w
    refine ⟨a0,xs,m,p,rfl,Rep.isInt r2,y,by rw [rs.length];exact e4,?_⟩
    have ow:aj σ ρ3 a0:=⟨i,_,h3,q0⟩
    have tt:=t1.trans t2
    refine k σ H2 _ ⟨t2.st.write h3 q0 ⟨_,aq,rs.set (r1.mono t2.stp.s0) p⟩,tt.stp.trans (Stp.write ow) fun b z=>.inl (tt.own b z),fun b z=>.inl (tt.own b (c_ h3 z)),rfl⟩
  ·cases e
 ·cases e
theorem DH {t:Dm.FT} {body:Dm.FS} {n:Nat} (h:tDS (Dm.whD t body n) D σ H):zK (tDT t) (tDS body) D σ H:=by
 refine ⟨fun m σ H=>tDS (Dm.whD t body m) D σ H,⟨n,h⟩,?_⟩
 rintro m σ H ⟨H0,ρ,o,st,e,k⟩
 cases m with
 | zero=>unfold Dm.whD at e;cases e
 | succ m=>
  unfold Dm.whD at e
  split at e
  ·cases e
  ·rename_i ρ1 e1
   cases e
   refine ⟨H0,ρ,false,ρ1,st,e1,fun H1 Hb t1=>?_⟩
   dsimp only
   rw [if_neg Bool.false_ne_true]
   exact k σ H1 Hb t1.sst
  ·rename_i ρ1 e1
   refine ⟨H0,ρ,true,ρ1,st,e1,fun H1 Hb t1=>?_⟩
   dsimp only
   rw [if_pos rfl]
   refine ⟨fun σ' H'=>tDS (Dm.whD t body m) D σ' H',fun σ' H' q=>⟨m,Nat.lt_succ_self m,q⟩,?_⟩
   have k1:=k.pre t1.sst
   split at e
   ·rename_i ρ2 e2
    exact ⟨H1,ρ1,_,t1.st,e2,fun σ' H0' H' t2=>⟨H0',ρ2,o,t2.st,e,k1.pre t2⟩⟩
   ·rename_i ρ2 e2
    exact ⟨H1,ρ1,_,t1.st,e2,fun σ' H0' H' t2=>⟨H0',ρ2,o,t2.st,e,k1.pre t2⟩⟩
   ·rename_i ρ2 e2
    cases e
    exact ⟨H1,ρ1,_,t1.st,e2,k1⟩
   ·rename_i v ρ2 e2
    cases e
    exact ⟨H1,ρ1,_,t1.st,e2,k1⟩
   ·cases e
noncomputable def JW (J:It) (H00:Hp) (ys:List Dm.Dat):Prop:=∀ H0 H,ak H00 H0→ak H0 H→(∀ i,ys.length≤i→J.stop i H) ∧
 ∀ (i:Nat) (d:Dm.Dat),ys[i]?=some d→J.go i H∧∀ x H',J.yld i H x H'→∃ H0',aK H0 H H0' H'∧Rep H0' x d
noncomputable def tDI (fi:Dm.FI):TI:=fun σ H R=>∃ H0 ρ ys ρ',au H0 H σ ρ∧fi ρ=some (ys,ρ')∧∀ J H0' H',ESt σ ρ H0 H ρ' H0' H'→JW J H0' ys→R J H'
theorem K5 {fi:Dm.FI} {bd:Dm.FB} {g:TG} {body:Dm.FS} {is:List Nat} (hb:BD is g bd) (h:tDS (Dm.g8 fi bd body) D σ H):G3 (tDI fi) g (tDS body) D σ H:=by
 obtain ⟨H0,ρ,o,st,e,k⟩:=h
 unfold Dm.g8 at e
 split at e
 ·cases e
 rename_i ys ρ1 e1
 refine ⟨H0,ρ,ys,ρ1,st,e1,fun J H00 Hb t1 jw=>?_⟩
 refine ⟨fun i m σ H=>∃ H0 ρ o,au H0 H σ ρ∧ak H00 H0∧m=ys.length-i∧i≤ys.length∧Dm.kG bd body (ys.drop i) ρ=some o∧mX D σ ρ H0 H o,
  ⟨ys.length,H00,ρ1,o,t1.st,ak.refl _,by simp,Nat.zero_le _,by simpa using e,k.pre t1.sst⟩,?_⟩
 rintro i m σ H ⟨H0,ρ,o,st,s00,rfl,hi,e,k⟩
 obtain ⟨js,jg⟩:=jw H0 H s00 st.same
 by_cases hlt:i<ys.length
 ·have hd:ys[i]?=some ys[i]:=by simp [hlt]
  obtain ⟨g1,g2⟩:=jg i ys[i] hd
  rw [List.drop_eq_getElem_cons hlt] at e
  unfold Dm.kG at e
  refine .inr ⟨g1,fun σ' H'=>∃ H0 ρ o,au H0 H' σ' ρ∧ak H00 H0∧Dm.kG bd body (ys.drop (i+1)) ρ=some o∧mX D σ' ρ H0 H' o,?_,fun x H' y=>?_⟩
  ·rintro σ' H' ⟨H0',ρ',o',h1,h2,h3,h4⟩
   exact ⟨ys.length-(i+1),by omega,H0',ρ',o',h1,h2,rfl,hlt,h3,h4⟩
  ·obtain ⟨H0',gr,rx⟩:=g2 x H' y
   split at e
   ·cases e
   ·rename_i ρ2 e2
    have t2:=ESt.grow st gr
    refine hb H0' H' σ ρ ρ2 x ys[i] _ t2.st rx e2 fun σ2 st2 o2 _ _ f2=>?_
    have t3:SSt σ ρ H0 H σ2 ρ2 H0' H':=⟨st2,t2.stp,fun a z=>.inl (o2 a z),f2⟩
    have k3:=k.pre t3
    have s3:ak H00 H0':=s00.trans gr.s0
    split at e
    ·rename_i ρ3 e3
     exact ⟨H0',ρ2,_,st2,e3,fun σ4 H4 Hd t4=>⟨H4,ρ3,o,t4.st,s3.trans t4.stp.s0,e,k3.pre t4⟩⟩
    ·rename_i ρ3 e3
     exact ⟨H0',ρ2,_,st2,e3,fun σ4 H4 Hd t4=>⟨H4,ρ3,o,t4.st,s3.trans t4.stp.s0,e,k3.pre t4⟩⟩
    ·rename_i ρ3 e3
     cases e
     exact ⟨H0',ρ2,_,st2,e3,k3⟩
    ·rename_i v ρ3 e3
     cases e
     exact ⟨H0',ρ2,_,st2,e3,k3⟩
    ·cases e
 ·have e':i=ys.length:=by omega
  subst e'
  rw [List.drop_length] at e
  cases e
  exact .inl ⟨js _ (Nat.le_refl _),k σ H0 H (.refl st)⟩
theorem DJ {K:PySem.W.Frag} {H0:Hp} {a:Addr} {xs:List V} {ds:List Dm.Dat} (hq:Rd H0 a (.lst xs)) (rs:aC H0 xs ds):JW (Itl K a) H0 ds:=by
 intro H0' H s0 s1
 have q:SqL K H a xs:=.inl (ak.rd s1 (ak.rd s0 hq))
 refine ⟨fun i hi=>⟨xs,q,by rw [rs.length];exact hi⟩,fun i d e=>?_⟩
 obtain ⟨v,hv,rv⟩:=rs.get e
 refine ⟨⟨xs,v,q,hv⟩,fun x H' y=>?_⟩
 obtain ⟨e1,y⟩:=y
 subst e1
 have z:=y xs q
 rw [hv] at z
 cases z
 exact ⟨H0',aK.refl s1,rv.mono s0⟩
theorem HH {K:PySem.W.Frag} {H0:Hp} {a:Addr} {xs:List V} {ds:List Dm.Dat} (hq:H0 a=some (.tup xs)) (rs:aC H0 xs ds):JW (Itt K a) H0 ds:=by
 intro H0' H s0 s1
 have q:SqT K H a xs:=.inl (.inl (s1 _ _ (s0 _ _ hq)))
 refine ⟨fun i hi=>⟨xs,q,by rw [rs.length];exact hi⟩,fun i d e=>?_⟩
 obtain ⟨v,hv,rv⟩:=rs.get e
 refine ⟨⟨xs,v,q,hv⟩,fun x H' y=>?_⟩
 obtain ⟨e1,y⟩:=y
 subst e1
 have z:=y xs q
 rw [hv] at z
 cases z
 exact ⟨H0',aK.refl s1,rv.mono s0⟩
theorem sD {H0:Hp} {lo:Int} {n:Nat}:JW (Itr lo n) H0 (Dm.ups lo n):=by
 intro H0' H s0 s1
 have el:(Dm.ups lo n).length=n:=by simp [Dm.ups]
 refine ⟨fun i hi=>by rw [el] at hi;exact hi,fun i d e=>?_⟩
 have hi:i<n:=by have:=(List.getElem?_eq_some_iff.mp e).1;rw [el] at this;exact this
 have hd:d=.int (lo+i):=by
  unfold Dm.ups at e
  rw [List.getElem?_map,List.getElem?_range hi] at e
  exact (Option.some.inj e).symm
 refine ⟨hi,fun x H' y=>?_⟩
 obtain ⟨rfl,rfl⟩:=y
 subst hd
 exact ⟨H0',aK.refl s1,.int _⟩
variable {R:It→Hp→Prop}
theorem M8 {K:PySem.W.Frag} {f:Dm.FE} (h:tDI (Dm.iL f) σ H R):r8 K (tD f) σ H R:=by
 obtain ⟨H0,ρ,ys,ρ',st,e,k⟩:=h
 unfold Dm.iL at e
 split at e
 ·cases e
 rename_i x ρ1 e1
 split at e
 ·rename_i ds ρ2 e2
  cases e
  refine ⟨H0,ρ,_,ρ1,st,e1,fun v H0' H' t r=>?_⟩
  obtain ⟨H1,t1,b1,r1,_,_⟩:=take1 t (ak.refl _) r e2
  cases r1 with
  | lst q rs=>exact ⟨_,rfl,⟨_,.inl (ak.rd t1.st.same q)⟩,k _ H1 H' t1 (DJ q rs)⟩
 ·cases e
theorem M9 {K:PySem.W.Frag} {f:Dm.FE} (h:tDI (Dm.iT f) σ H R):zM K (tD f) σ H R:=by
 obtain ⟨H0,ρ,ys,ρ',st,e,k⟩:=h
 unfold Dm.iT at e
 split at e
 ·cases e
 rename_i x ρ1 e1
 split at e
 ·rename_i ds ρ2 e2
  cases e
  refine ⟨H0,ρ,_,ρ1,st,e1,fun v H0' H' t r=>?_⟩
  obtain ⟨H1,t1,b1,r1,_,_⟩:=take1 t (ak.refl _) r e2
  cases r1 with
  | tup q rs=>exact ⟨_,rfl,⟨_,.inl (.inl (t1.st.same _ _ q))⟩,k _ H1 H' t1 (HH q rs)⟩
 ·cases e
theorem K6 {f:Dm.FE} (h:tDI (Dm.iR1 f) σ H R):Fq (tDA [f]) σ H R:=by
 obtain ⟨H0,ρ,ys,ρ',st,e,k⟩:=h
 unfold Dm.iR1 at e
 split at e
 ·rename_i j ρ1 e1
  split at e
  ·rename_i hb
   cases e
   refine ⟨H0,ρ,[.val (.int j)],_,st,by unfold Dm.eAs;rw [e1];rfl,fun vs H0' H' t r=>?_⟩
   cases r with
   | cons r rr=>
    cases rr
    cases Rep.isInt r
    have h1:=hb.1
    have h2:=hb.2
    unfold Dm.BIG at h1 h2
    exact ⟨j,rfl,by omega,by omega,k _ H0' H' t sD⟩
  ·cases e
 ·cases e
theorem K7 {f g:Dm.FE} (h:tDI (Dm.iR2 f g) σ H R):Ft (tDA [f,g]) σ H R:=by
 obtain ⟨H0,ρ,ys,ρ',st,e,k⟩:=h
 unfold Dm.iR2 at e
 split at e
 ·rename_i i ρ1 e1
  split at e
  ·rename_i j ρ2 e2
   split at e
   ·rename_i hb
    cases e
    refine ⟨H0,ρ,[.val (.int i),.val (.int j)],_,st,by unfold Dm.eAs;rw [e1];dsimp only;unfold Dm.eAs;rw [e2];rfl,fun vs H0' H' t r=>?_⟩
    cases r with
    | cons r rr=>
     cases rr with
     | cons r' rr=>
      cases rr
      cases Rep.isInt r
      cases Rep.isInt r'
      obtain ⟨h1,h2,h3,h4⟩:=hb
      unfold Dm.BIG at h1 h2 h3 h4
      exact ⟨i,j,rfl,⟨by omega,by omega,by omega,by omega⟩,k _ H0' H' t sD⟩
   ·cases e
  ·cases e
 ·cases e
noncomputable def tLC (wi:TI) (own:Nat) (g:TG) (tt:TT) (te:TE):TE:=fun σ H Q=>wi σ H fun J H1=>∀ D,H1 D=none→∃ W:Nat→Nat→St→Hp→Prop,
 (∃ m,W 0 m (σ++List.replicate own none) (upd H1 D (.lst [])))∧∀ i m σ' H',W i m σ' H' →
  (J.stop i H'∧Q (.ref D) H')∨(J.go i H'∧∀ x H2,J.yld i H' x H2→g x σ' H2 fun σ2 H3=>tt σ2 H3 fun b H4=>if b=true
   then te σ2 H4 fun y H5=>∃ acc,H5 D=some (.lst acc)∧acc.length<sizeLine∧∃ m',m'<m∧W (i+1) m' σ2 (upd H5 D (.lst (acc++[y])))
   else ∃ m',m'<m∧W (i+1) m' σ2 H4)
theorem au.aside {H0 H:Hp} {σ:St} {ρ:Dm.Env} {a:Addr} {o:HO} (st:au H0 H σ ρ) (n0:H0 a=none) (no:¬ aj σ ρ a):au H0 (upd H a o) σ ρ where
 same:=fun b u z=>by rw [ao (aI z n0)];exact st.same _ _ z
 len:=st.len
 sh:=st.sh
 ow:=fun j d h=>by
  obtain ⟨b,q,n,w⟩:=st.ow j d h
  have nb:b≠a:=fun y=>no ⟨j,d,h,y▸q⟩
  exact ⟨b,q,n,w.mono (ak.refl _) (ao nb)⟩
 dis:=st.dis
theorem au.cC {H0 H:Hp} {σ:St} {ρ:Dm.Env} {a:Addr} (st:au H0 H σ ρ) (h:H a=none):¬ aj σ ρ a:=fun ⟨i,d,h1,h2⟩=>by
 obtain ⟨b,q,n,w⟩:=st.ow i d h1
 rw [h2] at q
 cases q
 obtain ⟨o,z⟩:=w.some
 rw [h] at z;cases z
theorem jR {α:Type} {l:List α} {r:List α} {i:Nat} {x:α} (h:(l++r)[i]?=some x) (n:x∉r):i<l.length∧l[i]?=some x:=by
 by_cases hi:i<l.length
 ·rw [List.getElem?_append_left hi] at h
  exact ⟨hi,h⟩
 ·rw [List.getElem?_append_right (Nat.not_lt.mp hi)] at h
  exact absurd (List.mem_of_getElem? h) n
theorem Am {d:Dm.Dat} {k:Nat}:Dm.Cell.sh d∉List.replicate k Dm.Cell.un:=fun h=>by
 have:=List.eq_of_mem_replicate h
 cases this
theorem jS {d:Dm.Dat} {k:Nat}:Dm.Cell.ow d∉List.replicate k Dm.Cell.un:=fun h=>by
 have:=List.eq_of_mem_replicate h
 cases this
theorem au.ext {H0 H:Hp} {σ:St} {ρ:Dm.Env} (st:au H0 H σ ρ) (k:Nat):au H0 H (σ++List.replicate k none) (ρ++List.replicate k .un) where
 same:=st.same
 len:=by simp [st.len]
 sh:=fun i d h=>by
  obtain ⟨hi,h⟩:=jR h Am
  obtain ⟨v,q,r⟩:=st.sh i d h
  exact ⟨v,by rw [List.getElem?_append_left (by rw [st.len];exact hi)];exact q,r⟩
 ow:=fun i d h=>by
  obtain ⟨hi,h⟩:=jR h jS
  obtain ⟨v,q,r⟩:=st.ow i d h
  exact ⟨v,by rw [List.getElem?_append_left (by rw [st.len];exact hi)];exact q,r⟩
 dis:=fun i j d e a h1 h2 h3 h4=>by
  obtain ⟨hi,h1⟩:=jR h1 jS
  obtain ⟨hj,h2⟩:=jR h2 jS
  rw [List.getElem?_append_left (by rw [st.len];exact hi)] at h3
  rw [List.getElem?_append_left (by rw [st.len];exact hj)] at h4
  exact st.dis i j d e a h1 h2 h3 h4
theorem kK {H0 H:Hp} {σ:St} {ρ:Dm.Env} (st:au H0 H σ ρ) {k:Nat} {a:Addr} (h:aj (σ++List.replicate k none) (ρ++List.replicate k .un) a):aj σ ρ a:=by
 obtain ⟨i,d,h1,h2⟩:=h
 obtain ⟨hi,h1⟩:=jR h1 jS
 rw [List.getElem?_append_left (by rw [st.len];exact hi)] at h2
 exact ⟨i,d,h1,h2⟩
theorem Stp.aside {O:Addr→Prop} {H0 H H0' H':Hp} {D:Addr} {o:HO} (t:Stp O H0 H H0' H') (hD:H D=none):Stp O H0 H H0' (upd H' D o):=
 ⟨t.s0,fun a u e n=>by rw [ao (aI e hD)];exact t.s1 a u e n,t.s2,fun a u e=>by rw [ao (aI e hD)];exact t.s3 a u e⟩
theorem ESt.dW {σ:St} {ρ ρ':Dm.Env} {H0 H H0' H':Hp} (t:ESt σ ρ H0 H ρ' H0' H') {D:Addr} {o:HO} (h:H D=some o) (n0:H0 D=none) (no:¬ aj σ ρ D):H' D=some o∧H0' D=none∧¬ aj σ ρ' D:=by
 refine ⟨t.stp.s1 D o h no,?_,fun z=>no (t.own D z)⟩
 cases q:H0' D with
 | none=>rfl
 | some u=>
  rcases t.stp.s2 D u q with z | z | z
  ·rw [h] at z;cases z
  ·rw [n0] at z;cases z
  ·exact absurd z no
noncomputable def JWa (J:It) (H00:Hp) (pa:Option (Addr×HO)) (ys:List Dm.Dat):Prop:=∀ H0 H,ak H00 H0→ak H0 H→(∀ q,pa=some q→H q.1=some q.2)→(∀ i,ys.length≤i→J.stop i H) ∧
 ∀ (i:Nat) (d:Dm.Dat),ys[i]?=some d→J.go i H∧∀ x H',J.yld i H x H'→∃ H0',aK H0 H H0' H'∧Rep H0' x d
theorem sF {σ:St} {own:Nat} {bd:Dm.FB} {g:TG} {t:Dm.FT} {el:Dm.FE} {is:List Nat} {Q:VK} {H00 Hb:Hp} {ρ1 ρ2:Dm.Env} {ds ys:List Dm.Dat} {J:It} {pa:Option (Addr×HO)} (hb:BD is g bd) (hl:∀ i∈is,σ.length≤i)
  (st1:au H00 Hb σ ρ1) (hp:∀ q,pa=some q→Hb q.1=some q.2∧H00 q.1=none∧¬ aj σ ρ1 q.1) (jw:JWa J H00 pa ds) (hsz:ds.length≤Dm.SZ) (e2:Dm.d9 bd t el ds (ρ1++List.replicate own .un) []=some (ys,ρ2))
  (k:∀ v H0' H',ESt σ ρ1 H00 Hb (ρ2.take ρ1.length) H0' H'→f_ Hb H0' H' σ (ρ2.take ρ1.length) v (.new (.lst ys))→(∀ q,pa=some q→H' q.1=some q.2∧H0' q.1=none)→Q v H') (D:Addr) (hD:Hb D=none) :
  ∃ W:Nat→Nat→St→Hp→Prop,(∃ m,W 0 m (σ++List.replicate own none) (upd Hb D (.lst [])))∧∀ i m σ' H',W i m σ' H' →
  (J.stop i H'∧Q (.ref D) H')∨(J.go i H'∧∀ x H2,J.yld i H' x H2→g x σ' H2 fun σ2 H3=>tDT t σ2 H3 fun b H4=>if b=true
   then tD el σ2 H4 fun y H5=>∃ acc,H5 D=some (.lst acc)∧acc.length<sizeLine∧∃ m',m'<m∧W (i+1) m' σ2 (upd H5 D (.lst (acc++[y])))
   else ∃ m',m'<m∧W (i+1) m' σ2 H4):=by
 have hpD:∀ q,pa=some q→q.1≠D:=fun q e z=>by have:=(hp q e).1;rw [z,hD] at this;cases this
 have noD:¬ aj σ ρ1 D:=st1.cC hD
 refine ⟨fun i m σ' H'=>∃ (H0c:Hp) (ρc:Dm.Env) (yO:List Dm.Dat) (vf:List V),au H0c H' σ' ρc∧ak H00 H0c∧m=ds.length-i∧i≤ds.length∧Dm.d9 bd t el (ds.drop i) ρc yO=some (ys,ρ2) ∧
  H' D=some (.lst vf)∧aC H0c vf yO∧H0c D=none∧yO.length≤i∧Stp (aj σ ρ1) H00 Hb H0c H'∧(∀ j,j<σ.length→σ'[j]?=σ[j]?)∧(∀ a,aj σ' ρc a→aj σ ρ1 a)∧(∀ j,Def ρ1 j→Def ρc j)∧(∀ q,pa=some q→H' q.1=some q.2∧H0c q.1=none∧¬ aj σ' ρc q.1),
  ⟨ds.length,H00,ρ1++List.replicate own .un,[],[],(st1.aside (st1.same.free hD) noD).ext own,ak.refl _,by simp,Nat.zero_le _,by simpa using e2,aq,.nil,st1.same.free hD,Nat.zero_le _,(Stp.refl _ _ _).aside hD,
   fun j hj=>List.getElem?_append_left hj,fun a z=>kK st1 z,fun j z=>trivial,fun q e=>⟨by rw [ao (hpD q e)];exact (hp q e).1,(hp q e).2.1,fun z=>(hp q e).2.2 (kK st1 z)⟩⟩,?_⟩
 rintro i m σ' H' ⟨H0c,ρc,yO,vf,sc,s00,rfl,hi,ec,hDl,ra,n0,hal,sp,hσ,ho,hdf,hpc⟩
 have nOc:¬ aj σ' ρc D:=fun z=>noD (ho D z)
 obtain ⟨js,jg⟩:=jw H0c H' s00 sc.same fun q e=>(hpc q e).1
 by_cases hlt:i<ds.length
 ·have hd:ds[i]?=some ds[i]:=by simp [hlt]
  obtain ⟨g1,g2⟩:=jg i ds[i] hd
  rw [List.drop_eq_getElem_cons hlt] at ec
  unfold Dm.d9 at ec
  refine .inr ⟨g1,fun y H2 yy=>?_⟩
  obtain ⟨H0',gr,rx⟩:=g2 y H2 yy
  split at ec
  ·cases ec
  rename_i ρ3 e3
  have t2:=ESt.grow sc gr
  obtain ⟨hD2,n02,no2⟩:=t2.dW hDl n0 nOc
  have hp2:=fun q e=>t2.dW (hpc q e).1 (hpc q e).2.1 (hpc q e).2.2
  refine hb H0' H2 σ' ρc ρ3 y ds[i] _ t2.st rx e3 fun σ3 st3 o3 k3 d3 _=>?_
  have no3:¬ aj σ3 ρ3 D:=fun z=>no2 (o3 D z)
  have po3:∀ q,pa=some q→¬ aj σ3 ρ3 q.1:=fun q e z=>(hp2 q e).2.2 (o3 q.1 z)
  have hσ3:∀ j,j<σ.length→σ3[j]?=σ[j]?:=fun j hj=>(k3 j fun z=>Nat.not_lt.mpr (hl j z) hj).trans (hσ j hj)
  have ho3:∀ a,aj σ3 ρ3 a→aj σ ρ1 a:=fun a z=>ho a (o3 a z)
  have K8:∀ j,Def ρ1 j→Def ρ3 j:=fun j z=>d3 j (hdf j z)
  have sp3:Stp (aj σ ρ1) H00 Hb H0' H2:=sp.trans t2.stp fun a z=>.inl (ho a z)
  have ra3:=ra.mono gr.s0
  have s3:ak H00 H0':=s00.trans gr.s0
  split at ec
  ·cases ec
  ·rename_i ρ4 e4
   refine ⟨H0',ρ3,false,ρ4,st3,e4,fun qJ H'' t4=>?_⟩
   dsimp only
   rw [if_neg Bool.false_ne_true]
   obtain ⟨hD4,n04,no4⟩:=t4.dW hD2 n02 no3
   have hp4:=fun q e=>t4.dW (hp2 q e).1 (hp2 q e).2.1 (po3 q e)
   exact ⟨ds.length-(i+1),by omega,qJ,ρ4,yO,vf,t4.st,s3.trans t4.stp.s0,rfl,hlt,ec,hD4,ra3.mono t4.stp.s0,n04,Nat.le_succ_of_le hal,sp3.trans t4.stp fun a z=>.inl (ho3 a z),hσ3,fun a z=>ho3 a (t4.own a z),fun j z=>t4.dfn j (K8 j z),hp4⟩
  ·rename_i ρ4 e4
   refine ⟨H0',ρ3,true,ρ4,st3,e4,fun qJ H'' t4=>?_⟩
   dsimp only
   rw [if_pos rfl]
   obtain ⟨hD4,n04,no4⟩:=t4.dW hD2 n02 no3
   have hp4:=fun q e=>t4.dW (hp2 q e).1 (hp2 q e).2.1 (po3 q e)
   split at ec
   ·cases ec
   rename_i x5 ρ5 e5
   split at ec
   ·cases ec
   rename_i y6 ρ6 e6
   refine ⟨qJ,ρ4,x5,ρ5,t4.st,e5,fun v H5 Hc t5 r5=>?_⟩
   obtain ⟨H6,t6,b6,r6,_,_⟩:=take1 t5 (ak.refl _) r5 e6
   obtain ⟨hD6,n06,no6⟩:=t6.dW hD4 n04 no4
   have hp6:=fun q e=>t6.dW (hp4 q e).1 (hp4 q e).2.1 (hp4 q e).2.2
   refine ⟨vf,hD6,?_,ds.length-(i+1),by omega,H6,ρ6,yO++[y6],vf++[v],t6.st.aside n06 no6,(s3.trans t4.stp.s0).trans t6.stp.s0,rfl,hlt,ec,aq,?_,n06,?_,?_,hσ3,fun a z=>ho3 a (t4.own a (t6.own a z)),fun j z=>t6.dfn j (t4.dfn j (K8 j z)),fun q e=>⟨by rw [ao (hpD q e)];exact (hp6 q e).1,(hp6 q e).2.1,(hp6 q e).2.2⟩⟩
   ·rw [ra.length]
    unfold Dm.SZ at hsz
    exact Nat.lt_of_le_of_lt (Nat.le_trans hal (Nat.le_trans (Nat.le_of_lt hlt) hsz)) (by decide)
   ·exact ((ra3.mono t4.stp.s0).mono t6.stp.s0).append (.cons r6 .nil)
   ·rw [List.length_append,List.length_singleton];omega
   ·exact ((sp3.trans t4.stp fun a z=>.inl (ho3 a z)).trans t6.stp fun a z=>.inl (ho3 a (t4.own a z))).aside hD
 ·have e':i=ds.length:=by omega
  subst e'
  rw [List.drop_length] at ec
  cases ec
  refine .inl ⟨js _ (Nat.le_refl _),k _ H0c H' ?_ ?_ fun q e=>⟨(hpc q e).1,(hpc q e).2.1⟩⟩
  ·have hlen:σ.length≤ρ2.length:=by
    rw [← sc.len]
    refine Nat.not_lt.mp fun z=>?_
    have q:=hσ σ'.length z
    rw [List.getElem?_eq_none (Nat.le_refl _),List.getElem?_eq_getElem z] at q
    cases q
   have tk:∀ {j:Nat} {c:Dm.Cell},(ρ2.take ρ1.length)[j]?=some c→j<σ.length∧ρ2[j]?=some c:=fun {j c} h=>by
    have hj:j<ρ1.length:=by
     have:=(List.getElem?_eq_some_iff.mp h).1
     rw [List.length_take] at this
     omega
    rw [List.getElem?_take_of_lt hj] at h
    exact ⟨by rw [st1.len];exact hj,h⟩
   have own':∀ a,aj σ (ρ2.take ρ1.length) a→aj σ' ρ2 a:=fun a ⟨j,d,h1,h2⟩=>by
    obtain ⟨hj,h1⟩:=tk h1
    exact ⟨j,d,h1,(hσ j hj).trans h2⟩
   refine ⟨⟨sc.same,?_,fun j d h=>?_,fun j d h=>?_,fun j j' d d' a h1 h2 h3 h4=>?_⟩,sp,fun a z=>ho a (own' a z),fun j z=>?_⟩
   ·rw [List.length_take,← st1.len];omega
   ·obtain ⟨hj,h⟩:=tk h
    obtain ⟨v,q,r⟩:=sc.sh j d h
    exact ⟨v,(hσ j hj).symm.trans q,r⟩
   ·obtain ⟨hj,h⟩:=tk h
    obtain ⟨v,q,r⟩:=sc.ow j d h
    exact ⟨v,(hσ j hj).symm.trans q,r⟩
   ·obtain ⟨hj,h1⟩:=tk h1
    obtain ⟨hj',h2⟩:=tk h2
    exact sc.dis j j' d d' a h1 h2 ((hσ j hj).trans h3) ((hσ j' hj').trans h4)
   ·trivial
  ·refine ⟨D,rfl,hD,fun ⟨j,d,h1,h2⟩=>?_,n0,vf,hDl,ra⟩
   have hj:j<ρ1.length:=by
    have:=(List.getElem?_eq_some_iff.mp h1).1
    rw [List.length_take] at this
    omega
   rw [List.getElem?_take_of_lt hj] at h1
   exact nOc ⟨j,d,h1,(hσ j (by rw [st1.len];exact hj)).trans h2⟩
theorem vg {fi:Dm.FI} {own:Nat} {bd:Dm.FB} {g:TG} {t:Dm.FT} {el:Dm.FE} {is:List Nat} {Q:VK} (hb:BD is g bd) (hl:∀ i∈is,σ.length≤i) (h:tD (Dm.cK fi own bd t el) σ H Q) :
  tLC (tDI fi) own g (tDT t) (tD el) σ H Q:=by
 obtain ⟨H0,ρ,x,ρ',st,e,k⟩:=h
 unfold Dm.cK at e
 split at e
 ·cases e
 rename_i ds ρ1 e1
 split at e
 case isFalse=>cases e
 rename_i hsz
 split at e
 ·cases e
 rename_i ys ρ2 e2
 cases e
 refine ⟨H0,ρ,ds,ρ1,st,e1,fun J H00 Hb t1 jw D hD=>sF (pa:=none) hb hl t1.st (fun q e=>by cases e) (fun H0 H s0 s1 _=>jw H0 H s0 s1) hsz e2 (fun v H0' H' t2 r2 _=>k v H0' H' (t1.trans t2) (r2.early fun a n=>t1.stp.gone n)) D hD⟩
theorem aO {n m:Nat} {body:Dm.FS} {vs:List V} {H:Hp} {Q:VK} {E:XK} (h:spD (Dm.fn n m body) vs H Q E):vs.length=n:=by
 obtain ⟨H0,ds,z,s,rs,e,k⟩:=h
 unfold Dm.fn at e
 split at e
 ·rename_i hl
  rw [rs.length];exact hl
 ·cases e
theorem cj {N:List Str} {n m:Nat} {body:Dm.FS} {vs:List V} {Q:VK} {E:XK} (hm:N.length=n+m) (h:spD (Dm.fn n m body) vs H Q E) :
  tDS body { nx:=fun _ H'=>Q .non H',rt:=Q } (start N vs) H:=by
 have hvn:=aO h
 obtain ⟨H0,ds,z,s,rs,e,k⟩:=h
 have hl:=rs.length
 have no:∀ a,¬ aj (start N vs) (ds.map Dm.Cell.sh++List.replicate m .un) a:=fun a ⟨i,d,h1,_⟩=>by
  by_cases hi:i<ds.length
  ·rw [List.getElem?_append_left (by simpa using hi),List.getElem?_map] at h1
   cases q:ds[i]? with
   | none=>rw [q] at h1;cases h1
   | some y=>rw [q] at h1;cases h1
  ·rw [List.getElem?_append_right (by simpa using hi),List.getElem?_replicate] at h1
   split at h1<;>cases h1
 have st:au H0 H (start N vs) (ds.map Dm.Cell.sh++List.replicate m .un):=by
  refine ⟨s,?_,fun i d h=>?_,fun i d h=>?_,fun i j d e a h1 h2 _ _=>?_⟩
  ·unfold L2.start
   simp only [List.length_append,List.length_map,List.length_replicate]
   omega
  ·have hi:i<ds.length:=by
    by_cases hi:i<ds.length
    ·exact hi
    ·rw [List.getElem?_append_right (by simpa using hi),List.getElem?_replicate] at h
     split at h<;>cases h
   rw [List.getElem?_append_left (by simpa using hi),List.getElem?_map] at h
   cases q:ds[i]? with
   | none=>rw [q] at h;cases h
   | some y=>
    rw [q] at h
    cases h
    obtain ⟨v,hv,r⟩:=rs.get q
    refine ⟨v,?_,r⟩
    unfold L2.start
    rw [List.getElem?_append_left (by simpa [hl] using hi),List.getElem?_map,hv]
    rfl
  ·by_cases hi:i<ds.length
   ·rw [List.getElem?_append_left (by simpa using hi),List.getElem?_map] at h
    cases q:ds[i]? with
    | none=>rw [q] at h;cases h
    | some y=>rw [q] at h;cases h
   ·rw [List.getElem?_append_right (by simpa using hi),List.getElem?_replicate] at h
    split at h<;>cases h
  ·by_cases hi:i<ds.length
   ·rw [List.getElem?_append_left (by simpa using hi),List.getElem?_map] at h1
    cases q:ds[i]? with
    | none=>rw [q] at h1;cases h1
    | some y=>rw [q] at h1;cases h1
   ·rw [List.getElem?_append_right (by simpa using hi),List.getElem?_replicate] at h1
    split at h1<;>cases h1
 have gr:∀ {H0' H'},Stp (aj (start N vs) (ds.map Dm.Cell.sh++List.replicate m .un)) H0 H H0' H'→ak H0' H'→aK H0 H H0' H':=fun {H0' H'} t ss=>
  ⟨t.s0,fun a o e=>t.s1 a o e (no a),fun a o e=>(t.s2 a o e).imp id fun q=>q.elim id fun z=>absurd z (no a),ss⟩
 unfold Dm.fn at e
 rw [if_pos (by rw [← hl];exact hvn)] at e
 split at e
 ·rename_i r ρ' e1
  cases e
  refine ⟨H0,_,_,st,e1,fun σ' v H0' H' t r _=>k v H0' H' (gr t.stp t.st.same) ?_⟩
  cases z with
  | val d=>exact r
  | new d=>
   obtain ⟨a,e,n,n0,w⟩:=r
   exact ⟨a,e,n.elim id fun z=>absurd z (no a),n0,w⟩
 ·rename_i ρ' e1
  cases e
  exact ⟨H0,_,_,st,e1,fun σ' H0' H' t=>k _ H0' H' (gr t.stp t.st.same) .non⟩
 ·cases e
end
open PySem PySem.Spec PyProof.Rows L2
noncomputable def bw (X:Cx) (nm:List Str) (scope:Scope) (own:List Str) (cl:List (Str×Addr)) (C:Addr) (s:Shared) (H:Hp) (fp:List Addr):Cx where
 prog:=X.prog
 w:=X.w
 K:=X.K
 mg:=X.mg
 base:=X.base
 A:=X.A
 N:=nm++own
 s₀:=s
 H₀:=H
 env:=compEnvC scope cl C X.env
 outer:=X.stack
 stack:=X.stack
 ex:=fp
 fn:=fun _=>false
 calm:=X.calm
 pn:=[]
 xe:=fun _ _=>False
noncomputable def PTs (X:Cx) (ifs:List Expr) (t:TT):Prop:=
 ∀ (pins:List (Addr×Obj)) (s:Shared) (σ:L2.St) (H:Hp) (Q:Bool→Hp→Prop),Inv X pins σ H s→t σ H Q →
  wpAny (model X.prog X.w) X.A (forIn ifs true fun c r=>if r=true then do let ok ← isTrue c X.env (eval c X.env);pure (ForInStep.yield ok) else pure (ForInStep.yield r)) (TP X pins σ Q) X.xe s
noncomputable def DK:TT:=fun _ H Q=>Q true H
theorem wZ {X:Cx}:PTs X [] DK:=fun pins s σ H Q I h=>wpAny_tests_nil ⟨H,I,h⟩
theorem DL {X:Cx} {c:Expr} {t:TT} (h:PT X c t):PTs X [c] t:=fun pins s σ H Q I hq=>wpAny_tests_one (h pins s σ H Q I hq)
theorem eG (env:Env):∀ (names:List (Str×NameKind)) (cs:List (Str×Addr)),(∀ y∈names,y.2=.free→∃ c,env.cells.lookup y.1=some c) →
  ∃ cl,(forIn names cs fun (x:Str×NameKind) (r:List (Str×Addr))=>(if (x.2 == NameKind.free)=true then do let c ← cellOf env x.1;pure (ForInStep.yield ((x.1,c)::r)) else pure (ForInStep.yield r):Sem (ForInStep (List (Str×Addr)))))=pure cl ∧
   (∀ x c,cl.lookup x=some c→env.cells.lookup x=some c∨cs.lookup x=some c)∧(∀ y∈names,y.2=.free→∃ c,cl.lookup y.1=some c)∧(∀ x c,cs.lookup x=some c→∃ c',cl.lookup x=some c')
 | [],cs,_=>⟨cs,rfl,fun _ _ h=>.inr h,fun _ h=>(nomatch h),fun _ c h=>⟨c,h⟩⟩
 | (n,k)::r,cs,h=>by
  have hr:∀ y∈r,y.2=.free→∃ c,env.cells.lookup y.1=some c:=fun y hy=>h y (List.mem_cons_of_mem _ hy)
  by_cases hk:k=.free
  ·subst hk
   obtain ⟨c,hc⟩:=h (n,.free) List.mem_cons_self rfl
   obtain ⟨cl,e,h1,h2,h3⟩:=eG env r ((n,c)::cs) hr
   refine ⟨cl,?_,fun x c' q=>?_,fun y hy hf=>?_,fun x c' q=>?_⟩
   ·rw [List.forIn_cons]
    have e1:cellOf env n=pure c:=by unfold cellOf;rw [hc]
    simp only [beq_self_eq_true,if_true,e1,pure_bind]
    exact e
   ·rcases h1 x c' q with z | z
    ·exact .inl z
    ·rw [List.lookup_cons] at z
     cases hx:x == n with
     | true=>
      rw [hx] at z
      have:x=n:=by simpa using hx
      subst this
      injection z with z
      subst z
      exact .inl hc
     | false=>rw [hx] at z;exact .inr z
   ·rcases List.mem_cons.mp hy with rfl | hy
    ·exact h3 n c (by rw [List.lookup_cons,beq_self_eq_true])
    ·exact h2 y hy hf
   ·by_cases hx:x=n
    ·subst hx
     exact h3 x c (by rw [List.lookup_cons,beq_self_eq_true])
    ·have hx':(x == n)=false:=by simpa using hx
     exact h3 x c' (by rw [List.lookup_cons,hx'];exact q)
  ·have hb:(k == NameKind.free)=false:=by simpa using hk
   obtain ⟨cl,e,h1,h2,h3⟩:=eG env r cs hr
   refine ⟨cl,?_,h1,fun y hy hf=>?_,h3⟩
   ·rw [List.forIn_cons]
    simp only [hb,Bool.false_eq_true,if_false,pure_bind]
    exact e
   ·rcases List.mem_cons.mp hy with rfl | hy
    ·exact absurd hf hk
    ·exact h2 y hy hf
theorem mZ {env:Env} {scope:Scope} (h:∀ y∈scope.names,y.2=.free→∃ c,env.cells.lookup y.1=some c) :
  ∃ cl,closureFor scope env=pure cl∧(∀ x c,cl.lookup x=some c→env.cells.lookup x=some c)∧∀ y∈scope.names,y.2=.free→∃ c,cl.lookup y.1=some c:=by
 obtain ⟨cl,e,h1,h2,_⟩:=eG env scope.names [] h
 refine ⟨cl,?_,fun x c q=>(h1 x c q).elim id fun z=>by simp at z,h2⟩
 unfold closureFor
 have e':(forIn scope.names ([]:List (Str×Addr)) fun (x:Str×NameKind) (r:List (Str×Addr))=>(if (x.2 == NameKind.free)=true then do let c ← cellOf env x.1;pure (ForInStep.yield ((x.1,c)::r)) else pure (ForInStep.yield r):Sem (ForInStep (List (Str×Addr)))))=pure cl:=e
 first
  | (rw [show (forIn scope.names ([]:List (Str×Addr)) _:Sem (List (Str×Addr)))=pure cl from e'];rfl)
  | (simp only [e'];rfl)
theorem qK {prog:Program} {w:World} {A:Around} {R:Result→Shared→Prop} {s:Shared} {elt target iter:Expr} {ifs:List Expr} {scope:Scope} {pos:Pos} {it acc:Value} {env:Env} (I:Nat→Shared→Prop)
  (turn:∀ n s,I n s→wpAny (model prog w) A (pyNext it) (fun r s₁=>match r with
   | none=>R (.ok .next) s₁
   | some v=>wpAny (model prog w) A (letOwnedTupleGo target it v) (fun _ s₁'=>wpAny (model prog w) A (assign target env v) (fun _ s₂=>
     wpAny (model prog w) A (forIn ifs true fun c r=>if r=true then do let ok ← isTrue c env (eval c env);pure (ForInStep.yield ok) else pure (ForInStep.yield r)) (fun ok s₃=>
      if ok=true then wpAny (model prog w) A (eval elt env) (fun x s₄=>
       wpAny (model prog w) A (call (.builtin "list.append") [acc,x]) (fun _ s₅=>∃ m,m<n∧I m s₅) (fun _ _=>False) s₄) (fun _ _=>False) s₃
      else ∃ m,m<n∧I m s₃) (fun _ _=>False) s₂) (fun _ _=>False) s₁') (fun _ _=>False) s₁) (fun _ _=>False) s)
  (n:Nat) (h:I n s) :
  codeAny (model prog w) A (.compLoop (.ListComp elt [⟨target,iter,ifs,0⟩] scope pos) 0 it acc env) R s:=by
 have no:∀ {P:Value→Shared→Prop} (x:Value) (s':Shared),False→P x s':=fun _ _ f=>f.elim
 refine codeAny_loop rfl I (fun n s hI=>?_) n h
 show wpAny _ A ((compTurn (.ListComp elt [⟨target,iter,ifs,0⟩] scope pos) 0 it acc env).onRaise (fun x=>do noteFrame x env;theTreesLotGoes x)) _ _ s
 refine wpAny_noted ?_
 rw [compTurn_list]
 refine wpAny_bind (wpAny_standAt (wpAny_bind (wpAny_mono (turn n s hI) (fun r s₁ h₁=>?_) no)))
 cases r with
 | none=>exact wpAny_pure h₁
 | some v=>
  refine wpAny_bind (wpAny_mono h₁ (fun _ s₁' h₁'=>?_) no)
  refine wpAny_bind (wpAny_mono h₁' (fun _ s₂ h₂=>wpAny_bind (wpAny_mono h₂ (fun ok s₃ h₃=>?_) no)) no)
  cases ok with
  | false=>exact wpAny_pure ⟨rfl,h₃⟩
  | true=>
   exact wpAny_bind (wpAny_bind (wpAny_mono h₃ (fun x s₄ h₄=>wpAny_bind (wpAny_mono h₄ (fun _ s₅ h₅=>wpAny_pure (wpAny_pure ⟨rfl,h₅⟩)) no)) no))
theorem cT (env:Env):∀ (names:List (Str×NameKind)) (x:Str) (k:NameKind),
  (names.map fun (n,k)=>if (k == NameKind.free&&env.scope.kind == .function&&env.kindOf n == some .cell) then (n,NameKind.cell) else (n,k)).lookup x=some k →
  ∃ k0,names.lookup x=some k0∧(k=k0∨(k0=.free∧k=.cell))
 | [],x,k,h=>by simp at h
 | (n,k1)::r,x,k,h=>by
  have h:List.lookup x ((if (k1 == NameKind.free&&env.scope.kind == .function&&env.kindOf n == some .cell)=true then (n,NameKind.cell) else (n,k1))::r.map fun (n,k)=>if (k == NameKind.free&&env.scope.kind == .function&&env.kindOf n == some .cell) then (n,NameKind.cell) else (n,k))=some k:=h
  cases hx:x == n with
  | true=>
   by_cases hc:(k1 == NameKind.free&&env.scope.kind == .function&&env.kindOf n == some .cell)=true
   ·rw [if_pos hc,List.lookup_cons,hx] at h
    injection h with h
    have hk:k1=.free:=by
     simp only [Bool.and_eq_true,beq_iff_eq] at hc
     exact hc.1.1
    exact ⟨k1,by rw [List.lookup_cons,hx],.inr ⟨hk,h.symm⟩⟩
   ·rw [if_neg hc,List.lookup_cons,hx] at h
    injection h with h
    exact ⟨k1,by rw [List.lookup_cons,hx],.inl h.symm⟩
  | false=>
   by_cases hc:(k1 == NameKind.free&&env.scope.kind == .function&&env.kindOf n == some .cell)=true
   ·rw [if_pos hc,List.lookup_cons,hx] at h
    obtain ⟨k0,e,z⟩:=cT env r x k h
    exact ⟨k0,by rw [List.lookup_cons,hx];exact e,z⟩
   ·rw [if_neg hc,List.lookup_cons,hx] at h
    obtain ⟨k0,e,z⟩:=cT env r x k h
    exact ⟨k0,by rw [List.lookup_cons,hx];exact e,z⟩
structure dX (X:Cx) (nm:List Str) (scope:Scope):Prop where
 kind:scope.kind=.function
 cell:∀ y∈scope.names,y.2≠.cell
 names:∀ y∈scope.names,y.2=.local→scope.names.lookup y.1=some .local
 free:∀ y∈scope.names,y.2=.free→X.env.kindOf y.1=some .cell∨X.env.kindOf y.1=some .free
 apart:∀ x∈nm,scope.names.lookup x≠some .local
 len:nm.length=X.N.length
 mask:∀ (i:Nat) (x:Str),nm[i]?=some x→X.N[i]?=some x∨scope.names.lookup x=none
section
variable {X:Cx} {nm:List Str} {elt tg iter:Expr} {ifs:List Expr} {scope:Scope} {pos:Pos} {own:List Str} {wi:TI} {g:TG} {tt:TT} {te:TE}
theorem pZ {pins:List (Addr×Obj)} {s2:Shared} {σ:L2.St} {H2:Hp} {cl:List (Str×Addr)} {it:Addr} {fp:List Addr} {tn:Nat→Heap→Prop} {J:It} {Q:VK} {E:Value→Shared→Prop} {RR:Value→Addr→Result→Shared→Prop}
  (hc:X.calm=true) (S:dX X nm scope) (m5:∀ x c,cl.lookup x=some c→X.env.cells.lookup x=some c) (yP:∀ y∈scope.names,y.2=.free→∃ c,cl.lookup y.1=some c)
  (hg:∀ cl C s H fp,PG (bw X nm scope own cl C s H fp) tg g) (ht:∀ cl C s H fp,PTs (bw X nm scope own cl C s H fp) ifs tt) (he:∀ cl C s H fp,PE (bw X nm scope own cl C s H fp) elt te)
  (I2:Inv X pins σ H2 s2) (T:Turn X.prog X.w X.K tg J fp it tn) (st2:tn 0 s2.heap) (f2:∀ b∈fp,pF X pins H2 b)
  (hR:∀ D,H2 D=none→∃ W:Nat→Nat→L2.St→Hp→Prop,
   (∃ m,W 0 m (σ++List.replicate own.length none) (upd H2 D (.lst [])))∧∀ i m σ' H',W i m σ' H' →
    (J.stop i H'∧Q (.ref D) H')∨(J.go i H'∧∀ x H2,J.yld i H' x H2→g x σ' H2 fun σ2 H3=>tt σ2 H3 fun b H4=>if b=true
     then te σ2 H4 fun y H5=>∃ acc,H5 D=some (.lst acc)∧acc.length<sizeLine∧∃ m',m'<m∧W (i+1) m' σ2 (upd H5 D (.lst (acc++[y])))
     else ∃ m',m'<m∧W (i+1) m' σ2 H4))
  (M_:∀ D C H6 s6,Inv X pins σ H6 s6→H6 C=none→C≠X.env.locals→X.s₀.heap.objs.size≤C→(∀ x c,X.env.cells.lookup x=some c→c≠C)→(∀ p∈X.pn++pins,p.1≠C)→(∃ m,s6.heap.Ns C m)→Q (.ref D) H6→RR (.ref D) C (.ok .next) s6) :
  wpAny (model X.prog X.w) X.A (newList []) (fun acc s₃=>wpAny (model X.prog X.w) X.A (newFunctionEnv scope X.env.globals cl [] X.env.qual none .none (some X.env)) (fun cenv s₄=>
   codeAny (model X.prog X.w) X.A (.compStart (.ListComp elt [⟨tg,iter,ifs,0⟩] scope pos) 0 (.ref it) acc { cenv with scope:=relabel scope X.env }) (RR acc cenv.locals) s₄) E s₃) E s2:=by
 have no:∀ {P:Value→Shared→Prop} (x:Value) (s':Shared),False→P x s':=fun _ _ f=>f.elim
 refine wpAny_newObj_type (wpAny_newFunctionEnv S.cell (by intro y hy;simp at hy) (fun h₁ hns₁ hsb₁=>?_) S.kind)
 dsimp only at hns₁ hsb₁ ⊢
 have I3:Inv X pins σ (upd H2 s2.heap.objs.size (.lst [])) { s2 with heap:=s2.heap.push { cls:=.type "list",dict:=none,data:=.seq ([]:List Value).toArray } }:=I2.Hv (t':=s2.toks) (ys:=[]) (its:=[]) .nil (Nat.zero_le _)
 generalize hG2:s2.heap.push { cls:=.type "list",dict:=none,data:=.seq ([]:List Value).toArray }=G2 at hns₁ hsb₁ I3 ⊢
 have hC:G2.objs.size=s2.heap.objs.size+1:=by rw [← hG2,Heap.size_push]
 have up2:∀ b o,s2.heap.get? b=some o→G2.get? b=some o:=fun b o e=>hG2▸Heap.get?_push_of_some _ e
 have up3:∀ b o,G2.get? b=some o→h₁.get? b=some o:=fun b o e=>hsb₁.extBut b o (Nat.ne_of_lt (Heap.lt_size e)) (Heap.get?_push_of_some _ e)
 have Na:G2.get? G2.objs.size=none:=Heap.get?_none_of_le (Nat.le_refl _)
 have fpo:∀ b∈fp,∃ o,s2.heap.get? b=some o:=fun b hb=>by
  obtain ⟨o,e,_⟩:=T.obj 0 _ st2 b hb
  exact ⟨o,e⟩
 have fpC:∀ b∈fp,b≠G2.objs.size:=fun b hb=>by
  obtain ⟨o,e⟩:=fpo b hb
  exact Nat.ne_of_lt (Heap.lt_size (up2 b o e))
 have H3C:(upd H2 s2.heap.objs.size (.lst [])) G2.objs.size=none:=I3.hok.fresh (Nat.le_refl _)
 have fpD:∀ b∈fp,b≠s2.heap.objs.size:=fun b hb=>by
  obtain ⟨o,e⟩:=fpo b hb
  exact Nat.ne_of_lt (Heap.lt_size e)
 have K9:∀ b∈fp,b∉frs X.stack:=fun b hb z=>by
  rcases List.mem_cons.mp (I3.mH b z) with y | y
  ·exact (f2 b hb).2.1 y
  ·exact (f2 b hb).2.2.1 y
 have ok':(bw X nm scope own cl G2.objs.size { s2 with heap:=G2 } (upd H2 s2.heap.objs.size (.lst [])) fp).Ok:=by
  refine ⟨I3.ok.mod,S.kind,I3.ok.glob,I3.ok.blt,Nat.le_refl _,fun x y c e1 e2=>I3.ok.inj x y c (m5 x c e1) (m5 y c e2),fun x hx=>?_,fun x c z=>(nomatch z),I3.ok.hd,I3.ok.frames,.inl rfl,
   fun b hb=>⟨fpC b hb,fun x c e=>(f2 b hb).2.2.2.2.1 x c (m5 x c e)⟩,fun b o e=>I3.bs b o e,Nat.le_trans I3.ok.bsz I3.sz,fun b o e hb=>?_,fun b hb=>K9 b hb,I3.stack,I3.qw⟩
  ·have hx:(relabel scope X.env).names.lookup x=some .cell∨(relabel scope X.env).names.lookup x=some .free:=hx
   have key:∀ k,(relabel scope X.env).names.lookup x=some k→k≠.local→k=.cell∨k=.free→∃ c,cl.lookup x=some c:=fun k hk _ hkk=>by
    obtain ⟨k0,e0,z⟩:=cT X.env scope.names x k hk
    have m0:=PySem.mem_of_lookup e0
    have f0:k0=.free:=by
     rcases z with z | z
     ·subst z
      rcases hkk with q | q
      ·exact absurd q (S.cell _ m0)
      ·exact q
     ·exact z.1
    exact yP (x,k0) m0 f0
   rcases hx with hx | hx
   ·exact key _ hx (by decide) (.inl rfl)
   ·exact key _ hx (by decide) (.inr rfl)
  ·rcases (f2 b hb).2.2.2.1 with z | z
   ·exact I3.ok.zA b o e z
   ·exact absurd (Nat.lt_of_lt_of_le (Heap.lt_size e) (Nat.le_trans I3.ok.bsz z)) (Nat.lt_irrefl _)
 have stat:∀ {H':Hp},(∀ b∈fp,H' b=none)→∀ b∈fp,pF (bw X nm scope own cl G2.objs.size { s2 with heap:=G2 } (upd H2 s2.heap.objs.size (.lst [])) fp) [] H' b:=fun hn b hb=>
  ⟨hn b hb,fpC b hb,K9 b hb,.inl hb,fun x c e=>(f2 b hb).2.2.2.2.1 x c (m5 x c e),fun p hp=>(nomatch (show p∈([]:List (Addr×Obj)) from hp))⟩
 have I4:Inv (bw X nm scope own cl G2.objs.size { s2 with heap:=G2 } (upd H2 s2.heap.objs.size (.lst [])) fp) [] (σ++List.replicate own.length none) (upd H2 s2.heap.objs.size (.lst [])) { s2 with heap:=h₁,toks:=s2.toks+([]:List (Str×Value)).length }:=by
  refine ⟨ok',rfl,I3.bare,Un.kept up3,⟨_,hns₁,fun i x v e1 e2 e3=>?_⟩,fun x c e=>?_,H3C,fun x c e=>I3.cY x c (m5 x c e),fun p hp=>(nomatch (show p∈([]:List (Addr×Obj)) from hp)),I3.hok.kept up3,?_⟩
  ·have e1:(nm++own)[i]?=some x:=e1
   have hi:i<σ.length:=by
    by_cases hi:i<σ.length
    ·exact hi
    ·rw [List.getElem?_append_right (Nat.not_lt.mp hi),List.getElem?_replicate] at e2
     split at e2<;>cases e2
   rw [List.getElem?_append_left hi] at e2
   rw [List.getElem?_append_left (by rw [S.len,← I3.len];exact hi)] at e1
   have key:∀ k,(relabel scope X.env).names.lookup x=some k→k=.local∨k=.cell∨k=.free→scope.names.lookup x=some .free∧(k=.cell∨k=.free):=fun k hk hkk=>by
    obtain ⟨k0,e0,z⟩:=cT X.env scope.names x k hk
    have m0:=PySem.mem_of_lookup e0
    have n1:k0≠.local:=fun y=>S.apart x (List.mem_of_getElem? e1) (y▸e0)
    have n2:k0≠.cell:=S.cell _ m0
    rcases z with z | z
    ·subst z
     rcases hkk with q | q | q
     ·exact absurd q n1
     ·exact absurd q n2
     ·subst q;exact ⟨e0,.inr rfl⟩
    ·obtain ⟨z1,z2⟩:=z
     subst z1;subst z2
     exact ⟨e0,.inl rfl⟩
   have hk:∃ k,(relabel scope X.env).names.lookup x=some k∧(k=.cell∨k=.free)∧scope.names.lookup x=some .free:=by
    rcases (show (relabel scope X.env).names.lookup x=some .local∨(relabel scope X.env).names.lookup x=some .cell∨(relabel scope X.env).names.lookup x=some .free from e3) with q | q | q
    ·obtain ⟨a,b⟩:=key _ q (.inl rfl);exact ⟨_,q,b,a⟩
    ·obtain ⟨a,b⟩:=key _ q (.inr (.inl rfl));exact ⟨_,q,b,a⟩
    ·obtain ⟨a,b⟩:=key _ q (.inr (.inr rfl));exact ⟨_,q,b,a⟩
   obtain ⟨k,hk1,hk2,hk3⟩:=hk
   have m0:=PySem.mem_of_lookup hk3
   obtain ⟨c,hcc⟩:=yP (x,.free) m0 rfl
   obtain ⟨m,hn,hl⟩:=I3.loc
   have hout:=S.free (x,.free) m0 rfl
   have Nb:Vis X.env.scope x:=by
    rcases hout with q | q
    ·exact .inr (.inl q)
    ·exact .inr (.inr q)
   have e1':X.N[i]?=some x:=by
    rcases S.mask i x e1 with z | z
    ·exact z
    ·rw [z] at hk3;cases hk3
   obtain ⟨u,ru,lk⟩:=hl i x v e1' e2 Nb
   refine ⟨u,ru,.inr ⟨?_,c,hcc,?_⟩⟩
   ·rcases hk2 with q | q
    ·subst q;exact .inl hk1
    ·subst q;exact .inr hk1
   ·rcases lk with ⟨q,_⟩ | ⟨_,c',e',z⟩
    ·rcases hout with y | y
     ·rw [q] at y;cases y
     ·rw [q] at y;cases y
    ·rw [m5 x c hcc] at e'
     cases e'
     obtain ⟨o,ho,hd⟩:=z
     exact ⟨o,up3 c o ho,hd⟩
  ·obtain ⟨v,o,ho,hd⟩:=I3.cell x c (m5 x c e)
   exact ⟨v,o,up3 c o ho,hd⟩
  ·show (σ++List.replicate own.length none).length=(nm++own).length
   rw [List.length_append,List.length_append,List.length_replicate,I3.len,S.len]
 obtain ⟨W,⟨m0,w0⟩,turn⟩:=hR s2.heap.objs.size I2.fresh
 have st4:tn 0 h₁:=T.keep 0 _ _ st2 fun b hb o e=>up3 b o (up2 b o e)
 have Nc:∀ b∈fp,(upd H2 s2.heap.objs.size (.lst [])) b=none:=fun b hb=>by rw [ao (fpD b hb)];exact (f2 b hb).1
 have loop:∀ s₃:Shared,s₃={ s2 with heap:=h₁,toks:=s2.toks+([]:List (Str×Value)).length } →
   codeAny (model X.prog X.w) X.A (.compLoop (.ListComp elt [⟨tg,iter,ifs,0⟩] scope pos) 0 (.ref it) (.ref s2.heap.objs.size) (compEnvC scope cl G2.objs.size X.env))
    (RR (.ref s2.heap.objs.size) G2.objs.size) s₃:=by
  rintro s₃ rfl
  refine qK (fun n s'=>∃ i σ' H',Inv (bw X nm scope own cl G2.objs.size { s2 with heap:=G2 } (upd H2 s2.heap.objs.size (.lst [])) fp) [] σ' H' s'∧tn i s'.heap∧(∀ b∈fp,H' b=none)∧W i n σ' H') ?_ m0
   ⟨0,_,_,I4,st4,Nc,w0⟩
  rintro n s5 ⟨i,σ5,H5,I5,st5,fr5,w5⟩
  rcases turn i n σ5 H5 w5 with ⟨stop,q⟩ | ⟨go,step⟩
  ·refine wpAny_mono (T.done (bw X nm scope own cl G2.objs.size { s2 with heap:=G2 } (upd H2 s2.heap.objs.size (.lst [])) fp) rfl rfl rfl hc i [] s5 σ5 H5 (fun _ _=>False) I5 (stat fr5) st5 stop) (fun r s6 hr6=>?_) no
   obtain ⟨hr,I6⟩:=hr6
   subst hr
   have I7:Inv X pins σ H5 s6:=I3.Kn (ch:=fp) I6.os I6.base I6.hok I6.bare fun b hb=>⟨(f2 b hb).2.2.2.1,(f2 b hb).2.1,(f2 b hb).2.2.2.2.1,(f2 b hb).2.2.2.2.2⟩
   refine M_ _ _ H5 s6 I7 I6.free (Nat.ne_of_gt (show X.env.locals<G2.objs.size from I3.lt)) I3.sz (fun x c e=>?_) (fun p hp=>?_) (let ⟨m,hn,_⟩:=I6.loc;⟨m,hn⟩) q
   ·obtain ⟨v,z⟩:=I3.cell x c e
    exact Nat.ne_of_lt z.lt
   ·exact Nat.ne_of_lt (Heap.lt_size (I3.pin p hp).1)
  ·refine wpAny_mono (T.item (bw X nm scope own cl G2.objs.size { s2 with heap:=G2 } (upd H2 s2.heap.objs.size (.lst [])) fp) rfl rfl rfl hc i [] s5 σ5 H5 (fun _ _=>False) I5 (stat fr5) st5 go) (fun r s6 hr6=>?_) no
   obtain ⟨u,hr,h6⟩:=hr6
   subst hr
   refine wpAny_mono h6 (fun _ s7 h7=>?_) no
   obtain ⟨x,H7,I7,r7,y7,st7,fr7⟩:=h7
   have I7':=I7.pinned (stat fr7) (T.obj _ _ st7)
   have again:∀ {s9:Shared} {σ9:L2.St} {H9:Hp} {m':Nat},m'<n→Inv (bw X nm scope own cl G2.objs.size { s2 with heap:=G2 } (upd H2 s2.heap.objs.size (.lst [])) fp) ([]++mK fp s7.heap) σ9 H9 s9→W (i+1) m' σ9 H9 →
     ∃ m,m<n∧∃ i σ' H',Inv (bw X nm scope own cl G2.objs.size { s2 with heap:=G2 } (upd H2 s2.heap.objs.size (.lst [])) fp) [] σ' H' s9∧tn i s9.heap∧(∀ b∈fp,H' b=none)∧W i m σ' H':=fun {s9 σ9 H9 m'} hm I9 w9=>by
    refine ⟨m',hm,i+1,σ9,H9,I9.jI,T.keep _ _ _ st7 fun b hb o e=>(I9.pin (b,o) (List.mem_append_right _ (List.mem_append_right _ (e7 hb e)))).1,fun b hb=>?_,w9⟩
    obtain ⟨o,e,d⟩:=T.obj _ _ st7 b hb
    exact (I9.pin (b,o) (List.mem_append_right _ (List.mem_append_right _ (e7 hb e)))).2.1
   refine wpAny_mono (hg cl G2.objs.size _ _ fp _ s7 σ5 H7 x u _ I7' r7 (step x H7 y7)) (fun _ s8 h8=>?_) no
   obtain ⟨σ8,H8,I8,q8⟩:=h8
   refine wpAny_mono (ht cl G2.objs.size _ _ fp _ s8 σ8 H8 _ I8 q8) (fun b s9 h9=>?_) no
   obtain ⟨H9,I9,q9⟩:=h9
   cases b with
   | false=>
    rw [if_neg Bool.false_ne_true] at q9 ⊢
    obtain ⟨m',hm,w9⟩:=q9
    exact again hm I9 w9
   | true=>
    rw [if_pos rfl] at q9 ⊢
    refine wpAny_mono (he cl G2.objs.size _ _ fp _ s9 σ8 H9 _ I9 q9) (fun y s10 h10=>?_) no
    obtain ⟨yv,H10,I10,r10,acc,hacc,hlen,m',hm,w10⟩:=h10
    refine wpAny_mono (kD (X:=bw X nm scope own cl G2.objs.size { s2 with heap:=G2 } (upd H2 s2.heap.objs.size (.lst [])) fp) _ s10 σ8 H10 (.ref s2.heap.objs.size) [yv] (.ref s2.heap.objs.size) [y] (fun _ H'=>H'=upd H10 s2.heap.objs.size (.lst (acc++[yv]))) I10 rfl (.cons r10 .nil) ⟨_,acc,yv,rfl,rfl,hacc,hlen,rfl⟩) (fun _ s11 h11=>?_) no
    obtain ⟨_,H11,I11,_,e11⟩:=h11
    subst e11
    exact again hm I11 w10
 exact codeAny_compStart_list (loop _ rfl) (T.self _ 0 _ _ _ st4 (loop _ rfl))
theorem w_ (hc:X.calm=true) (S:dX X nm scope) (hi:PI X tg iter wi)
  (hg:∀ cl C s H fp,PG (bw X nm scope own cl C s H fp) tg g) (ht:∀ cl C s H fp,PTs (bw X nm scope own cl C s H fp) ifs tt) (he:∀ cl C s H fp,PE (bw X nm scope own cl C s H fp) elt te)
  (hs:∀ x,foldedSetIterable iter X.env x=pure x:=by intro _;rfl):PE X (.ListComp elt [⟨tg,iter,ifs,0⟩] scope pos) (tLC wi own.length g tt te):=by
 intro pins s σ H Q I h
 obtain ⟨cl,hclos,m5,yP⟩:=mZ (env:=X.env) (scope:=scope) fun y hy hf=>I.ok.has y.1 (S.free y hy hf)
 rw [eval_ListComp]
 refine wpAny_comprehension_free (use:=none) rfl hs hclos S.kind S.names (thn (hi pins s σ H _ I h) fun v s1 h1=>thn h1 fun itv s2 h2=>?_)
 obtain ⟨it,fp,tn,J,H2,e,I2,T,st2,f2,hR⟩:=h2
 subst e
 refine pZ (Q:=Q) (RR:=fun acc C=>compPost (model X.prog X.w) X.A X.xe none (EP X pins σ Q) acc C) hc S m5 yP hg ht he I2 T st2 f2 hR ?_
 intro D C H6 s6 I6 hCn hCL hCs hCc hCp hns q
 obtain ⟨m,hn⟩:=hns
 refine ⟨m,hn,fun h' hs'=>⟨.ref D,H6,I6.turned (t':=s6.toks) (fun b o hb e=>(hs'.2 b hb).trans e) hCn hCL (.inr hCs) hCc hCp,rfl,q⟩⟩
theorem lz {i:Nat} {y:Str} {py spos:Pos} (hN:X.N.Nodup) (hi':X.N[i]?=some y) (hy:Loc X.env.scope y) (hc:X.calm=true) (S:dX X nm scope) (hi:PI X tg iter wi)
  (hg:∀ cl C s H fp,PG (bw X nm scope own cl C s H fp) tg g) (ht:∀ cl C s H fp,PTs (bw X nm scope own cl C s H fp) ifs tt) (he:∀ cl C s H fp,PE (bw X nm scope own cl C s H fp) elt te)
  (hsw:swapsWith (.ListComp elt [⟨tg,iter,ifs,0⟩] scope pos) (some (.Name y py)) spos.line X.env=pure true:=by rfl)
  (hs:∀ x,foldedSetIterable iter X.env x=pure x:=by intro _;rfl) (hf:X.fn y=true∨X.env.scope.names.lookup y=some .local:=by first | exact .inl rfl | exact .inr rfl | assumption) :
  PS X (.Assign [.Name y py] (.ListComp elt [⟨tg,iter,ifs,0⟩] scope pos) spos) (uX (tLC wi own.length g tt te) (jH i)):=by
 intro pins s σ H Dn I h
 obtain ⟨cl,hclos,m5,yP⟩:=mZ (env:=X.env) (scope:=scope) fun y hy hf=>I.ok.has y.1 (S.free y hy hf)
 rw [exec_Assign_Name_used _ _ _ _ hsw]
 refine wpAny_bind (wpAny_standAt (wpAny_bind ?_))
 show wpAny _ X.A (do let _ ← comprehension (.ListComp elt [⟨tg,iter,ifs,0⟩] scope pos) scope X.env _ (newList []) false (eval iter X.env) (some (assign (.Name y py) X.env))) _ _ s
 refine wpAny_bind (wpAny_mono (wpAny_comprehension_free (use:=some (assign (.Name y py) X.env)) (Q:=fun _ s'=>SP X pins Dn .next s') rfl hs hclos S.kind S.names
  (thn (hi pins s σ H _ I h) fun v s1 h1=>thn h1 fun itv s2 h2=>?_)) (fun _ s' hq=>wpAny_pure (wpAny_pure hq)) fun _ _ e=>e)
 obtain ⟨it,fp,tn,J,H2,e,I2,T,st2,f2,hR⟩:=h2
 subst e
 refine pZ (Q:=fun x H1=>jH i x σ H1 Dn.nx) (RR:=fun acc C=>compPost (model X.prog X.w) X.A X.xe (some (assign (.Name y py) X.env)) (fun _ s'=>SP X pins Dn .next s') acc C) hc S m5 yP hg ht he I2 T st2 f2 hR ?_
 intro D C H6 s6 I6 hCn hCL hCs hCc hCp hns q
 obtain ⟨m,hn⟩:=hns
 show wpAny _ X.A (assign (.Name y py) X.env (.ref D)) _ _ _
 refine wpAny_assign_Name (kC I6 hN hi' hy (v:=.ref D) rfl (fun s7 I7 h7=>?_) hf)
 obtain ⟨a,sb,ha⟩:=h7
 have hCa:C≠a:=by
  rcases ha with ha | ha
  ·rw [ha];exact hCL
  ·exact Ne.symm (hCc y a ha)
 refine ⟨m,hn.sameBut sb hCa,fun h' hs'=>⟨_,H6,I7.turned (t':=s7.toks) (fun b o hb e=>(hs'.2 b hb).trans e) hCn hCL (.inr hCs) hCc hCp,q⟩⟩
end
mutual
noncomputable def toPy:Dm.Dat→PyData
 | .non=>.none
 | .bl b=>.bool b
 | .int i=>.int i
 | .str s=>.str ⟨s.toArray⟩
 | .tup xs=>.tuple (b5 xs)
 | .lst xs=>.list (b5 xs)
 | .dct _ _=>.dict []
 | .exc _=>.dict []
 | .fn _=>.dict []
noncomputable def b5:List Dm.Dat→List PyData
 | []=>[]
 | x::xs=>toPy x::b5 xs
end
mutual
theorem jT:∀ a b:Dm.Dat,PyData.eqv (toPy a) (toPy b)=Dm.eqD a b
 | .non,b=>by cases b<;>simp [toPy,PyData.eqv,Dm.eqD]
 | .bl x,b=>by cases b<;>simp [toPy,PyData.eqv,Dm.eqD,Dm.b2i]
 | .int x,b=>by cases b<;>simp [toPy,PyData.eqv,Dm.eqD,Dm.b2i]
 | .str x,b=>by
  cases b with
  | str y=>
   simp only [toPy,PyData.eqv,Dm.eqD]
   rw [Bool.eq_iff_iff]
   simp only [beq_iff_eq]
   constructor
   ·intro h
    have h:=congrArg (fun s:Str=>s.cps.toList) h
    simpa using h
   ·rintro rfl
    rfl
  | _=>simp [toPy,PyData.eqv,Dm.eqD]
 | .tup xs,b=>by
  cases b with
  | tup ys=>simp only [toPy,PyData.eqv,Dm.eqD];exact kL xs ys
  | _=>simp [toPy,PyData.eqv,Dm.eqD]
 | .lst xs,b=>by
  cases b with
  | lst ys=>simp only [toPy,PyData.eqv,Dm.eqD];exact kL xs ys
  | _=>simp [toPy,PyData.eqv,Dm.eqD]
 | .dct ks vs,b=>by cases b<;>simp [toPy,PyData.eqv,Dm.eqD]
 | .exc C,b=>by cases b<;>simp [toPy,PyData.eqv,Dm.eqD]
 | .fn C,b=>by cases b<;>simp [toPy,PyData.eqv,Dm.eqD]
theorem kL:∀ a b:List Dm.Dat,PyData.eqvAll (b5 a) (b5 b)=Dm.eO a b
 | [],b=>by cases b<;>simp [b5,PyData.eqvAll,Dm.eO]
 | x::xs,b=>by
  cases b with
  | nil=>simp [b5,PyData.eqvAll,Dm.eO]
  | cons y ys=>simp only [b5,PyData.eqvAll,Dm.eO];rw [jT x y,kL xs ys]
end
theorem An {s:List Nat} (h:(s.all fun c=>decide (c<128))=true):PyData.strOk ⟨s.toArray⟩=true:=by
 unfold PyData.strOk
 rw [Array.all_eq_true']
 intro c hc
 have h1:=List.all_eq_true.mp h c (by simpa using hc)
 have h2:c<128:=of_decide_eq_true h1
 exact decide_eq_true (by omega)
theorem b7 {P:Program} {w:World} {H:Hp} {h:Heap} (ok:HOk P w H h):∀ (n:Nat),
  (∀ (v:V) (d:Dm.Dat) (u:Value),Rep H v d→RelV v u→Dm.okD n d=true→∃ as,Reads h u (toPy d) as∧(toPy d).canLay0=true∧(toPy d).depth≤n) ∧
  (∀ (vs:List V) (ds:List Dm.Dat) (us:List Value),aC H vs ds→Vals vs us→ds.all (Dm.okD n)=true→∃ as,ReadsAll h us (b5 ds) as∧PyData.canLayAll0 (b5 ds)=true∧PyData.depthAll (b5 ds)≤n):=by
 intro n
 induction n with
 | zero=>
  have one:∀ (v:V) (d:Dm.Dat) (u:Value),Rep H v d→RelV v u→Dm.okD 0 d=true→∃ as,Reads h u (toPy d) as∧(toPy d).canLay0=true∧(toPy d).depth≤0:=by
   intro v d u r rv k
   cases r with
   | non=>cases rv;exact ⟨_,.none,rfl,Nat.le_refl _⟩
   | bl b=>cases rv;exact ⟨_,.bool b,rfl,Nat.le_refl _⟩
   | int i=>obtain ⟨t,rfl⟩:=rv;exact ⟨_,.int i t,rfl,Nat.le_refl _⟩
   | str s=>obtain ⟨t,rfl⟩:=rv;exact ⟨_,.str _ t,An k,Nat.le_refl _⟩
   | tup _ _=>cases k
   | lst _ _=>cases k
   | dct _ _ _=>cases k
   | exc _=>cases k
   | fn _=>cases k
  refine ⟨one,fun vs ds=>?_⟩
  induction ds generalizing vs with
  | nil=>intro us r rv _;cases r;cases rv;exact ⟨_,.nil,rfl,Nat.le_refl _⟩
  | cons d ds ih=>
   intro us r rv k
   cases r with
   | cons r rs=>
    cases rv with
    | cons q qs=>
     rw [List.all_cons,Bool.and_eq_true] at k
     obtain ⟨a1,h1,h2,h3⟩:=one _ _ _ r q k.1
     obtain ⟨a2,h4,h5,h6⟩:=ih _ _ rs qs k.2
     exact ⟨_,.cons h1 h4,by simp [b5,PyData.canLayAll0,h2,h5],by simp only [b5,PyData.depthAll];omega⟩
 | succ n ih=>
  have one:∀ (v:V) (d:Dm.Dat) (u:Value),Rep H v d→RelV v u→Dm.okD (n+1) d=true→∃ as,Reads h u (toPy d) as∧(toPy d).canLay0=true∧(toPy d).depth≤n+1:=by
   intro v d u r rv k
   cases r with
   | non=>cases rv;exact ⟨_,.none,rfl,Nat.zero_le _⟩
   | bl b=>cases rv;exact ⟨_,.bool b,rfl,Nat.zero_le _⟩
   | int i=>obtain ⟨t,rfl⟩:=rv;exact ⟨_,.int i t,rfl,Nat.zero_le _⟩
   | str s=>obtain ⟨t,rfl⟩:=rv;exact ⟨_,.str _ t,An k,Nat.zero_le _⟩
   | tup q rs=>
    cases rv
    obtain ⟨z,its,vr,ob,e,hc,m,hd⟩:=ok _ _ q
    obtain ⟨as,h1,h2,h3⟩:=ih.2 _ _ _ rs vr k
    exact ⟨_,.tuple e hc hd h1,h2,by simp only [toPy,PyData.depth];omega⟩
   | lst q rs=>
    cases rv
    obtain ⟨z,its,m,vr,e⟩:=q.ok ok
    obtain ⟨as,h1,h2,h3⟩:=ih.2 _ _ _ rs vr k
    exact ⟨_,.list e rfl rfl h1,h2,by simp only [toPy,PyData.depth];omega⟩
   | dct _ _ _=>cases k
   | exc _=>cases k
   | fn _=>cases k
  refine ⟨one,fun vs ds=>?_⟩
  induction ds generalizing vs with
  | nil=>intro us r rv _;cases r;cases rv;exact ⟨_,.nil,rfl,Nat.zero_le _⟩
  | cons d ds ih=>
   intro us r rv k
   cases r with
   | cons r rs=>
    cases rv with
    | cons q qs=>
     rw [List.all_cons,Bool.and_eq_true] at k
     obtain ⟨a1,h1,h2,h3⟩:=one _ _ _ r q k.1
     obtain ⟨a2,h4,h5,h6⟩:=ih _ _ rs qs k.2
     exact ⟨_,.cons h1 h4,by simp [b5,PyData.canLayAll0,h2,h5],by simp only [b5,PyData.depthAll];omega⟩
theorem kJ.full {H0 H:Hp} (s:ak H0 H) {v:V} {d:Dm.Dat} (r:kJ H0 H v d):Rep H v d:=by
 rcases r with r | ⟨a,rfl,w⟩
 ·exact r.mono s
 ·cases d with
  | lst ds=>obtain ⟨xs,q,rs⟩:=w;exact .lst (.inl q) (rs.mono s)
  | dct ks ds=>obtain ⟨kvs,q,e,rs⟩:=w;exact .dct q e (rs.mono s)
  | _=>exact False.elim w
noncomputable def DM (neg:Bool):R2:=fun x y H Q=>∃ dx dy,Rep H x dx∧Rep H y dy∧Dm.okD 8 dx=true∧Dm.okD 8 dy=true∧Q (.bl (if neg then !Dm.eqD dx dy else Dm.eqD dx dy)) H
section
variable {X:Cx}
theorem Ao {k:Nat} (hr:bB k X.A):OpR X (compareOp .Eq) (DM false):=by
 intro pins s σ H x y v u Q I rx ry h
 obtain ⟨dx,dy,r1,r2,k1,k2,q⟩:=h
 obtain ⟨as,h1,h2,h3⟩:=(b7 I.hok 8).1 x dx v r1 rx k1
 obtain ⟨bs,h4,h5,h6⟩:=(b7 I.hok 8).1 y dy u r2 ry k2
 have hu:=hr.units
 refine PySem.SeqAt.compareEq_reads h1 h4 h2 h5 (by omega) ?_
 rw [jT]
 exact ⟨.bl (Dm.eqD dx dy),H,I,rfl,q⟩
theorem Aq {k:Nat} (hr:bB k X.A):OpR X (compareOp .NotEq) (DM true):=by
 intro pins s σ H x y v u Q I rx ry h
 obtain ⟨dx,dy,r1,r2,k1,k2,q⟩:=h
 obtain ⟨as,h1,h2,h3⟩:=(b7 I.hok 8).1 x dx v r1 rx k1
 obtain ⟨bs,h4,h5,h6⟩:=(b7 I.hok 8).1 y dy u r2 ry k2
 have hu:=hr.units
 refine PySem.SeqAt.compareNe_reads h1 h4 h2 h5 (by omega) ?_
 rw [jT]
 exact ⟨.bl (!Dm.eqD dx dy),H,I,rfl,q⟩
noncomputable def HJ (neg:Bool):R2:=fun x y H Q=>∃ dx ds,Rep H x dx∧(Rep H y (.lst ds)∨Rep H y (.tup ds))∧Dm.okD 8 dx=true∧ds.all (Dm.okD 7)=true∧Q (.bl (if neg then !Dm.inD dx ds else Dm.inD dx ds)) H
theorem gf (x:Dm.Dat):∀ ds:List Dm.Dat,((b5 ds).any fun y=>PyData.eqv y (toPy x))=Dm.inD x ds
 | []=>rfl
 | d::ds=>by
  have:=gf x ds
  unfold Dm.inD at this ⊢
  simp only [b5,List.any_cons,jT]
  rw [this]
theorem Nd {k:Nat} (hr:bB k X.A):OpR X (compareOp .In) (HJ false):=by
 intro pins s σ H x y v u Q I rx ry h
 obtain ⟨dx,ds,r1,r2,k1,k2,q⟩:=h
 obtain ⟨as,h1,h2,h3⟩:=(b7 I.hok 8).1 x dx v r1 rx k1
 have hu:=hr.units
 rcases r2 with r2 | r2
 ·obtain ⟨bs,h4,h5,h6⟩:=(b7 I.hok 8).1 y (.lst ds) u r2 ry k2
  have h6:PyData.depthAll (b5 ds)+1≤8:=h6
  refine PySem.SeqAt.in_list_reads h4 h1 h5 h2 (by omega) ?_
  rw [gf]
  exact ⟨.bl (Dm.inD dx ds),H,I,rfl,q⟩
 ·obtain ⟨bs,h4,h5,h6⟩:=(b7 I.hok 8).1 y (.tup ds) u r2 ry k2
  have h6:PyData.depthAll (b5 ds)+1≤8:=h6
  refine PySem.SeqAt.in_tuple_reads h4 h1 h5 h2 (by omega) ?_
  rw [gf]
  exact ⟨.bl (Dm.inD dx ds),H,I,rfl,q⟩
theorem yQ {k:Nat} (hr:bB k X.A):OpR X (compareOp .NotIn) (HJ true):=by
 intro pins s σ H x y v u Q I rx ry h
 obtain ⟨dx,ds,r1,r2,k1,k2,q⟩:=h
 obtain ⟨as,h1,h2,h3⟩:=(b7 I.hok 8).1 x dx v r1 rx k1
 have hu:=hr.units
 rcases r2 with r2 | r2
 ·obtain ⟨bs,h4,h5,h6⟩:=(b7 I.hok 8).1 y (.lst ds) u r2 ry k2
  have h6:PyData.depthAll (b5 ds)+1≤8:=h6
  refine PySem.SeqAt.notIn_list_reads h4 h1 h5 h2 (by omega) ?_
  rw [gf]
  exact ⟨.bl (!Dm.inD dx ds),H,I,rfl,q⟩
 ·obtain ⟨bs,h4,h5,h6⟩:=(b7 I.hok 8).1 y (.tup ds) u r2 ry k2
  have h6:PyData.depthAll (b5 ds)+1≤8:=h6
  refine PySem.SeqAt.notIn_tuple_reads h4 h1 h5 h2 (by omega) ?_
  rw [gf]
  exact ⟨.bl (!Dm.inD dx ds),H,I,rfl,q⟩
end
theorem aA {H0 H:Hp} {v:V} {i:Int} (r:kJ H0 H v (.int i)):v=.int i:=by
 rcases r with r | ⟨a,_,w⟩
 ·exact Rep.isInt r
 ·exact False.elim w
theorem xg {H0 H:Hp} {v:V} {b:Bool} (r:kJ H0 H v (.bl b)):v=.bl b:=by
 rcases r with r | ⟨a,_,w⟩
 ·exact Rep.mW r
 ·exact False.elim w
theorem b8 {H0 H:Hp} (s:ak H0 H) {v:V} {ds:List Dm.Dat} (r:kJ H0 H v (.lst ds)):∃ a xs,v=.ref a∧Rd H a (.lst xs)∧aC H0 xs ds:=by
 rcases r with r | ⟨a,e,xs,q,rs⟩
 ·cases r with
  | lst q rs=>exact ⟨_,_,rfl,ak.rd s q,rs⟩
 ·exact ⟨a,xs,e,.inl q,rs⟩
theorem eT {H0 H:Hp} (s:ak H0 H) {v:V} {ds:List Dm.Dat} (r:kJ H0 H v (.tup ds)):∃ a xs,v=.ref a∧H a=some (.tup xs)∧aC H0 xs ds:=by
 rcases r with r | ⟨a,_,w⟩
 ·cases r with
  | tup q rs=>exact ⟨_,_,rfl,s _ _ q,rs⟩
 ·exact False.elim w
theorem HK:OpD (rI0 fun i j=>.int (i-j)) Dm.fR:=by
 intro H0 H x y dx dy z Q s rx ry e k
 unfold Dm.fR at e
 split at e
 ·cases e;cases aA rx;cases aA ry
  exact ⟨_,_,rfl,rfl,k _ H0 H (aK.refl s) (.int _)⟩
 ·cases e
theorem FG:OpD (rI0 fun i j=>.bl (decide (i<j))) Dm.gLt:=by
 intro H0 H x y dx dy z Q s rx ry e k
 unfold Dm.gLt at e
 split at e
 ·cases e;cases aA rx;cases aA ry
  exact ⟨_,_,rfl,rfl,k _ H0 H (aK.refl s) (.bl _)⟩
 ·cases e
theorem Ar:OpD (rI0 fun i j=>.bl (decide (i≤j))) Dm.gLe:=by
 intro H0 H x y dx dy z Q s rx ry e k
 unfold Dm.gLe at e
 split at e
 ·cases e;cases aA rx;cases aA ry
  exact ⟨_,_,rfl,rfl,k _ H0 H (aK.refl s) (.bl _)⟩
 ·cases e
theorem K_:OpD (rI0 fun i j=>.bl (decide (j<i))) Dm.gGt:=by
 intro H0 H x y dx dy z Q s rx ry e k
 unfold Dm.gGt at e
 split at e
 ·cases e;cases aA rx;cases aA ry
  exact ⟨_,_,rfl,rfl,k _ H0 H (aK.refl s) (.bl _)⟩
 ·cases e
theorem La:OpD (rI0 fun i j=>.bl (decide (j≤i))) Dm.gGe:=by
 intro H0 H x y dx dy z Q s rx ry e k
 unfold Dm.gGe at e
 split at e
 ·cases e;cases aA rx;cases aA ry
  exact ⟨_,_,rfl,rfl,k _ H0 H (aK.refl s) (.bl _)⟩
 ·cases e
theorem HL:OpD (rI (fun _ j=>0<j) fun i j=>.int (i % j)) Dm.iE:=by
 intro H0 H x y dx dy z Q s rx ry e k
 unfold Dm.iE at e
 split at e
 ·split at e
  ·rename_i hj
   cases e;cases aA rx;cases aA ry
   exact ⟨_,_,rfl,rfl,hj,k _ H0 H (aK.refl s) (.int _)⟩
  ·cases e
 ·cases e
theorem HM:OpD (rI Kz fun i j=>.int (i ^ j.toNat)) Dm.fZ:=by
 intro H0 H x y dx dy z Q s rx ry e k
 unfold Dm.fZ at e
 split at e
 ·split at e
  ·rename_i hj
   cases e;cases aA rx;cases aA ry
   exact ⟨_,_,rfl,rfl,⟨hj.1,hj.2.1,Nat.lt_trans hj.2.2 (by decide)⟩,k _ H0 H (aK.refl s) (.int _)⟩
  ·cases e
 ·cases e
section
variable {X:Cx}
noncomputable def FH (i j:Int):Prop:=0<j∧j<Dm.iD
theorem As:OpR X (binaryOp .FloorDiv) (rI FH fun i j=>.int (i / j)):=opI fun i j _ _ _ _ _ hc q=>by
 have h:j.natAbs.log2<9000:=by
  have h1:j.natAbs<2 ^ 200:=by
   have:=hc.2
   unfold Dm.iD at this
   have h2:=hc.1
   have e:(2:Nat) ^ 200=1606938044258990275541962092341162602522202993782792835301376:=by decide +kernel
   omega
  have h3:j.natAbs≠0:=by have:=hc.1;omega
  have:=(Nat.log2_lt h3).mpr h1
  omega
 have e:i.fdiv j=i / j:=Int.fdiv_eq_ediv_of_nonneg i (Int.le_of_lt hc.1)
 rw [← e] at q
 exact floordiv_int (Int.ne_of_gt hc.1) q (.inl (PyProof.noPylong_of_log2 h))
end
theorem HN:OpD (rI FH fun i j=>.int (i / j)) Dm.yL:=by
 intro H0 H x y dx dy z Q s rx ry e k
 unfold Dm.yL at e
 split at e
 ·split at e
  ·rename_i hj
   cases e;cases aA rx;cases aA ry
   exact ⟨_,_,rfl,rfl,hj,k _ H0 H (aK.refl s) (.int _)⟩
  ·cases e
 ·cases e
noncomputable def Au:R2:=fun x y H Q=>∃ l b xs zs,x=.ref l∧y=.ref b∧Rd H l (.lst xs)∧Rd H b (.lst zs)∧xs.length+zs.length≤sizeLine∧∀ p,H p=none→Q (.ref p) (upd H p (.lst (xs++zs)))
noncomputable def Av:R2:=fun x y H Q=>∃ l k xs,x=.ref l∧y=.int k∧Rd H l (.lst xs)∧-(2 ^ 63)≤k∧k<2 ^ 63∧xs.length*k.toNat≤sizeLine ∧
 ∀ p,H p=none→Q (.ref p) (upd H p (.lst (List.replicate k.toNat xs).flatten))
section
variable {X:Cx}
theorem DO:OpR X (binaryOp .Add) Au:=by
 intro pins s σ H x y v u Q I rx ry h
 obtain ⟨l,b,xs,zs,rfl,rfl,hH,hB,hz,q⟩:=h
 cases rx
 cases ry
 obtain ⟨z,its,n,r,e⟩:=hH.ok I.hok
 obtain ⟨z2,its2,n2,r2,e2⟩:=hB.ok I.hok
 have hl:=r.length
 have hl2:=r2.length
 refine PySem.P.add_list e e2 ?_ (by rw [List.size_toArray,List.size_toArray];omega)
 have ea:its.toArray++its2.toArray=(its++its2).toArray:=by simp
 rw [ea]
 exact ⟨.ref _,_,I.Hv (t':=s.toks) (r.append r2) (by rw [List.length_append];omega),rfl,q _ I.fresh⟩
theorem DP:OpR X (binaryOp .Mult) Av:=by
 intro pins s σ H x y v u Q I rx ry h
 obtain ⟨l,k,xs,rfl,rfl,hH,h1,h2,hz,q⟩:=h
 cases rx
 obtain ⟨t,rfl⟩:=ry
 obtain ⟨z,its,n,r,e⟩:=hH.ok I.hok
 have hl:=r.length
 have hlen:its.toArray.size*k.toNat≤sizeLine:=by rw [List.size_toArray,← hl];exact hz
 have hcap:¬ its.toArray.size*k.toNat>(2 ^ 63-1) / 8:=by
  have:(sizeLine:Nat)≤(2 ^ 63-1) / 8:=by decide
  omega
 have hfit:¬ (!Builtin.List.listFitsIndex k)=true:=by
  rw [fitsIndex_both h1 h2]
  exact Bool.false_ne_true
 have Lb:¬ Builtin.List.listTooLong (its.toArray.size*k.toNat)=true:=by
  rw [zX hlen]
  exact Bool.false_ne_true
 have hnew:List.foldl (fun x1 x2=>x1++x2) #[] (List.replicate (if its.toArray.isEmpty=true then 0 else k.toNat) its.toArray)=(List.replicate k.toNat its).flatten.toArray:=by
  have f0:∀ m:Nat,List.foldl (fun x1 x2=>x1++x2) #[] (List.replicate m its.toArray)=(List.replicate m its).flatten.toArray:=fun m=>by
   have:=foldl_rep its m []
   rw [List.nil_append] at this
   exact this
  rw [f0]
  cases its with
  | nil=>simp
  | cons a r'=>rw [if_neg (by simp)]
 refine wpAny_binaryOp_repeat_ref (T := "list") (U := "int") (by decide) ⟨_,e,rfl⟩ (fun s'=>typeIs_int s' k t) noFill_list_mul F.fills_int_mul F.slot_int_rmul repeat_list F.slot_int_index.lookup
  (call_meets F.slot_int_rmul (typeIs_int s k t) F.entry_int_rmul (F.args_int_rmul_2 _ _) (int___rmul___int_list k t l its.toArray n)
   ⟨e,rfl,⟨_,e,rfl⟩,call_meets F.slot_list_mul ⟨_,e,rfl⟩ F.entry_list_mul (F.args_list_mul_2 _ _) (AutoListH.list___mul___list_int_3 l its.toArray n k t hfit hcap Lb) ⟨e,?_⟩⟩)
 rw [hnew]
 exact ⟨.ref _,_,I.Hv (t':=s.toks) (r.rep k.toNat) (by rw [len_rep,Nat.mul_comm];exact hz),rfl,q _ I.fresh⟩
theorem DQ:OpR X (binaryOp .Add) (fun x y H Q=>rI0 (fun i j=>.int (i+j)) x y H Q∨Au x y H Q):=G5.or DO
theorem DR:OpR X (binaryOp .Mult) (fun x y H Q=>rI zP (fun i j=>.int (i*j)) x y H Q∨Av x y H Q):=G7.or DP
end
theorem HP:OpD (fun x y H Q=>rI0 (fun i j=>.int (i+j)) x y H Q∨Au x y H Q) Dm.cZ:=by
 intro H0 H x y dx dy z Q s rx ry e k
 unfold Dm.cZ at e
 split at e
 ·cases e;cases aA rx;cases aA ry
  exact .inl ⟨_,_,rfl,rfl,k _ H0 H (aK.refl s) (.int _)⟩
 ·split at e
  ·rename_i hz
   cases e
   obtain ⟨a,us,rfl,qa,ra⟩:=b8 s rx
   obtain ⟨b,ws,rfl,qb,rb⟩:=b8 s ry
   refine .inr ⟨a,b,us,ws,rfl,rfl,qa,qb,by rw [ra.length,rb.length];exact jQ hz,fun p hp=>?_⟩
   exact k _ _ _ (aK.mU s hp) ⟨p,rfl,hp,s.free hp,_,aq,ra.append rb⟩
  ·cases e
 ·cases e
theorem HQ:OpD (fun x y H Q=>rI zP (fun i j=>.int (i*j)) x y H Q∨Av x y H Q) Dm.iC:=by
 intro H0 H x y dx dy z Q s rx ry e k
 unfold Dm.iC at e
 split at e
 ·split at e
  ·rename_i hj
   cases e;cases aA rx;cases aA ry
   exact .inl ⟨_,_,rfl,rfl,hj,k _ H0 H (aK.refl s) (.int _)⟩
  ·cases e
 ·split at e
  ·rename_i hz
   cases e;cases aA ry
   obtain ⟨a,us,rfl,qa,ra⟩:=b8 s rx
   obtain ⟨h1,h2,h3⟩:=hz
   unfold Dm.BIG at h1 h2
   refine .inr ⟨a,_,us,rfl,rfl,qa,by omega,by omega,by rw [ra.length];exact jQ h3,fun p hp=>?_⟩
   exact k _ _ _ (aK.mU s hp) ⟨p,rfl,hp,s.free hp,_,aq,ra.rep _⟩
  ·cases e
 ·cases e
theorem FJ:OpD (DM false) Dm.gEq:=by
 intro H0 H x y dx dy z Q s rx ry e k
 unfold Dm.gEq at e
 split at e
 ·rename_i hk
  rw [Bool.and_eq_true] at hk
  cases e
  exact ⟨dx,dy,rx.full s,ry.full s,hk.1,hk.2,k _ H0 H (aK.refl s) (.bl _)⟩
 ·cases e
theorem FL:OpD (DM true) Dm.gNe:=by
 intro H0 H x y dx dy z Q s rx ry e k
 unfold Dm.gNe at e
 split at e
 ·rename_i hk
  rw [Bool.and_eq_true] at hk
  cases e
  exact ⟨dx,dy,rx.full s,ry.full s,hk.1,hk.2,k _ H0 H (aK.refl s) (.bl _)⟩
 ·cases e
theorem Aw:OpD (HJ true) Dm.kH:=by
 intro H0 H x y dx dy z Q s rx ry e k
 unfold Dm.kH at e
 split at e
 ·split at e
  ·rename_i hk
   rw [Bool.and_eq_true] at hk
   cases e
   exact ⟨dx,_,rx.full s,.inl (ry.full s),hk.1,hk.2,k _ H0 H (aK.refl s) (.bl _)⟩
  ·cases e
 ·split at e
  ·rename_i hk
   rw [Bool.and_eq_true] at hk
   cases e
   exact ⟨dx,_,rx.full s,.inr (ry.full s),hk.1,hk.2,k _ H0 H (aK.refl s) (.bl _)⟩
  ·cases e
 ·cases e
theorem xh {H0:Hp} {xs:List V} {ds:List Dm.Dat} {i:Int} {d:Dm.Dat} (rs:aC H0 xs ds) (e:Dm.atI ds i=some d):∃ v,L2.atI xs i=some v∧Rep H0 v d:=by
 unfold Dm.atI at e
 cases q:Dm.ixN ds.length i with
 | none=>rw [q] at e;cases e
 | some j=>
  rw [q] at e
  obtain ⟨v,hv,r⟩:=rs.get (i:=j) e
  refine ⟨v,?_,r⟩
  unfold L2.atI
  rw [rs.length]
  have q':L2.ixN ds.length i=some j:=q
  rw [q']
  exact hv
theorem Lc {K:PySem.W.Frag}:OpD (fun x y H Q=>Hq K x y H Q∨KD K x y H Q) Dm.gIx:=by
 intro H0 H x y dx dy z Q s rx ry e k
 unfold Dm.gIx at e
 split at e
 ·rename_i ds i
  cases q:Dm.atI ds i with
  | none=>rw [q] at e;cases e
  | some d=>
   rw [q] at e;cases e
   cases aA ry
   obtain ⟨a,us,rfl,qa,ra⟩:=b8 s rx
   obtain ⟨v,hv,rv⟩:=xh ra q
   exact .inl ⟨a,us,i,v,rfl,rfl,.inl qa,hv,k _ H0 H (aK.refl s) rv⟩
 ·rename_i ds i
  cases q:Dm.atI ds i with
  | none=>rw [q] at e;cases e
  | some d=>
   rw [q] at e;cases e
   cases aA ry
   obtain ⟨a,us,rfl,qa,ra⟩:=eT s rx
   obtain ⟨v,hv,rv⟩:=xh ra q
   exact .inr ⟨a,us,i,v,rfl,rfl,.inl (.inl qa),hv,k _ H0 H (aK.refl s) rv⟩
 ·cases e
theorem HR {K:PySem.W.Frag}:CallD (fun xs H Q=>∃ p ys,xs=[.ref p]∧(SqL K H p ys∨SqT K H p ys)∧Q (.int ys.length) H) Dm.f9:=by
 intro H0 H vs ds z Q s rs e k
 unfold Dm.f9 at e
 split at e
 ·cases e
  cases rs with
  | cons r rr=>
   cases rr
   obtain ⟨a,us,rfl,qa,ra⟩:=b8 s r
   exact ⟨a,us,rfl,.inl (.inl qa),k _ H0 H (aK.refl s) (by rw [ra.length];exact .int _)⟩
 ·cases e
  cases rs with
  | cons r rr=>
   cases rr
   obtain ⟨a,us,rfl,qa,ra⟩:=eT s r
   exact ⟨a,us,rfl,.inr (.inl (.inl qa)),k _ H0 H (aK.refl s) (by rw [ra.length];exact .int _)⟩
 ·cases e
theorem DU:CallD (fun xs H Q=>∃ i j,xs=[.int i,.int j]∧Q (.int (if j<i then j else i)) H) Dm.mT:=by
 intro H0 H vs ds z Q s rs e k
 unfold Dm.mT at e
 split at e
 ·cases e
  cases rs with
  | cons r rr=>
   cases rr with
   | cons r' rr=>
    cases rr
    cases aA r;cases aA r'
    exact ⟨_,_,rfl,k _ H0 H (aK.refl s) (.int _)⟩
 ·cases e
theorem DV:CallD (fun xs H Q=>∃ i j,xs=[.int i,.int j]∧Q (.int (if j>i then j else i)) H) Dm.pY:=by
 intro H0 H vs ds z Q s rs e k
 unfold Dm.pY at e
 split at e
 ·cases e
  cases rs with
  | cons r rr=>
   cases rr with
   | cons r' rr=>
    cases rr
    cases aA r;cases aA r'
    exact ⟨_,_,rfl,k _ H0 H (aK.refl s) (.int _)⟩
 ·cases e
theorem DX {K:PySem.W.Frag}:CallD (fun xs H Q=>∃ p ys,xs=[.ref p]∧(SqL K H p ys∨SqT K H p ys)∧∀ l,H l=none→Q (.ref l) (upd H l (.lst ys))) Dm.su:=by
 intro H0 H vs ds z Q s rs e k
 unfold Dm.su at e
 split at e
 ·cases e
  cases rs with
  | cons r rr=>
   cases rr
   obtain ⟨a,us,rfl,qa,ra⟩:=b8 s r
   exact ⟨a,us,rfl,.inl (.inl qa),fun p hp=>k _ _ _ (aK.mU s hp) ⟨p,rfl,hp,s.free hp,_,aq,ra⟩⟩
 ·cases e
  cases rs with
  | cons r rr=>
   cases rr
   obtain ⟨a,us,rfl,qa,ra⟩:=eT s r
   exact ⟨a,us,rfl,.inr (.inl (.inl qa)),fun p hp=>k _ _ _ (aK.mU s hp) ⟨p,rfl,hp,s.free hp,_,aq,ra⟩⟩
 ·cases e
theorem Ax {K:PySem.W.Frag}:CallD (fun xs H Q=>∃ p ys,xs=[.ref p]∧((SqL K H p ys∧∀ l,H l=none→Q (.ref l) (upd H l (.tup ys)))∨(SqT K H p ys∧Q (.ref p) H))) Dm.kI:=by
 intro H0 H vs ds z Q s rs e k
 unfold Dm.kI at e
 split at e
 ·cases e
  cases rs with
  | cons r rr=>
   cases rr
   obtain ⟨a,us,rfl,qa,ra⟩:=b8 s r
   refine ⟨a,us,rfl,.inl ⟨.inl qa,fun p hp=>?_⟩⟩
   have g:=aK.yM (o:=HO.tup us) s hp
   exact k _ _ _ g (.tup aq (ra.mono g.s0))
 ·cases e
  cases rs with
  | cons r rr=>
   cases rr
   rcases r with r | ⟨a,_,w⟩
   ·cases r with
    | tup q rs=>exact ⟨_,_,rfl,.inr ⟨.inl (.inl (s _ _ q)),k _ H0 H (aK.refl s) (.tup q rs)⟩⟩
   ·exact False.elim w
 ·cases e
noncomputable abbrev DS (X:Cx) (st:Stmt) (f:Dm.FS):Prop:=PS X st (tDS f)
noncomputable abbrev DSs (X:Cx) (st:List Stmt) (f:Dm.FS):Prop:=PSs X st (tDS f)
noncomputable abbrev DI (X:Cx) (tg it:Expr) (f:Dm.FI):Prop:=PI X tg it (tDI f)
theorem PI.weak {X:Cx} {tg it:Expr} {t t':TI} (h:PI X tg it t) (k:∀ σ H R,t' σ H R→t σ H R):PI X tg it t':=fun pins s σ H R I q=>h pins s σ H R I (k σ H R q)
section
variable {X:Cx} {a b c e:Expr} {fa fb fc f:Dm.FE} {pos:Pos}
theorem d_v (i:Nat) {x:Str} (hN:X.N[i]?=some x:=by rfl) (hv:Vis X.env.scope x:=by first | exact Or.inl rfl | exact Or.inr (Or.inl rfl) | exact Or.inr (Or.inr rfl)) (hd:(x == ("__debug__" : Str))=false:=by decide)
  (hcd:(x == ("__classdict__" : Str))=false:=by decide):DE X (.Name x pos) (Dm.eV i):=PE.weak (iz hN hv hd hcd) fun _ _ _=>KQ
theorem d_i {i:Int} {j}:DE X (.Constant (.int i) j pos) (Dm.eC (.int i)):=PE.weak GN fun _ _ _=>jP fun _=>.int i
theorem d_b {v:Bool} {j}:DE X (.Constant (.bool v) j pos) (Dm.eC (.bl v)):=PE.weak Ko fun _ _ _=>jP fun _=>.bl v
theorem d_n {j}:DE X (.Constant .none j pos) (Dm.eC .non):=PE.weak GO fun _ _ _=>jP fun _=>.non
theorem d_s {s:List Nat} {x:Str} {j} (hx:x=⟨s.toArray⟩:=by rfl):DE X (.Constant (.str x) j pos) (Dm.eC (.str s)):=by
 subst hx
 exact PE.weak GP fun _ _ _=>jP fun _=>.str s
theorem d_g {x:Str} {i:Int} {t:Tok} (hg:Gl X x) (hm:X.mg x=some (.int i t)) (hd:(x == ("__debug__" : Str))=false:=by decide):DE X (.Name x pos) (Dm.eC (.int i)):=
 PE.weak (qx (v:=.int i) hg hm ⟨t,rfl⟩ hd) fun _ _ _=>jP fun _=>.int i
theorem sG {op:Operator} {r:R2} {g:Dm.Dat→Dm.Dat→Option Dm.RV} (o:OpR X (binaryOp op) r) (od:OpD r g) (ha:DE X a fa) (hb:DE X b fb):DE X (.BinOp a op b pos) (Dm.e2 g fa fb):=
 PE.weak (Kw o ha hb) fun _ _ _=>ve od
theorem cy (ha:DE X a fa) (hb:DE X b fb):DE X (.BinOp a .Add b pos) (Dm.e2 Dm.cZ fa fb):=sG DQ HP ha hb
theorem h_ (ha:DE X a fa) (hb:DE X b fb):DE X (.BinOp a .Sub b pos) (Dm.e2 Dm.fR fa fb):=sG G6 HK ha hb
theorem ia (ha:DE X a fa) (hb:DE X b fb):DE X (.BinOp a .Mult b pos) (Dm.e2 Dm.iC fa fb):=sG DR HQ ha hb
theorem Ld (ha:DE X a fa) (hb:DE X b fb):DE X (.BinOp a .FloorDiv b pos) (Dm.e2 Dm.yL fa fb):=sG As HN ha hb
theorem ic (ha:DE X a fa) (hb:DE X b fb):DE X (.BinOp a .Mod b pos) (Dm.e2 Dm.iE fa fb):=sG G8 HL ha hb
theorem gg (ha:DE X a fa) (hb:DE X b fb):DE X (.BinOp a .Pow b pos) (Dm.e2 Dm.fZ fa fb):=sG G9 HM ha hb
theorem sH {op:CmpOp} {r:R2} {g:Dm.Dat→Dm.Dat→Option Dm.RV} (o:OpR X (compareOp op) r) (od:OpD r g) (ha:DE X a fa) (hb:DE X b fb) (hm:behindInMarks op b=false):DE X (.Compare a [op] [b] pos) (Dm.e2 g fa fb):=
 PE.weak (Dj o ha hb hm) fun _ _ _=>ve od
theorem p5 {op:CmpOp} {r:R2} {g:Dm.Dat→Dm.Dat→Option Dm.RV} (o:OpR X (compareOp op) r) (od:OpD r g) (ha:DE X a fa) (hb:DE X b fb) (hm:behindInMarks op b=false):DT X (.Compare a [op] [b] pos) (Dm.tV (Dm.e2 g fa fb)):=
 PT.weak (Dl o ha hb hm) fun σ H Q h=>ve od (qF h)
theorem HS {k:Nat} (hr:bB k X.A) (ha:DE X a fa) (hb:DE X b fb):DE X (.Compare a [.Eq] [b] pos) (Dm.e2 Dm.gEq fa fb):=sH (Ao hr) FJ ha hb (ez _)
theorem Nf {k:Nat} (hr:bB k X.A) (ha:DE X a fa) (hb:DE X b fb):DE X (.Compare a [.NotEq] [b] pos) (Dm.e2 Dm.gNe fa fb):=sH (Aq hr) FL ha hb (ez _)
theorem Ng (ha:DE X a fa) (hb:DE X b fb):DE X (.Compare a [.Lt] [b] pos) (Dm.e2 Dm.gLt fa fb):=sH Fv FG ha hb (ez _)
theorem Nh (ha:DE X a fa) (hb:DE X b fb):DE X (.Compare a [.LtE] [b] pos) (Dm.e2 Dm.gLe fa fb):=sH zQ Ar ha hb (ez _)
theorem Le {k:Nat} (hr:bB k X.A) (ha:DE X a fa) (hb:DE X b fb) (hm:behindInMarks .NotIn b=false:=by rfl):DE X (.Compare a [.NotIn] [b] pos) (Dm.e2 Dm.kH fa fb):=sH (yQ hr) Aw ha hb hm
theorem vh {k:Nat} (hr:bB k X.A) (ha:DE X a fa) (hb:DE X b fb):DT X (.Compare a [.Eq] [b] pos) (Dm.tV (Dm.e2 Dm.gEq fa fb)):=p5 (Ao hr) FJ ha hb (ez _)
theorem vj {k:Nat} (hr:bB k X.A) (ha:DE X a fa) (hb:DE X b fb):DT X (.Compare a [.NotEq] [b] pos) (Dm.tV (Dm.e2 Dm.gNe fa fb)):=p5 (Aq hr) FL ha hb (ez _)
theorem Lf (ha:DE X a fa) (hb:DE X b fb):DT X (.Compare a [.Lt] [b] pos) (Dm.tV (Dm.e2 Dm.gLt fa fb)):=p5 Fv FG ha hb (ez _)
theorem HU (ha:DE X a fa) (hb:DE X b fb):DT X (.Compare a [.Gt] [b] pos) (Dm.tV (Dm.e2 Dm.gGt fa fb)):=p5 KA K_ ha hb (ez _)
theorem Lg (ha:DE X a fa) (hb:DE X b fb):DT X (.Compare a [.GtE] [b] pos) (Dm.tV (Dm.e2 Dm.gGe fa fb)):=p5 KC La ha hb (ez _)
theorem bx (ha:DE X a fa) (hb:DE X b fb) (hs:qz b:=by intro _ _;rfl):DE X (.Subscript a b pos) (Dm.e2 Dm.gIx fa fb):=PE.weak (Fx (wR.or Hr) ha hb hs) fun _ _ _=>ve Lc
theorem af:DA X [] []:=PA.weak iA fun _ _ _=>KR
theorem aa {es:List Expr} {fs:List Dm.FE} (h:DE X e f) (r:DA X es fs) (hs:starEach (e::es) X.env=(false,eval e X.env)::starEach es X.env:=by rfl):DA X (e::es) (f::fs):=PA.weak (cS h r hs) fun _ _ _=>HB
theorem aY {es:List Expr} {fs:List Dm.FE} {x1} (h:DA X es fs):DE X (.Tuple es x1 pos) (Dm.bE fs):=PE.weak (zU h) fun _ _ _=>KS
theorem bf {es:List Expr} {fs:List Dm.FE} (h:DA X es fs):DE X (.List es pos) (Dm.bF fs):=PE.weak (zV h) fun _ _ _=>KU
theorem Ay {es:List Expr} {fs:List Dm.FE} {r:List V→Hp→VK→Prop} {g:List Dm.Dat→Option Dm.RV} {x:Str} {id:String} {p:Pos} (hc:dw X (.builtin id) r) (cd:CallD r g) (hv:bootBuiltins x=some (.builtin id)) (hg:Gl X x) (hm:X.mg x=none) (ha:DA X (e::es) fs)
  (hn:x ≠ "__name__" := by decide) (hdb:(x == ("__debug__" : Str))=false:=by decide) (he:starEach (e::es) X.env=(false,eval e X.env)::starEach es X.env:=by rfl) (hpl:(backTo pos (starEach es X.env)).any (·.1)=false:=by rfl) :
  DE X (.Call (.Name x p) (e::es) [] pos) (Dm.eB g fs):=PE.weak (fX hc hg hm hv ha hn hdb he hpl) fun _ _ _=>HC cd
theorem DY {es:List Expr} {fs:List Dm.FE} {r:List V→Hp→VK→Prop} {g:List Dm.Dat→Option Dm.RV} {x:Str} {T:String} {p:Pos} (hc:dw X (.type T) r) (cd:CallD r g) (hv:bootBuiltins x=some (.type T)) (hg:Gl X x) (hm:X.mg x=none) (ha:DA X (e::es) fs)
  (hn:x ≠ "__name__" := by decide) (hdb:(x == ("__debug__" : Str))=false:=by decide) (he:starEach (e::es) X.env=(false,eval e X.env)::starEach es X.env:=by rfl) (hpl:(backTo pos (starEach es X.env)).any (·.1)=false:=by rfl) :
  DE X (.Call (.Name x p) (e::es) [] pos) (Dm.eB g fs):=PE.weak (yD hc hg hm hv ha hn hdb he hpl) fun _ _ _=>HC cd
variable {es:List Expr} {fs:List Dm.FE} {p:Pos}
theorem jU (hg:Gl X "len") (hm:X.mg "len" = none) (ha:DA X [e] fs) (he:starEach [e] X.env=[(false,eval e X.env)]:=by rfl) (hpl:(backTo pos (starEach [] X.env)).any (·.1)=false:=by rfl):DE X (.Call (.Name "len" p) [e] [] pos) (Dm.eB Dm.f9 fs):=Ay qA HR PySem.boot_len hg hm ha (he:=he) (hpl:=hpl)
theorem vm (hc:X.calm=true) (hg:Gl X "min") (hm:X.mg "min" = none) (ha:DA X [a,b] fs) (he:starEach [a,b] X.env=(false,eval a X.env)::starEach [b] X.env:=by rfl) (hpl:(backTo pos (starEach [b] X.env)).any (·.1)=false:=by rfl):DE X (.Call (.Name "min" p) [a,b] [] pos) (Dm.eB Dm.mT fs):=Ay (yu hc) DU (by rfl) hg hm ha (he:=he) (hpl:=hpl)
theorem Az (hc:X.calm=true) (hg:Gl X "max") (hm:X.mg "max" = none) (ha:DA X [a,b] fs) (he:starEach [a,b] X.env=(false,eval a X.env)::starEach [b] X.env:=by rfl) (hpl:(backTo pos (starEach [b] X.env)).any (·.1)=false:=by rfl):DE X (.Call (.Name "max" p) [a,b] [] pos) (Dm.eB Dm.pY fs):=Ay (yt hc) DV (by rfl) hg hm ha (he:=he) (hpl:=hpl)
theorem HV (hg:Gl X "list") (hm:X.mg "list" = none) (ha:DA X [e] fs) (he:starEach [e] X.env=[(false,eval e X.env)]:=by rfl) (hpl:(backTo pos (starEach [] X.env)).any (·.1)=false:=by rfl):DE X (.Call (.Name "list" p) [e] [] pos) (Dm.eB Dm.su fs):=DY qB DX (by rfl) hg hm ha (he:=he) (hpl:=hpl)
theorem xj (hg:Gl X "tuple") (hm:X.mg "tuple" = none) (ha:DA X [e] fs) (he:starEach [e] X.env=[(false,eval e X.env)]:=by rfl) (hpl:(backTo pos (starEach [] X.env)).any (·.1)=false:=by rfl):DE X (.Call (.Name "tuple" p) [e] [] pos) (Dm.eB Dm.kI fs):=DY pG Ax (by rfl) hg hm ha (he:=he) (hpl:=hpl)
theorem aG {k:Nat} {F:Addr} {fd:FuncData} {ps:List Str} {g:List Dm.Dat→Option Dm.RV} {x:Str} (G:aR X.prog X.w X.K X.mg X.base CX0 k F fd ps (spD g)) (hr:bB k X.A) (hg:Gl X x) (hm:X.mg x=some (.ref F)) (hk:PySem.W.keepIn X.K (.ref F)=true) (hb:Binds X.K fd ps [])
  (ha:DA X (e::es) fs) (hdb:(x == ("__debug__" : Str))=false:=by decide) (he:starEach (e::es) X.env=(false,eval e X.env)::starEach es X.env:=by rfl) (hpl:(backTo pos (starEach es X.env)).any (·.1)=false:=by rfl) :
  DE X (.Call (.Name x p) (e::es) [] pos) (Dm.eF g fs):=PE.weak (jK G hr hg hm hk hb .nil (se (X:=X)) ha hdb he hpl) fun _ _ _=>Ah
theorem Ni {t:Dm.FT} {q:Expr} (hq:DT X q t) (ha:DE X a fa) (hb:DE X b fb):DE X (.IfExp q a b pos) (Dm.eIf t fa fb):=PE.weak (zC hq ha hb) fun _ _ _=>M5
theorem p6 {op} (h:DE X a fa):DE X (.BoolOp op [a] pos) fa:=GS h
theorem m6 {rest:List Expr} (ha:DE X a fa) (hb:DE X (.BoolOp .And (b::rest) pos) fb):DE X (.BoolOp .And (a::b::rest) pos) (Dm.jN fa fb):=PE.weak (GU ha hb) fun _ _ _=>KW
theorem Nj {rest:List Expr} (ha:DE X a fa) (hb:DE X (.BoolOp .Or (b::rest) pos) fb):DE X (.BoolOp .Or (a::b::rest) pos) (Dm.eOr fa fb):=PE.weak (Kr ha hb) fun _ _ _=>M6
theorem Lh (ha:DE X a fa):DE X (.UnaryOp .Not a pos) (Dm.yK fa):=PE.weak (GV ha) fun _ _ _=>KY
noncomputable abbrev DW (X:Cx) (e:Expr) (f:Dm.FT):Prop:=PW X e (tDT f)
theorem PW.weak {t t':TT} (h:PW X e t) (k:∀ σ H Q,t' σ H Q→t σ H Q):PW X e t':=fun whole pins s σ H Q I q=>h whole pins s σ H Q I (k σ H Q q)
variable {ta tb:Dm.FT}
theorem HW (h:DT X a ta):DW X (.BoolOp .And [a] pos) ta:=pw_and1 h
theorem xm (h:DT X a ta):DW X (.BoolOp .Or [a] pos) ta:=pw_or1 h
theorem w_and {rest:List Expr} (ha:DT X a ta) (hb:DW X (.BoolOp .And (b::rest) pos) tb):DW X (.BoolOp .And (a::b::rest) pos) (Dm.pC ta tb):=PW.weak (pw_and ha hb) fun _ _ _=>HE
theorem w_or {rest:List Expr} (ha:DT X a ta) (hb:DW X (.BoolOp .Or (b::rest) pos) tb):DW X (.BoolOp .Or (a::b::rest) pos) (Dm.tOr ta tb):=PW.weak (pw_or ha hb) fun _ _ _=>KZ
theorem t_w (h:DW X a ta):DT X a ta:=h.pt
theorem fK (h:DT X a ta):DT X (.UnaryOp .Not a pos) (Dm.d8 ta):=PT.weak (GR h) fun _ _ _=>HD
theorem fL (h:DE X e f) (he:∀ whole,isTrue e X.env whole=(do let v ← whole;standAt e.pos;holding [v] (truthy v)):=by intro _;rfl):DT X e (Dm.tV f):=PT.weak (GQ h he) fun _ _ _=>qF
variable {tg:Expr}
theorem vn (hg:Gl X "range") (hm:X.mg "range" = none) (ha:DA X [a] [fa]) (hs:starEach [a] X.env=[(false,eval a X.env)]:=by rfl):DI X tg (.Call (.Name "range" p) [a] [] pos) (Dm.iR1 fa):=
 PI.weak (yp hg hm ha hs) fun _ _ _=>K6
theorem Nk (hg:Gl X "range") (hm:X.mg "range" = none) (ha:DA X [a,b] [fa,fb]) (hs:starEach [a,b] X.env=[(false,eval a X.env),(false,eval b X.env)]:=by rfl) (hs2:starEach [b] X.env=[(false,eval b X.env)]:=by rfl):DI X tg (.Call (.Name "range" p) [a,b] [] pos) (Dm.iR2 fa fb):=
 PI.weak (yq hg hm ha hs hs2) fun _ _ _=>K7
end
section
variable {X:Cx} {st:Stmt} {rest:List Stmt} {fs gs:Dm.FS} {e a b c:Expr} {f fa fb:Dm.FE} {pos:Pos}
theorem dc:DSs X [] Dm.sNx:=PSs.weak wI fun _ _ _=>M7
theorem ai (h1:DS X st fs) (h2:DSs X rest gs):DSs X (st::rest) (Dm.aD fs gs):=PSs.weak (fW h1 h2) fun _ _ _=>K0
theorem av (h1:DS X st fs):DSs X [st] fs:=wJ h1
theorem s_a (i:Nat) {x:Str} {pos':Pos} (hN:X.N.Nodup) (he:DE X e f) (hi:X.N[i]?=some x:=by rfl) (hx:Loc X.env.scope x:=by first | exact Or.inl rfl | exact Or.inr rfl) (hs:swapsWith e (some (.Name x pos')) pos.line X.env=pure false:=by rfl)
  (hf:X.fn x=true∨X.env.scope.names.lookup x=some .local:=by first | exact .inl rfl | exact .inr rfl | assumption):DS X (.Assign [.Name x pos'] e pos) (Dm.sA i f):=PS.weak (G1 hN hi hx he hs hf) fun _ _ _=>FF
theorem gh:PGs X [] (eE []):=Dh
theorem bu {es:List Expr} {is:List Nat} (i:Nat) {x:Str} {px:Pos} (hN:X.N.Nodup) (h2:PGs X es (eE is)) (hi:X.N[i]?=some x:=by rfl) (hx:Loc X.env.scope x:=by first | exact Or.inl rfl | exact Or.inr rfl)
  (hf:X.fn x=true∨X.env.scope.names.lookup x=some .local:=by first | exact .inl rfl | exact .inr rfl | assumption) (hs:(assignEach (.Name x px::es) X.env).map (·.2)=assign (.Name x px) X.env::(assignEach es X.env).map (·.2):=by rfl):PGs X (.Name x px::es) (eE (i::is)):=zI (qy hN hi hx hf) h2 hs
theorem s_u {is:List Nat} {es:List Expr} {k:Nat} {tpos:Pos} (hc:X.calm=true) (hg:PGs X es (eE is)) (he:DE X e f) (hn:(assignEach es X.env).length=is.length:=by rfl) (hst:(assignEach es X.env).findIdx? (·.1)=none:=by rfl)
  (hs:swapsWithSole [.Tuple es k tpos] e pos.line X.env=pure false:=by rfl) (hw:swappedStores [.Tuple es k tpos] e X.env=pure none:=by rfl) (h1:(assignEach [.Tuple es k tpos] X.env).map (·.2)=[assign (.Tuple es k tpos) X.env]:=by rfl) :
  DS X (.Assign [.Tuple es k tpos] e pos) (Dm.sU is f):=PS.weak (zJ he (uW hc hg hn hst) hs hw h1) fun _ _ _=>Ak rfl
theorem s_e (he:DE X e f) (hs:swapsWith e none pos.line X.env=pure false:=by rfl):DS X (.Expr e pos) (Dm.sE f):=PS.weak (mh he hs) fun _ _ _=>HF
theorem s_r (he:DE X e f):DS X (.Return (some e) pos) (Dm.sR f):=PS.weak (zF he) fun _ _ _=>K1
theorem eU {t:Dm.FT} {x y:List Stmt} (ht:DT X c t) (ha:DSs X x fs) (hb:DSs X y gs):DS X (.If c x y pos) (Dm.sIf t fs gs):=PS.weak (zG ht ha hb) fun _ _ _=>K2
theorem qL:DS X st (fun _=>none):=PS.weak zH fun _ _ _ ⟨_,_,_,_,z,_⟩=>by cases z
theorem xo (i:Nat) {x:Str} {px ap cp:Pos} (he:DE X e f) (hi:X.N[i]?=some x:=by rfl) (hv:Vis X.env.scope x:=by first | exact Or.inl rfl | exact Or.inr (Or.inl rfl) | exact Or.inr (Or.inr rfl)) (hd:(x == ("__debug__" : Str))=false:=by decide)
  (hcd:(x == ("__classdict__" : Str))=false:=by decide) (hbase:attributeBase (.Name x px) "append" X.env (eval (.Name x px) X.env)=eval (.Name x px) X.env:=by rfl)
  (hfew:((backTo cp (starEach [e] X.env)).all (fun x=>!x.1)&&(backToKw cp (keywordEach [] X.env)).all (fun x=>x.1.isSome)
   && decide ([e].length+([]:List Keyword).length+(if ([]:List Keyword).isEmpty then 0 else 1)<30))=true:=by rfl)
  (hline:(ap.endLine == cp.line)=true:=by rfl) (hs:starEach [e] X.env=(false,eval e X.env)::starEach [] X.env:=by rfl) (hplain:(backTo cp (starEach [] X.env)).any (·.1)=false:=by rfl)
  (hsw:swapsWith (.Call (.Attribute (.Name x px) "append" ap) [e] [] cp) none pos.line X.env=pure false:=by rfl) :
  DS X (.Expr (.Call (.Attribute (.Name x px) "append" ap) [e] [] cp) pos) (Dm.qE i f):=
 PS.weak (mh (zW PySem.F.plainAttrs_list PySem.F.slot_list_append PySem.F.type_list_append kD (iz hi hv hd hcd) (aa he af hs) hbase hfew hline hs hplain) hsw) fun _ _ _=>K3
theorem FO (i:Nat) {x:Str} {j:Expr} {fj:Dm.FE} {px sp:Pos} (hj:DE X j fj) (he:DE X e f) (hi:X.N[i]?=some x:=by rfl) (hv:Vis X.env.scope x:=by first | exact Or.inl rfl | exact Or.inr (Or.inl rfl) | exact Or.inr (Or.inr rfl)) (hd:(x == ("__debug__" : Str))=false:=by decide)
  (hcd:(x == ("__classdict__" : Str))=false:=by decide) (ha:∀ v,assign (.Subscript (.Name x px) j sp) X.env v=(do
   let ov ← holding [v] (eval (.Name x px) X.env)
   let iv ← holding [v,ov] (eval j X.env)
   standAt sp
   holding [v,ov,iv] (setItem ov iv v)
   release [v,ov,iv] []):=by intro _;rfl)
  (hs:swapsWithSole [.Subscript (.Name x px) j sp] e pos.line X.env=pure false:=by rfl) (hw:swappedStores [.Subscript (.Name x px) j sp] e X.env=pure none:=by rfl) (h1:(assignEach [.Subscript (.Name x px) j sp] X.env).map (·.2)=[assign (.Subscript (.Name x px) j sp) X.env]:=by rfl) :
  DS X (.Assign [.Subscript (.Name x px) j sp] e pos) (Dm.u_ i fj f):=PS.weak (zJ he (G0 (iz hi hv hd hcd) hj set_list ha) hs hw h1) fun _ _ _=>K4
theorem Li (n:Nat) {t:Dm.FT} {body:List Stmt} (hp:PassesOwn (model X.prog X.w) X.A X.env X.xe) (ht:DT X c t) (hb:DSs X body fs):DS X (.While c body [] pos) (Dm.whD t fs n):=PS.weak (zL hp ht hb) fun _ _ _=>DH
structure TG' (X:Cx) (tg:Expr) (is:List Nat) (bd:Dm.FB):Prop where
 ex:∃ g,PG X tg g∧BD is g bd
theorem g_n (i:Nat) {x:Str} {px:Pos} (hN:X.N.Nodup) (hi:X.N[i]?=some x:=by rfl) (hx:Loc X.env.scope x:=by first | exact Or.inl rfl | exact Or.inr rfl) (hf:X.fn x=true∨X.env.scope.names.lookup x=some .local:=by first | exact .inl rfl | exact .inr rfl | assumption) :
  TG' X (.Name x px) [i] (Dm.bN i):=⟨⟨_,qy hN hi hx hf,wY i⟩⟩
theorem g_t {is:List Nat} {es:List Expr} {k:Nat} {tpos:Pos} (hc:X.calm=true) (hg:PGs X es (eE is)) (hn:(assignEach es X.env).length=is.length:=by rfl) (hst:(assignEach es X.env).findIdx? (·.1)=none:=by rfl):TG' X (.Tuple es k tpos) is (Dm.bT is):=
 ⟨⟨_,uW hc hg hn hst,Al is rfl⟩⟩
theorem gj {tg it:Expr} {fi:Dm.FI} {is:List Nat} {bd:Dm.FB} {body:List Stmt} (hp:PassesOwn (model X.prog X.w) X.A X.env X.xe) (hc:X.calm=true) (hi:DI X tg it fi) (hg:TG' X tg is bd) (hb:DSs X body fs)
  (hs:∀ x,foldedSetIterable it X.env x=pure x:=by intro _;rfl):DS X (.For tg it body [] pos) (Dm.g8 fi bd fs):=by
 obtain ⟨g,h1,h2⟩:=hg.ex
 exact PS.weak (zO hp hc hi h1 hb hs) fun _ _ _=>K5 h2
end
noncomputable def tyName:Dm.Dat→String
 | .non => "NoneType"
 | .bl _ => "bool"
 | .int _ => "int"
 | .str _ => "str"
 | .tup _ => "tuple"
 | .lst _ => "list"
 | .dct _ _ => "dict"
 | .exc _ => "dict"
 | .fn _ => "dict"
noncomputable def yR (T:String) (p:Dm.Dat→Bool):Prop:=∀ (K:PySem.W.Frag) (d:Dm.Dat),PySem.W.kitOne K (.type (tyName d)) (.type T)=some (p d)
theorem DZ:yR "int" Dm.isI:=fun K d=>by cases d<;>rfl
theorem AA:yR "bool" Dm.isB:=fun K d=>by cases d<;>rfl
theorem AB:yR "list" Dm.isL:=fun K d=>by cases d<;>rfl
theorem kit_tuple:yR "tuple" Dm.isT:=fun K d=>by cases d<;>rfl
theorem AD {K:PySem.W.Frag} {H:Hp} {v:V} {d:Dm.Dat} (r:Rep H v d) (nx:∀ C,d≠.exc C∧d≠.fn C):jJ K H v (.type (tyName d)):=by
 cases r with
 | non=>exact .non
 | bl b=>exact .bl b
 | int i=>exact .int i
 | str s=>exact .str _
 | tup q _=>exact .tup q
 | lst q _=>
  rcases q with q | ⟨o,q⟩
  ·exact .lst q
  ·exact .frz q
 | dct q _ _=>exact .dK q
 | exc _=>exact absurd rfl (nx _).1
 | fn _=>exact absurd rfl (nx _).2
noncomputable def Lj (K:PySem.W.Frag) (T:String):List V→Hp→VK→Prop:=fun xs H Q=>∃ x t b,xs=[x,.ty T]∧jJ K H x t∧PySem.W.kitOne K t (.type T)=some b∧Q (.bl b) H
section
variable {X:Cx} {e:Expr} {f:Dm.FE} {p p2 pos:Pos}
theorem AE {T:String}:dw X (.builtin "isinstance") (Lj X.K T):=by
 intro pins s σ H xs us Q I r h
 obtain ⟨x,t,b,rfl,ty,e,q⟩:=h
 obtain ⟨u,u2,rfl,rx,ry⟩:=vals2 r
 cases ry
 exact yz I rx ty e fun tk=>⟨.bl b,H,I.tok tk,rfl,q⟩
theorem Lk {K:PySem.W.Frag} {T:String} {p:Dm.Dat→Bool} (kp:yR T p) {σ:L2.St} {H:Hp} {Q:VK} (h:tD (Dm.e1 (Dm.pH p) f) σ H Q):tCB (Lj K T) (k_ (tD f) (k_ (tC (.ty T)) u6)) σ H Q:=by
 obtain ⟨H0,ρ,x,ρ',st,e,k⟩:=h
 unfold Dm.e1 at e
 split at e
 ·cases e
 rename_i x1 ρ1 e1
 split at e
 ·cases e
 rename_i dx p1
 have nx:∀ C,dx≠.exc C∧dx≠.fn C:=fun C=>⟨fun z=>(by subst z;cases e),fun z=>(by subst z;cases e)⟩
 have ev:Dm.pH p dx=Dm.vB (p dx):=by cases dx<;>first | rfl | exact absurd rfl (nx _).1 | exact absurd rfl (nx _).2
 rw [ev] at e
 dsimp only at e
 cases e
 refine ⟨H0,ρ,x1,_,st,e1,fun v H1 Hb t1 r1=>?_⟩
 exact ⟨v,_,_,rfl,AD ((r1.look t1.st p1).full t1.st.same) nx,kp K dx,k _ H1 Hb t1 (Rep.bl _)⟩
theorem sI {T:String} {tn:Str} {p':Dm.Dat→Bool} (kp:yR T p') (hvT:bootBuiltins tn=some (.type T)) (hgT:Gl X tn) (hmT:X.mg tn=none) (hg:Gl X "isinstance") (hm:X.mg "isinstance" = none) (h:DE X e f)
  (hn:tn ≠ "__name__" := by decide) (hdb:(tn == ("__debug__" : Str))=false:=by decide)
  (he:starEach [e,.Name tn p2] X.env=(false,eval e X.env)::starEach [.Name tn p2] X.env:=by rfl) (hpl:(backTo pos (starEach [.Name tn p2] X.env)).any (·.1)=false:=by rfl) (he2:starEach [.Name tn p2] X.env=(false,eval (.Name tn p2) X.env)::starEach [] X.env:=by rfl) :
  DE X (.Call (.Name "isinstance" p) [e,.Name tn p2] [] pos) (Dm.e1 (Dm.pH p') f):=
 PE.weak (fX AE hg hm PyProof.Rows.boot_isinstance (cS h (cS (wH (v:=.ty T) hgT hmT hvT rfl hn hdb) iA he2) he) (he:=he) (hpl:=hpl)) fun _ _ _=>Lk kp
theorem all_range (bs:List Bool):(List.range bs.length).all (fun i=>bs.getD i true)=bs.all id:=by
 rw [Bool.eq_iff_iff,List.all_eq_true,List.all_eq_true]
 constructor
 ·intro h b hb
  obtain ⟨i,hi,rfl⟩:=List.mem_iff_getElem.mp hb
  have:=h i (List.mem_range.mpr hi)
  rw [List.getD_eq_getElem?_getD,List.getElem?_eq_getElem hi] at this
  exact this
 ·intro h i hi
  have hi:=List.mem_range.mp hi
  rw [List.getD_eq_getElem?_getD,List.getElem?_eq_getElem hi]
  exact h _ (List.getElem_mem hi)
theorem yS (hc:X.calm=true):dw X (.builtin "all") (fun xs H Q=>∃ (a:Addr) (bs:List Bool),xs=[.ref a]∧Rd H a (.lst (bs.map V.bl))∧Q (.bl (bs.all id)) H):=by
 intro pins s σ H xs us Q I r h
 obtain ⟨a,bs,rfl,hq,q⟩:=h
 obtain ⟨u,rfl,rx⟩:=vals1 r
 cases rx
 obtain ⟨z,its,n,rv,e⟩:=hq.ok I.hok
 have hl:s.heap.IsList a its.toArray:=⟨_,e,rfl,_,rfl⟩
 have hlen:=rv.length
 rw [List.length_map] at hlen
 have hax:a≠s.heap.objs.size:=Nat.ne_of_lt (Heap.lt_size e)
 refine PySem.call_all_walk (wpAny_pyIter_list hl ⟨s.heap.objs.size,_,_,_,_,_,fun i=>bs.getD i true,rfl,Walks.list (A:=X.A.in1) (I.ok.hd hc) s.heap.objs.size a hax its.toArray,⟨⟨_,Heap.get?_push_size _ rfl,rfl,rfl⟩,hl.push _⟩,?_,fun h' tk hk=>?_⟩)
 ·intro i v s' Q' E' hv hQ'
  have hv':its[i]?=some v:=by simpa using hv
  have hi:i<bs.length:=by rw [hlen];exact (List.getElem?_eq_some_iff.mp hv').1
  have hb:(bs.map V.bl)[i]?=some (V.bl bs[i]):=by rw [List.getElem?_map,List.getElem?_eq_getElem hi];rfl
  obtain ⟨u,hu,ru⟩:=rv.get hb
  rw [hv'] at hu
  cases hu
  cases ru
  refine wpAny_truthy_bool ?_
  have e2:bs.getD i true=bs[i]:=by rw [List.getD_eq_getElem?_getD,List.getElem?_eq_getElem hi];rfl
  rw [← e2]
  exact hQ'
 ·have e1:its.toArray.size=bs.length:=by rw [List.size_toArray,hlen]
  rw [e1,all_range]
  refine ⟨.bl _,H,I.kept (t':=tk) fun b o eb=>hk b o ?_ (Heap.get?_push_of_some _ eb),rfl,q⟩
  intro hm
  have:b=s.heap.objs.size:=by simpa using hm
  exact absurd (Heap.lt_size eb) (by rw [this];exact Nat.lt_irrefl _)
end
section
variable {X:Cx} {a b c e:Expr} {f fa fb fc:Dm.FE} {p p2 pos:Pos}
theorem D0 {r r':R2} {g h:Dm.Dat→Dm.Dat→Option Dm.RV} (o1:OpD r g) (o2:OpD r' h) {σ:L2.St} {H:Hp} {Q:VK} (hh:tD (Dm.iF g h fa fb fc) σ H Q):zR r r' (tD fa) (tD fb) (tD fc) σ H Q:=by
 obtain ⟨H0,ρ,x,ρ',st,e,k⟩:=hh
 unfold Dm.iF at e
 split at e
 ·cases e
 rename_i x1 ρ1 e1
 split at e
 ·cases e
 rename_i y1 ρ2 e2
 split at e
 ·cases e
 rename_i dx p1
 split at e
 ·cases e
 rename_i dy p2
 refine ⟨H0,ρ,x1,ρ1,st,e1,fun v H1 Hb t1 r1=>⟨H1,ρ1,y1,ρ2,t1.st,e2,fun u H2 Hc t2 r2=>?_⟩⟩
 split at e
 ·rename_i gz
  refine o1 H2 Hc v u dx dy _ _ t2.st.same ((r1.mono t2).look t2.st p1) (r2.look t2.st p2) gz fun w H3 Hd g3 r3=>?_
  refine ⟨true,Rep.mW r3,?_⟩
  rw [if_pos rfl]
  have t3:=t2.trans (.grow t2.st g3)
  have r2':=r2.mono (.grow t2.st g3)
  split at e
  ·cases e
  rename_i z ρ3 e3
  split at e
  ·cases e
  rename_i dy' p3
  split at e
  ·cases e
  rename_i dz p4
  split at e
  ·cases e
  rename_i w2 hz
  cases e
  refine ⟨H3,ρ2,z,_,t3.st,e3,fun w' H4 He t4 r4=>?_⟩
  refine o2 H4 He u w' dy' dz w2 Q t4.st.same ((r2'.mono t4).look t4.st p3) (r4.look t4.st p4) hz fun w5 H5 Hf g5 r5=>?_
  exact k w5 H5 Hf (t1.trans (t3.trans (t4.trans (.grow t4.st g5)))) ((r5.toV t4.st).early fun a n=>(t1.trans (t3.trans t4)).stp.gone n)
 ·rename_i gz
  cases e
  refine o1 H2 Hc v u dx dy _ _ t2.st.same ((r1.mono t2).look t2.st p1) (r2.look t2.st p2) gz fun w H3 Hd g3 r3=>?_
  refine ⟨false,Rep.mW r3,?_⟩
  rw [if_neg Bool.false_ne_true]
  exact k _ H3 Hd (t1.trans (t2.trans (.grow t2.st g3))) (Rep.bl false)
 ·cases e
theorem D3 {op op':CmpOp} {r r':R2} {g h:Dm.Dat→Dm.Dat→Option Dm.RV} (o1:OpR X (compareOp op) r) (q1:OpD r g) (o2:OpR X (compareOp op') r') (q2:OpD r' h) (ha:DE X a fa) (hb:DE X b fb) (hc:DE X c fc)
  (hm:lastMarks [op,op'] [b,c]=false:=by with_unfolding_all rfl):DE X (.Compare a [op,op'] [b,c] pos) (Dm.iF g h fa fb fc):=PE.weak (zS o1 o2 ha hb hc hm) fun _ _ _=>D0 q1 q2
end
section
variable {X:Cx} {nm:List Str} {elt tg iter:Expr} {ifs:List Expr} {scope:Scope} {pos:Pos} {own:List Str} {fi:Dm.FI} {bd:Dm.FB} {is:List Nat} {t:Dm.FT} {f:Dm.FE}
noncomputable abbrev DTs (X:Cx) (ifs:List Expr) (t:Dm.FT):Prop:=PTs X ifs (tDT t)
theorem gk:DTs X [] Dm.fJ:=fun pins s σ H Q I h=>by
 obtain ⟨H0,ρ,b,ρ',st,e,k⟩:=h
 cases e
 exact wZ pins s σ H Q I (k H0 H (.refl st))
theorem qM {c:Expr} (h:DT X c t):DTs X [c] t:=DL h
structure TGc (X:Cx) (nm:List Str) (scope:Scope) (own:List Str) (tg:Expr) (is:List Nat) (bd:Dm.FB):Prop where
 ex:∃ g,(∀ cl C s H fp,PG (bw X nm scope own cl C s H fp) tg g)∧BD is g bd
theorem c_n (i:Nat) {x:Str} {px:Pos} (hN:(nm++own).Nodup) (hi:(nm++own)[i]?=some x) (hx:(relabel scope X.env).names.lookup x=some .local):TGc X nm scope own (.Name x px) [i] (Dm.bN i):=
 ⟨⟨_,fun cl C s H fp=>qy (X:=bw X nm scope own cl C s H fp) hN hi (.inl hx) (.inr hx),wY i⟩⟩
theorem c_t {es:List Expr} {k:Nat} {tpos:Pos} (hc:X.calm=true) (hg:∀ cl C s H fp,PGs (bw X nm scope own cl C s H fp) es (eE is)) (hn:∀ cl C,(assignEach es (compEnvC scope cl C X.env)).length=is.length:=by intro _ _;rfl)
  (hst:∀ cl C,(assignEach es (compEnvC scope cl C X.env)).findIdx? (·.1)=none:=by intro _ _;rfl):TGc X nm scope own (.Tuple es k tpos) is (Dm.bT is):=
 ⟨⟨_,fun cl C s H fp=>uW (X:=bw X nm scope own cl C s H fp) hc (hg cl C s H fp) (hn cl C) (hst cl C),Al is rfl⟩⟩
theorem HX (hc:X.calm=true) (S:dX X nm scope) (hi:DI X tg iter fi) (hg:TGc X nm scope own tg is bd) (ht:∀ cl C s H fp,DTs (bw X nm scope own cl C s H fp) ifs t) (he:∀ cl C s H fp,DE (bw X nm scope own cl C s H fp) elt f)
  (hl:∀ i∈is,X.N.length≤i) (hs:∀ x,foldedSetIterable iter X.env x=pure x:=by intro _;rfl):DE X (.ListComp elt [⟨tg,iter,ifs,0⟩] scope pos) (Dm.cK fi own.length bd t f):=by
 obtain ⟨g,h1,h2⟩:=hg.ex
 intro pins s σ H Q I h
 exact w_ hc S hi h1 ht he hs pins s σ H Q I (vg h2 (fun i hi=>by rw [I.len];exact hl i hi) h)
theorem HY (j:Nat) {y:Str} {py spos:Pos} (hN:X.N.Nodup) (hc:X.calm=true) (S:dX X nm scope) (hi:DI X tg iter fi) (hg:TGc X nm scope own tg is bd) (ht:∀ cl C s H fp,DTs (bw X nm scope own cl C s H fp) ifs t) (he:∀ cl C s H fp,DE (bw X nm scope own cl C s H fp) elt f)
  (hl:∀ i∈is,X.N.length≤i) (hj:X.N[j]?=some y:=by rfl) (hy:Loc X.env.scope y:=by first | exact Or.inl rfl | exact Or.inr rfl)
  (hsw:swapsWith (.ListComp elt [⟨tg,iter,ifs,0⟩] scope pos) (some (.Name y py)) spos.line X.env=pure true:=by rfl) (hs:∀ x,foldedSetIterable iter X.env x=pure x:=by intro _;rfl)
  (hf:X.fn y=true∨X.env.scope.names.lookup y=some .local:=by first | exact .inl rfl | exact .inr rfl | assumption):DS X (.Assign [.Name y py] (.ListComp elt [⟨tg,iter,ifs,0⟩] scope pos) spos) (Dm.sA j (Dm.cK fi own.length bd t f)):=by
 obtain ⟨g,h1,h2⟩:=hg.ex
 intro pins s σ H D I h
 exact lz hN hj hy hc S hi h1 ht he hsw hs hf pins s σ H D I (vg h2 (fun i hi=>by rw [I.len];exact hl i hi) (FF h))
end
theorem m7 {H0:Hp}:∀ {ds:List Dm.Dat} {bs:List Bool} {vs:List V},aC H0 vs ds→Dm.bools ds=some bs→vs=bs.map V.bl
 | [],bs,vs,r,e=>by cases r;cases e;rfl
 | .bl b::ds,bs,vs,r,e=>by
  cases r with
  | cons r rs=>
   unfold Dm.bools at e
   cases q:Dm.bools ds with
   | none=>rw [q] at e;cases e
   | some cs=>
    rw [q] at e
    cases e
    cases Rep.mW r
    rw [m7 rs q]
    rfl
 | .non::ds,bs,vs,r,e=>by cases e
 | .int _::ds,bs,vs,r,e=>by cases e
 | .str _::ds,bs,vs,r,e=>by cases e
 | .tup _::ds,bs,vs,r,e=>by cases e
 | .lst _::ds,bs,vs,r,e=>by cases e
 | .dct _ _::ds,bs,vs,r,e=>by cases e
theorem HZ:CallD (fun xs H Q=>∃ (a:Addr) (bs:List Bool),xs=[.ref a]∧Rd H a (.lst (bs.map V.bl))∧Q (.bl (bs.all id)) H) Dm.vc:=by
 intro H0 H vs ds z Q s rs e k
 unfold Dm.vc at e
 split at e
 ·split at e
  ·rename_i bs hb
   cases e
   cases rs with
   | cons r rr=>
    cases rr
    obtain ⟨a,us,rfl,qa,ra⟩:=b8 s r
    have:=m7 ra hb
    subst this
    exact ⟨a,bs,rfl,qa,k _ H0 H (aK.refl s) (.bl _)⟩
  ·cases e
 ·cases e
theorem H_:CallD (fun xs H Q=>(∃ i,xs=[.int i]∧Q (.int i) H)∨∃ k,xs=[.bl k]∧Q (.int (if k then 1 else 0)) H) Dm.Af:=by
 intro H0 H vs ds z Q s rs e k
 unfold Dm.Af at e
 split at e
 ·cases e
  cases rs with
  | cons r rr=>
   cases rr
   cases aA r
   exact .inl ⟨_,rfl,k _ H0 H (aK.refl s) (.int _)⟩
 ·cases e
  cases rs with
  | cons r rr=>
   cases rr
   cases xg r
   exact .inr ⟨_,rfl,k _ H0 H (aK.refl s) (.int _)⟩
 ·cases e
section
variable {X:Cx} {a b c e:Expr} {f:Dm.FE} {fs:List Dm.FE} {p p2 pos:Pos}
theorem FP (hc:X.calm=true) (hg:Gl X "all") (hm:X.mg "all" = none) (ha:DA X [e] fs) (he:starEach [e] X.env=[(false,eval e X.env)]:=by rfl) (hpl:(backTo pos (starEach [] X.env)).any (·.1)=false:=by rfl) :
  DE X (.Call (.Name "all" p) [e] [] pos) (Dm.eB Dm.vc fs):=Ay (yS hc) HZ (by rfl) hg hm ha (he:=he) (hpl:=hpl)
theorem Ll (hg:Gl X "int") (hm:X.mg "int" = none) (ha:DA X [e] fs) (he:starEach [e] X.env=[(false,eval e X.env)]:=by rfl) (hpl:(backTo pos (starEach [] X.env)).any (·.1)=false:=by rfl) :
  DE X (.Call (.Name "int" p) [e] [] pos) (Dm.eB Dm.Af fs):=DY yw H_ (by rfl) hg hm ha (he:=he) (hpl:=hpl)
end
noncomputable def cO (sc:Scope):List Str→List Str→Bool
 | [],[]=>true
 | x::N,y::nm=>(x == y||(sc.names.lookup y).isNone)&&cO sc N nm
 | _,_=>false
theorem cO.len {sc:Scope}:∀ {N nm:List Str},cO sc N nm=true→nm.length=N.length
 | [],[],_=>rfl
 | [],_::_,h=>by cases h
 | _::_,[],h=>by cases h
 | x::N,y::nm,h=>by
  rw [cO,Bool.and_eq_true] at h
  rw [List.length_cons,List.length_cons,cO.len h.2]
theorem cO.at {sc:Scope}:∀ {N nm:List Str},cO sc N nm=true→∀ (i:Nat) (x:Str),nm[i]?=some x→N[i]?=some x∨sc.names.lookup x=none
 | [],[],_,i,x,e=>by simp at e
 | [],_::_,h,_,_,_=>by cases h
 | _::_,[],h,_,_,_=>by cases h
 | x::N,y::nm,h,0,z,e=>by
  rw [cO,Bool.and_eq_true,Bool.or_eq_true] at h
  simp at e
  subst e
  rcases h.1 with q | q
  ·have:x=y:=by simpa using q
   subst this
   exact .inl rfl
  ·exact .inr (by simpa using q)
 | x::N,y::nm,h,i+1,z,e=>by
  rw [cO,Bool.and_eq_true] at h
  rw [List.getElem?_cons_succ] at e ⊢
  exact cO.at h.2 i z e
noncomputable def p7 (osc:Scope) (N nm:List Str) (sc:Scope):Bool:=
 sc.names.all (fun y=>y.2 != .cell)&&sc.names.all (fun y=>y.2 != .local||sc.names.lookup y.1 == some .local) &&
 sc.names.all (fun y=>y.2 != .free||(osc.names.lookup y.1 == some .cell||osc.names.lookup y.1 == some .free))&&nm.all (fun x=>sc.names.lookup x != some .local)&&cO sc N nm
theorem dX.of {X:Cx} {nm:List Str} {scope:Scope} (h:p7 X.env.scope X.N nm scope=true) (hk:scope.kind=.function):dX X nm scope:=by
 unfold p7 at h
 simp only [Bool.and_eq_true,List.all_eq_true] at h
 obtain ⟨⟨⟨⟨h1,h2⟩,h3⟩,h4⟩,h5⟩:=h
 refine ⟨hk,fun y hy=>?_,fun y hy hl=>?_,fun y hy hf=>?_,fun x hx=>?_,cO.len h5,cO.at h5⟩
 ·have:=h1 y hy;simpa using this
 ·have:=h2 y hy
  rw [hl] at this
  simpa using this
 ·have:=h3 y hy
  rw [hf] at this
  have:(X.env.scope.names.lookup y.1 == some .cell||X.env.scope.names.lookup y.1 == some .free)=true:=by simpa using this
  rw [Bool.or_eq_true,beq_iff_eq,beq_iff_eq] at this
  exact this
 ·have:=h4 x hx;simpa using this
section
variable {X:Cx} {elt tg iter:Expr} {ifs:List Expr} {scope:Scope} {pos:Pos} {fi:Dm.FI} {bd:Dm.FB} {is:List Nat} {t:Dm.FT} {f:Dm.FE}
theorem xq {l:List Nat} {n:Nat} (h:(l.all fun i=>decide (n≤i))=true):∀ i∈l,n≤i:=fun i hi=>of_decide_eq_true (List.all_eq_true.mp h i hi)
theorem Lm (nm own:List Str) (hg:TGc X nm scope own tg is bd) (hi:DI X tg iter fi) (ht:∀ cl C s H fp,DTs (bw X nm scope own cl C s H fp) ifs t) (he:∀ cl C s H fp,DE (bw X nm scope own cl C s H fp) elt f)
  (hc:X.calm=true:=by rfl) (hk:scope.kind=.function:=by rfl) (hS:p7 X.env.scope X.N nm scope=true:=by rfl) (hl:(is.all fun i=>decide (X.N.length≤i))=true:=by rfl) (hs:∀ x,foldedSetIterable iter X.env x=pure x:=by intro _;rfl) :
  DE X (.ListComp elt [⟨tg,iter,ifs,0⟩] scope pos) (Dm.cK fi own.length bd t f):=HX hc (dX.of hS hk) hi hg ht he (xq hl) hs
theorem Ln (j:Nat) (nm own:List Str) {y:Str} {py spos:Pos} (hN:X.N.Nodup) (hg:TGc X nm scope own tg is bd) (hi:DI X tg iter fi) (ht:∀ cl C s H fp,DTs (bw X nm scope own cl C s H fp) ifs t) (he:∀ cl C s H fp,DE (bw X nm scope own cl C s H fp) elt f)
  (hc:X.calm=true:=by rfl) (hk:scope.kind=.function:=by rfl) (hS:p7 X.env.scope X.N nm scope=true:=by rfl) (hl:(is.all fun i=>decide (X.N.length≤i))=true:=by rfl) (hj:X.N[j]?=some y:=by rfl) (hy:Loc X.env.scope y:=by first | exact Or.inl rfl | exact Or.inr rfl)
  (hsw:swapsWith (.ListComp elt [⟨tg,iter,ifs,0⟩] scope pos) (some (.Name y py)) spos.line X.env=pure true:=by rfl) (hs:∀ x,foldedSetIterable iter X.env x=pure x:=by intro _;rfl)
  (hf:X.fn y=true∨X.env.scope.names.lookup y=some .local:=by first | exact .inl rfl | exact .inr rfl | assumption):DS X (.Assign [.Name y py] (.ListComp elt [⟨tg,iter,ifs,0⟩] scope pos) spos) (Dm.sA j (Dm.cK fi own.length bd t f)):=
 HY j hN hc (dX.of hS hk) hi hg ht he (xq hl) hj hy hsw hs hf
end
theorem PI.or {X:Cx} {tg it:Expr} {t t':TI} (h:PI X tg it t) (h':PI X tg it t'):PI X tg it (fun σ H R=>t σ H R∨t' σ H R):=fun pins s σ H R I q=>q.elim (h pins s σ H R I) (h' pins s σ H R I)
theorem Lo {K:PySem.W.Frag} {f:Dm.FE} {σ:L2.St} {H:Hp} {R:It→Hp→Prop} (h:tDI (Dm.iS f) σ H R):r8 K (tD f) σ H R∨zM K (tD f) σ H R:=by
 obtain ⟨H0,ρ,ys,ρ',st,e,k⟩:=h
 unfold Dm.iS at e
 split at e
 ·cases e
 rename_i x ρ1 e1
 split at e
 ·rename_i ds ρ2 e2
  cases e
  exact .inl (M8 ⟨H0,ρ,_,_,st,by unfold Dm.iL;rw [e1];dsimp only;rw [e2],k⟩)
 ·rename_i ds ρ2 e2
  cases e
  exact .inr (M9 ⟨H0,ρ,_,_,st,by unfold Dm.iT;rw [e1];dsimp only;rw [e2],k⟩)
 ·cases e
theorem i_S {X:Cx} {tg e:Expr} {f:Dm.FE} (h:DE X e f):DI X tg e (Dm.iS f):=PI.weak (PI.or (wM h) (zN h)) fun _ _ _=>Lo
noncomputable def AF (K:PySem.W.Frag):Bool:=K.all fun p=>match p.2.cls with | .type n=>n != "list" | _=>true
theorem lookup_mem {a:Addr} {o:Obj}:∀ {K:List (Addr×Obj)},K.lookup a=some o→(a,o)∈K
 | [],h=>by cases h
 | (b,x)::r,h=>by
  rw [List.lookup_cons] at h
  cases q:a == b with
  | true=>
   rw [q] at h
   cases h
   have:a=b:=by simpa using q
   rw [this]
   exact List.mem_cons_self
  | false=>
   rw [q] at h
   exact List.mem_cons_of_mem _ (lookup_mem h)
theorem Ia {f:List Dm.Dat→Option Dm.RV} {K:PySem.W.Frag} {H:Hp} {a:Addr} {ns:List Int} {E:XK} (hf:f [.lst (ns.map Dm.Dat.int)]=some (.val (.bl true))) (hK:AF K=true) (hS:SqL K H a (ns.map V.int)) :
  spD f [.ref a] H (fun v _=>v=.bl true) E:=by
 have hq:Rd H a (.lst (ns.map V.int)):=by
  rcases hS with h | ⟨o,its,n,hk,hc,_⟩
  ·exact h
  ·have:=List.all_eq_true.mp hK _ (lookup_mem hk)
   dsimp only at this
   rw [hc] at this
   exact absurd this (by decide)
 have hr:∀ ns:List Int,aC H (ns.map V.int) (ns.map Dm.Dat.int):=fun ns=>by
  induction ns with
  | nil=>exact .nil
  | cons n ns ih=>exact .cons (.int n) ih
 exact ⟨H,_,_,ak.refl _,.cons (.lst hq (hr ns)) .nil,hf,fun v H0' H' _ r=>Rep.mW r⟩
end Br
namespace Dm
noncomputable def iRd (a b c:FE):FI:=fun ρ=>match a ρ with
 | some (.val (.int i),ρ1)=>(match b ρ1 with
  | some (.val (.int j),ρ2)=>(match c ρ2 with
   | some (.val (.int k),ρ3)=>if k=-1∧j≤BIG∧-BIG≤j∧i≤BIG∧-BIG≤i then some (downs i (i-j).toNat,ρ3) else none
   | _=>none)
  | _=>none)
 | _=>none
noncomputable def yT (a:FE):FI:=fun ρ=>match a ρ with
 | none=>none
 | some (x,ρ1)=>match tk ρ1 x with
  | some (.lst ds,ρ2)=>some (ds.reverse,ρ2)
  | _=>none
noncomputable def jV:Nat→List Dat→List Dat
 | _,[]=>[]
 | i,d::ds=>.tup [.int (i:Nat),d]::jV (i+1) ds
noncomputable def iEn (a:FE):FI:=fun ρ=>match a ρ with
 | none=>none
 | some (x,ρ1)=>match tk ρ1 x with
  | some (.lst ds,ρ2)=>some (jV 0 ds,ρ2)
  | _=>none
noncomputable def m8 (d:Dat):Option RV:=match d with
 | .lst ds=>some (.new (.lst ds.reverse))
 | _=>none
noncomputable def p8:List Dat→Option RV
 | [.int j]=>if j≤1000000∧-1000000≤j then some (.new (.lst (ups 0 j.toNat))) else none
 | _=>none
end Dm
namespace Br
open PySem PySem.Spec PyProof.Rows L2
theorem p9 {X:Cx} {pins:List (Addr×Obj)} {σ:L2.St} {H:Hp} {s:Shared} {h':Heap} {t':Nat} {fp:List Addr} {p:Addr} {o:HO} (I:Inv X pins σ H s) (hf:∀ b∈fp,pF X pins H b)
  (k:∀ b u,b∉fp→s.heap.get? b=some u→h'.get? b=some u) (hp:s.heap.objs.size≤p) (new:aT X.prog X.w (upd H p o) h' p o):Inv X pins σ (upd H p o) { s with heap:=h',toks:=t' }:=by
 have hn:H p=none:=I.hok.fresh hp
 have nf:∀ b u,H b=some u→b∉fp:=fun b u e z=>by rw [(hf b z).1] at e;cases e
 have nL:X.env.locals∉fp:=fun z=>(hf _ z).2.1 rfl
 refine I.step (g':=s.gens) (d':=s.drawn) (ch:=fp) (fun b hb=>?_) (fun b u _ _ hc e _=>k b u hc e) (fun b u _ _ hc e _=>⟨u.slots,k b u hc e⟩)
  (fun b u _ e n=>by rw [ao (Nat.ne_of_lt (Nat.lt_of_lt_of_le (Heap.lt_size e) hp))];exact n) (fun b u hc e=>⟨u,k b u hc e⟩)
  (fun b xs q=>by rw [ao (aI q hn)];exact q) (fun b u xs q=>by rw [ao (aI q hn)];exact q) (fun b ps q=>⟨#[],by rw [ao (aI q hn),q];simp⟩) (fun m hm=>?_) (fun b u e=>?_) I.bare
 ·obtain ⟨f0,f1,f2,f3,f4,f5⟩:=hf b hb
  exact ⟨f3,f1,f4,f5⟩
 ·obtain ⟨o,es,ep,ho,r⟩:=hm
  exact ⟨o,es,ep,k _ o nL ho,r⟩
 ·by_cases hb:b=p
  ·subst hb;rw [aq] at e;cases e;exact new
  ·rw [ao hb] at e
   refine (I.hok b u e).stay (fun c v hc q=>k c v ?_ q) (fun c q=>by rw [ao (aI q hn)];exact q) fun c xs q=>by rw [ao (aI q hn)];exact q
   rcases hc with z | z
   ·rw [z];exact nf b u e
   ·exact nf c _ z
noncomputable def Itv (K:PySem.W.Frag) (a:Addr) (n:Nat):It:=
 ⟨fun i H=>∃ xs x,SqL K H a xs∧xs.length=n∧xs.reverse[i]?=some x,fun i H x H'=>H'=H∧∀ xs,SqL K H a xs→xs.reverse[i]?=some x,fun i H=>n≤i⟩
theorem AG {P:Program} {w:World} {K:PySem.W.Frag} {tg:Expr} (a it:Addr) (n:Nat):Turn P w K tg (Itv K a n) [it] it (fun i h=>i≤n∧h.IsRevIter it a ((n:Int)-1-(i:Nat))) where
 mem:=by simp
 obj:=fun i h st b hb=>by
  have e:b=it:=by simpa using hb
  subst e
  obtain ⟨_,o,e,c,d⟩:=st
  exact ⟨o,e,fun v z=>by rw [d] at z;cases z⟩
 keep:=fun i h h' st k=>⟨st.1,st.2.at fun o e=>k it (by simp) o e⟩
 item:=by
  intro X hP hw hK hc i pins s σ H E I hf st hg
  subst hP hw hK
  obtain ⟨xs,x,hq,hl,hx⟩:=hg
  obtain ⟨its,rv,p,hz⟩:=I.list hq
  have hi:i<n:=by
   have:=(List.getElem?_eq_some_iff.mp hx).1
   rw [List.length_reverse,hl] at this
   exact this
  rw [List.getElem?_reverse (by omega),hl] at hx
  obtain ⟨u,hu,ru⟩:=rv.get hx
  obtain ⟨f0,f1,f2,f3,f4,f5⟩:=hf it (by simp)
  obtain ⟨_,st⟩:=st
  have ei:((n:Int)-1-(i:Nat))=((n-1-i:Nat):Int):=by omega
  rw [ei] at st
  refine wpAny_pyNext_rev_item st p.isList (x:=u) (by simpa using hu) fun h' st' sb=>?_
  have ej:((n-1-i:Nat):Int)-1=(n:Int)-1-((i+1:Nat):Int):=by omega
  rw [ej] at st'
  have I1:Inv X pins σ H { s with heap:=h' }:=I.turned (t':=s.toks) (fun b o hb e=>(sb.2 b hb).trans e) f0 f1 f3 f4 f5
  obtain ⟨o,e,c,d⟩:=id st'
  refine ⟨u,rfl,wL (s:={ s with heap:=h' }) e c d (by decide) ⟨x,H,I1,ru,⟨rfl,fun ys hy=>?_⟩,⟨hi,st'⟩,fun b hb=>(hf b hb).1⟩⟩
  rw [I.fU hy hq,List.getElem?_reverse (by omega),hl];exact hx
 done:=by
  intro X hP hw hK hc i pins s σ H E I hf st hg
  subst hP hw hK
  obtain ⟨f0,f1,f2,f3,f4,f5⟩:=hf it (by simp)
  obtain ⟨h1,st⟩:=st
  have h2:n≤i:=hg
  have ei:((n:Int)-1-(i:Nat))=-1:=by omega
  rw [ei] at st
  exact wpAny_pyNext_rev_end (I.ok.hd hc) st fun h' eb=>⟨rfl,I.turned (t':=s.toks) (fun b o hb e=>eb b o hb e) f0 f1 f3 f4 f5⟩
 self:=fun _ _ _ _ _ st h=>wpAny_pyIter_revIter st.2 h
noncomputable def FQ (K:PySem.W.Frag) (tl:TE):TI:=fun σ H R=>tl σ H fun x H1=>∃ a xs,x=.ref a∧SqL K H1 a xs∧R (Itv K a xs.length) H1
section
variable {X:Cx} {tg l:Expr} {tl:TE} {p pos:Pos}
theorem AH {Q:Value→Shared→Prop} {Qx:VK} {pins:List (Addr×Obj)} {s:Shared} {σ:L2.St} {H:Hp} (hg:Gl X "reversed") (hm:X.mg "reversed" = none) (hl:PE X l tl) (hs:starEach [l] X.env=[(false,eval l X.env)]) (I:Inv X pins σ H s) (h:tl σ H Qx)
  (k:∀ x H1 s1,Inv X pins σ H1 s1→Qx x H1→∃ a xs,x=.ref a∧SqL X.K H1 a xs∧∀ its:List Value,Vals xs its→PlainL s1.heap a its.toArray→xs.length≤sizeLine→Q (.ref s1.heap.objs.size) { s1 with heap:=s1.heap.push (revObj a ((its.toArray.size:Int)-1)) }) :
  wpAny (model X.prog X.w) X.A (eval (.Call (.Name "reversed" p) [l] [] pos) X.env) Q X.xe s:=by
 refine Call_ (dU I hg hm boot_reversed (PyProof.Rows.callWith_type1 (spliced_more ?_ (by rw [hs];rfl)) (by rw [hs];rfl) rfl))
 refine thn (hl pins s σ H _ I h) fun v s1 ⟨x,H1,I1,r1,q1⟩=>?_
 obtain ⟨a,xs,e,hq,q⟩:=k x H1 s1 I1 q1
 subst e
 cases r1
 obtain ⟨its,rv,pl,hz⟩:=I1.list hq
 refine Calls.spliced_nil (call_reversed_list pl.isList (q its rv pl hz))
theorem Ib (hg:Gl X "reversed") (hm:X.mg "reversed" = none) (hl:PE X l tl) (hs:starEach [l] X.env=[(false,eval l X.env)]:=by rfl):PI X tg (.Call (.Name "reversed" p) [l] [] pos) (FQ X.K tl):=by
 intro pins s σ H R I h
 refine AH hg hm hl hs I h fun x H1 s1 I1 q1=>?_
 obtain ⟨a,xs,e,hq,q⟩:=q1
 refine ⟨a,xs,e,hq,fun its rv pl hz=>?_⟩
 have hn:(its.toArray.size:Int)=((xs.length:Nat):Int):=by rw [List.size_toArray,rv.length]
 have st:({ s1 with heap:=s1.heap.push (revObj a ((its.toArray.size:Int)-1)) }:Shared).heap.IsRevIter s1.heap.objs.size a (((xs.length:Nat):Int)-1-((0:Nat):Int)):=⟨_,Heap.get?_push_size _ rfl,rfl,by rw [hn];simp [revObj]⟩
 refine wpAny_pyIter_revIter st ?_
 refine ⟨s1.heap.objs.size,[s1.heap.objs.size],_,_,H1,rfl,I1.kept (t':=s1.toks) fun b o e=>Heap.get?_push_of_some _ e,AG a _ xs.length,⟨Nat.zero_le _,st⟩,fun b hb=>?_,q⟩
 have e:b=s1.heap.objs.size:=by simpa using hb
 subst e
 exact I1.ym (Nat.le_refl _) (I1.hok.fresh (Nat.le_refl _))
end
section
variable {X:Cx} {tg:Expr}
end
noncomputable def Ite (K:PySem.W.Frag) (a:Addr):It:=
 ⟨fun i H=>∃ xs x,SqL K H a xs∧xs[i]?=some x,fun i H x H'=>∃ p v,H p=none∧x=.ref p∧H'=upd H p (.tup [.int i,v])∧∀ xs,SqL K H a xs→xs[i]?=some v,fun i H=>∃ xs,SqL K H a xs∧xs.length≤i⟩
theorem yU {P:Program} {w:World} {K:PySem.W.Frag} {elts:List Expr} {x1} {tp:Pos} (a e it:Addr) (hne:e≠it):Turn P w K (.Tuple elts x1 tp) (Ite K a) [e,it] e (fun i h=>(∃ old,IsEnum h e it (i:Nat) old)∧h.IsListIter it a i) where
 mem:=by simp
 obj:=fun i h st b hb=>by
  obtain ⟨⟨old,he⟩,o,e1,c,d⟩:=st
  rcases List.mem_cons.mp hb with rfl | hb
  ·exact ⟨_,he,fun v z=>by
    have z':Data.fields _=Data.cell v:=z
    cases z'⟩
  ·have e2:b=it:=by simpa using hb
   subst e2
   exact ⟨o,e1,fun v z=>by rw [d] at z;cases z⟩
 keep:=fun i h h' st k=>⟨let ⟨old,he⟩:=st.1;⟨old,k e (by simp) _ he⟩,st.2.at fun o z=>k it (by simp) o z⟩
 item:=by
  intro X hP hw hK hc i pins s σ H E I hf st hg
  subst hP hw hK
  obtain ⟨xs,x,hq,hx⟩:=hg
  obtain ⟨its,rv,p,hz⟩:=I.list hq
  obtain ⟨u,hu,ru⟩:=rv.get hx
  obtain ⟨⟨old,he⟩,hit⟩:=st
  refine wpAny_pyNext_enum_item he hit p.isList (x:=u) (by simpa using hu) hne fun h1 heo Nl ht1 hz1 hk1=>?_
  refine ⟨_,rfl,wpAny_letOwnedTupleGo_enum heo fun h2 he2 hs2=>?_⟩
  have hlt:e<s.heap.objs.size:=Heap.lt_size he
  have ht2:h2.get? s.heap.objs.size=some { cls:=.type "tuple",data:=.seq #[.int i s.toks,u] }:=(hs2.2 _ (Nat.ne_of_gt hlt)).trans ht1
  have k2:∀ b o,b∉[e,it]→s.heap.get? b=some o→h2.get? b=some o:=fun b o hb z=>by
   have n1:b≠e:=fun y=>hb (by simp [y])
   have n2:b≠it:=fun y=>hb (by simp [y])
   exact (hs2.2 b n1).trans (hk1 b o n1 n2 z)
  have hn:H s.heap.objs.size=none:=I.hok.fresh (Nat.le_refl _)
  have I2:Inv X pins σ (upd H s.heap.objs.size (.tup [.int i,x])) { s with heap:=h2,toks:=s.toks+1 }:=
   p9 I hf k2 (Nat.le_refl _) ⟨by simp [sizeLine],[.int i s.toks,u],.cons ⟨s.toks,rfl⟩ (.cons ru .nil),_,ht2,rfl,_,rfl⟩
  refine ⟨.ref s.heap.objs.size,_,I2,rfl,⟨_,x,hn,rfl,rfl,fun ys hy=>by rw [I.fU hy hq];exact hx⟩,⟨⟨u,?_⟩,?_⟩,fun b hb=>?_⟩
  ·have:(((i+1:Nat):Int))=(i:Int)+1:=by omega
   rw [this];exact he2
  ·exact Nl.at fun o z=>(hs2.2 it (Ne.symm hne)).trans z
  ·have hb1:b≠s.heap.objs.size:=fun y=>by
    rcases List.mem_cons.mp hb with z | z
    ·rw [y] at z;exact absurd z (Nat.ne_of_gt hlt)
    ·have z':b=it:=by simpa using z
     obtain ⟨o,ho,_⟩:=hit
     have:=Heap.lt_size ho
     rw [← z',y] at this
     exact Nat.lt_irrefl _ this
   rw [ao hb1]
   exact (hf b hb).1
 done:=by
  intro X hP hw hK hc i pins s σ H E I hf st hg
  subst hP hw hK
  obtain ⟨xs,hq,hx⟩:=hg
  obtain ⟨its,rv,p,hz⟩:=I.list hq
  obtain ⟨f0,f1,f2,f3,f4,f5⟩:=hf it (by simp)
  obtain ⟨⟨old,he⟩,hit⟩:=st
  have hl:=rv.length
  exact wpAny_pyNext_enum_end (I.ok.hd hc) he hit p.isList (by simp;omega) fun h' eb=>⟨rfl,I.turned (t':=s.toks) (fun b o hb e=>eb b o hb e) f0 f1 f3 f4 f5⟩
 self:=fun A i s Q E st h=>by
  obtain ⟨⟨old,he⟩,hit⟩:=st
  have hT:s.TypeIs (.ref e) "enumerate" := ⟨_,he,rfl⟩
  refine wpAny_pyIter_slot hT F.slot_enumerate_iter (wpAny_call_entry F.slot_enumerate_iter hT F.entry_enumerate_iter ?_ (F.args_enumerate_iter_1 _))
  show wpAny _ _ (ret (.ref e)) _ _ s
  exact wpAny_pure ⟨_,rfl,"enumerate",_,hT,F.slot_enumerate_next.lookup,h⟩
noncomputable def Lp (K:PySem.W.Frag) (tl:TE):TI:=fun σ H R=>tl σ H fun x H1=>∃ a,x=.ref a∧(∃ xs,SqL K H1 a xs)∧R (Ite K a) H1
section
variable {X:Cx} {l:Expr} {tl:TE} {p pos:Pos} {elts:List Expr} {x1:Nat} {tp:Pos}
theorem D4 (hg:Gl X "enumerate") (hm:X.mg "enumerate" = none) (hl:PE X l tl) (hs:starEach [l] X.env=[(false,eval l X.env)]:=by rfl):PI X (.Tuple elts x1 tp) (.Call (.Name "enumerate" p) [l] [] pos) (Lp X.K tl):=by
 intro pins s σ H R I h
 refine Call_ (dU I hg hm boot_enumerate (PyProof.Rows.callWith_type1 (spliced_more ?_ (by rw [hs];rfl)) (by rw [hs];rfl) rfl))
 refine thn (hl pins s σ H _ I h) fun v s1 ⟨x,H1,I1,r1,q1⟩=>?_
 obtain ⟨a,e,⟨xs,hq⟩,q⟩:=q1
 subst e
 cases r1
 obtain ⟨its,rv,pl,hz⟩:=I1.list hq
 refine Calls.spliced_nil (call_enumerate_list pl.isList fun h' he hit hsz k=>?_)
 have I2:Inv X pins σ H1 { s1 with heap:=h' }:=I1.kept (t':=s1.toks) k
 have T:=yU (P:=X.prog) (w:=X.w) (K:=X.K) (elts:=elts) (x1:=x1) (tp:=tp) a (s1.heap.objs.size+1) s1.heap.objs.size (Nat.succ_ne_self _)
 refine T.self X.A 0 { s1 with heap:=h' } _ X.xe ⟨⟨_,he⟩,hit⟩ ?_
 refine ⟨s1.heap.objs.size+1,[s1.heap.objs.size+1,s1.heap.objs.size],_,_,H1,rfl,I2,T,⟨⟨_,he⟩,hit⟩,fun b hb=>?_,q⟩
 have:s1.heap.objs.size≤b:=by
  rcases List.mem_cons.mp hb with rfl | hb
  ·exact Nat.le_succ _
  ·have:b=s1.heap.objs.size:=by simpa using hb
   exact Nat.le_of_eq this.symm
 exact I1.ym this (I1.hok.fresh this)
end
theorem vo:typeLookup (.type "list_reverseiterator") "__len__" = pure none:=by rw [typeLookup_type,builtinLookup_eq_fast];kernel_rfl
theorem AI:typeLookup (.type "list_reverseiterator") "__length_hint__" = pure (some (.builtin "list_reverseiterator.__length_hint__")):=by rw [typeLookup_type,builtinLookup_eq_fast];kernel_rfl
section
variable {prog:Program} {w:World} {A:Around} {E:Value→Shared→Prop} {s:Shared}
theorem AJ {I l:Addr} {i:Int} {Q:Bool→Shared→Prop} (hit:s.heap.IsRevIter I l i) (h:Q false s):wpAny (model prog w) A (Builtin.List.listLengthHint (.ref I)) Q E s:=by
 unfold Builtin.List.listLengthHint
 refine wpAny_bind (wpAny_specialOf hit.typeIs vo ?_)
 show wpAny _ A (specialOf (Value.ref I) (Str.ofString "__length_hint__") >>= _) _ _ _
 refine wpAny_bind (wpAny_specialOf hit.typeIs AI ?_)
 generalize hid:("list_reverseiterator.__length_hint__" : String)=id0
 wp_delta
 rw [show splitId id0=some ("list_reverseiterator","__length_hint__") from by subst hid;decide +kernel]
 subst hid
 refine wpAny_bind (wpAny_isInstance (T := "list_reverseiterator") (b:=true) hit.typeIs (by rw [isSubtype_type];kernel_rfl) ?_)
 refine wpAny_ite_split (fun hab=>absurd hab (by decide)) (fun _=>?_)
 refine wpAny_ite_split (fun _=>?_) (fun hab=>absurd (by decide +kernel) hab)
 refine wpAny_ite_split (fun hab=>absurd hab (by decide +kernel)) (fun _=>wpAny_pure h)
theorem vp {R:Result→Shared→Prop} {I l:Addr} {items:Array Value} (hh:A.handled=none) (hit:s.heap.IsRevIter I l ((items.size:Int)-1)) (hl:s.heap.IsList l items) (hne:l≠I) (hlen:items.size≤sizeLine)
  (S:Addr) (res:Value) (c₀:Nat) (hSI:S≠I) (hSl:S≠l) (hS:s.heap.get? S=some { cls:=.type "list",data:=.seq #[] c₀ })
  (hR:∀ h' tk acc' c',(∀ b o,b≠S→b≠I→s.heap.get? b=some o→h'.get? b=some o)→h'.get? S=some { cls:=.type "list",dict:=none,data:=.seq acc' c',slots:=#[] } →
   ItemsOf (fun i v=>items[items.size-1-i]?=some v) acc' items.size→R (.ok (.ret res)) { s with heap:=h',toks:=tk }) :
  wpAny (model prog w) A.in1 (Builtin.List.listExtendWith (.ref S) (.ref I) res)
   (fun fin s'=>match fin with | .done f=>R (.ok f) s' | .again c'=>c'.quiet=true∧codeAny (model prog w) A c' R s') (fun e s'=>R (.error e) s') s:=by
 have hSf:S∉[I,l]:=fun hm=>by
  rcases List.mem_cons.mp hm with z | z
  ·exact hSI z
  ·exact hSl (List.mem_singleton.mp z)
 have W:=(Walks.listRev (prog:=prog) (w:=w) (A:=A.in1) hh I l hne items).toS
 unfold Builtin.List.listExtendWith
 refine wpAny_bind (wpAny_typeOf (T := "list_reverseiterator") hit.typeIs ?_)
 have h1:Builtin.List.listSameRef (.ref S) (.ref I)=false:=by simp [Builtin.List.listSameRef,hSI]
 have h2:(Value.type "list_reverseiterator" == Value.type "list")=false:=by decide
 have h3:(Value.type "list_reverseiterator" == Value.type "tuple")=false:=by decide
 simp only [h1,h2,h3,Bool.or_false,Bool.false_eq_true,if_false]
 refine wpAny_bind (wpAny_pyIter_revIter hit ?_)
 refine wpAny_bind (wpAny_holding (AJ hit ?_))
 refine wpAny_ite_split (fun hab=>absurd hab (by decide +kernel)) (fun _=>wpAny_pure ⟨plainId_quiet F.plain_extend_loop _,?_⟩)
 have hst:(0≤items.size)∧s.heap.IsRevIter I l ((items.size:Int)-1-((0:Nat):Int))∧s.heap.IsList l items:=⟨Nat.zero_le _,by simpa using hit,hl⟩
 refine codeAny_extend_loopS W hlen S hSf res items.size 0 _ #[] c₀ rfl (Nat.zero_le _) hst hS (ItemsOf.nil _) fun s' acc' c' hm hS' hacc=>?_
 rw [Moved.eq_with hm]
 refine hR s'.heap s'.toks acc' c' (fun b o hb hb2 e=>hm.heap b o (fun hmem=>?_) e) hS' hacc
 rcases List.mem_cons.mp hmem with e' | hmem
 ·exact hb e'
 ·exact hb2 (List.mem_singleton.mp hmem)
theorem AK {R:Result→Shared→Prop} {I l:Addr} {items:Array Value} (hh:A.handled=none) (hit:s.heap.IsRevIter I l ((items.size:Int)-1)) (hl:s.heap.IsList l items) (hne:l≠I) (hlen:items.size≤sizeLine)
  (S:Addr) (hSI:S≠I) (hSl:S≠l) (hS:s.heap.get? S=some { cls:=.type "list",data:=.seq #[] })
  (hR:∀ h' tk acc' c',(∀ b o,b≠S→b≠I→s.heap.get? b=some o→h'.get? b=some o)→h'.get? S=some { cls:=.type "list",dict:=none,data:=.seq acc' c',slots:=#[] } →
   ItemsOf (fun i v=>items[items.size-1-i]?=some v) acc' items.size→R (.ok (.ret .none)) { s with heap:=h',toks:=tk }) :
  wpAny (model prog w) A.in1 (Builtin.«list.__init__» ⟨[.ref S,.ref I],[]⟩)
   (fun fin s'=>match fin with | .done f=>R (.ok f) s' | .again c'=>c'.quiet=true∧codeAny (model prog w) A c' R s') (fun e s'=>R (.error e) s') s:=by
 show wpAny _ A.in1 (do let old ← Builtin.List.listItems (.ref S);Builtin.List.listUpdate (.ref S) (fun _=>#[]);letGo old.toList.reverse;Builtin.List.listExtendWith (.ref S) (.ref I) .none) _ _ s
 refine wpAny_bind ?_
 unfold Builtin.List.listItems
 refine wpAny_bind (wpAny_seqItems hS rfl (wpAny_pure ?_))
 show wpAny _ A.in1 (updateSeq S (fun _=>#[]) >>= fun _=>letGo (#[]:Array Value).toList.reverse >>= fun _=>Builtin.List.listExtendWith (.ref S) (.ref I) .none) _ _ s
 refine wpAny_bind (wpAny_updateSeq hS rfl ?_)
 have hS₂:=Heap.get?_update_self (Obj.mapSeq (fun _=>(#[]:Array Value))) hS rfl
 have oth:∀ b o,b≠S→s.heap.get? b=some o→(s.heap.update S (Obj.mapSeq (fun _=>(#[]:Array Value)))).get? b=some o:=
  fun b o hb e=>(Heap.get?_update_other _ _ (Ne.symm hb)).trans e
 refine wpAny_bind (wpAny_letGo ?_)
 refine vp hh (hit.at fun o e=>oth I o (Ne.symm hSI) e) (hl.at fun o e=>oth l o (Ne.symm hSl) e) hne hlen S .none _ hSI hSl hS₂ fun h' tk acc' c' hk hS' hacc=>?_
 exact hR h' tk acc' c' (fun b o hb hb2 e=>hk b o hb hb2 (oth b o hb e)) hS' hacc
theorem pI {Q:Value→Shared→Prop} {I l:Addr} {items:Array Value} (hh:A.handled=none) (hit:s.heap.IsRevIter I l ((items.size:Int)-1)) (hl:s.heap.IsList l items) (hne:l≠I) (hlen:items.size≤sizeLine)
  (hQ:∀ h' tk acc' c',(∀ b o,b≠I→s.heap.get? b=some o→h'.get? b=some o)→h'.get? s.heap.objs.size=some { cls:=.type "list",dict:=none,data:=.seq acc' c',slots:=#[] } →
   ItemsOf (fun i v=>items[items.size-1-i]?=some v) acc' items.size→Q (.ref s.heap.objs.size) { s with heap:=h',toks:=tk }) :
  wpAny (model prog w) A (call (.type "list") [.ref I]) Q E s:=by
 refine callType_codes (Q₁:=fun obj s₁=>obj=.ref s.heap.objs.size∧s₁={ s with heap:=s.heap.push { cls:=.type "list",data:=.seq #[] } }) F.called_list (F.typeCall_list_1 _) F.entry_list_init
  (code_list_new _ ⟨rfl,rfl⟩) fun obj s₁ h₁=>?_
 obtain ⟨rfl,rfl⟩:=h₁
 have hS:(s.heap.push { cls:=.type "list",data:=.seq #[] }).get? s.heap.objs.size=some { cls:=.type "list",data:=.seq #[] }:=Heap.get?_push_size _ rfl
 obtain ⟨oi,hoi,_⟩:=id hit
 obtain ⟨ol,hol,_⟩:=id hl
 refine ⟨⟨_,hS,rfl⟩,F.args_list_init_2 _ _,AK (A:=A.in1) hh (hit.at fun o e=>Heap.get?_push_of_some _ e) (hl.at fun o e=>Heap.get?_push_of_some _ e) hne hlen _ (Nat.ne_of_gt (Heap.lt_size hoi)) (Nat.ne_of_gt (Heap.lt_size hol)) hS fun h' tk acc' c' hk hS' hacc=>?_⟩
 exact ⟨rfl,hQ h' tk acc' c' (fun b o hb e=>hk b o (Nat.ne_of_lt (Heap.lt_size e)) hb (Heap.get?_push_of_some _ e)) hS' hacc⟩
end
theorem m9 {P:Nat→Value→Prop} {acc:Array Value} {ys:List V} (h:ItemsOf P acc ys.length) (k:∀ i v,P i v→i<ys.length→∃ y,ys[i]?=some y∧RelV y v):Vals ys acc.toList:=by
 have:∀ (ys:List V) (us:List Value),ys.length=us.length→(∀ (i:Nat) (u:Value),us[i]?=some u→∃ y,ys[i]?=some y∧RelV y u)→Vals ys us:=by
  intro ys
  induction ys with
  | nil=>intro us e _;cases us with
   | nil=>exact .nil
   | cons _ _=>cases e
  | cons y ys ih=>intro us e f;cases us with
   | nil=>cases e
   | cons u us=>
    obtain ⟨y',h1,h2⟩:=f 0 u rfl
    cases h1
    exact .cons h2 (ih us (by simpa using e) fun i u' hu=>by simpa using f (i+1) u' (by simpa using hu))
 refine this ys acc.toList (by have:=h.1;simp only [Array.length_toList];exact this.symm) fun i u hu=>?_
 have hu':acc[i]?=some u:=by rw [← Array.getElem?_toList];exact hu
 have hi:i<ys.length:=by
  rw [← h.1]
  exact (Array.getElem?_eq_some_iff.mp hu').1
 exact k i u (h.2 i u hu') hi
noncomputable def Ic (K:PySem.W.Frag) (tl:TE):TE:=fun σ H Q=>tl σ H fun x H1=>∃ a xs,x=.ref a∧SqL K H1 a xs∧∀ q,H1 q=none→Q (.ref q) (upd H1 q (.lst xs.reverse))
noncomputable def Lq (ta:TA):TE:=fun σ H Q=>ta σ H fun vs H1=>∃ j:Int,vs=[.int j]∧-(2 ^ 62)≤j∧j≤1000000∧∀ q,H1 q=none→Q (.ref q) (upd H1 q (.lst ((List.range j.toNat).map fun i=>V.int (i:Nat))))
section
variable {X:Cx} {l a:Expr} {tl:TE} {ta:TA} {p pos p0 pJ:Pos}
theorem AL (hc:X.calm=true) (hgl:Gl X "list") (hml:X.mg "list" = none) (hg:Gl X "reversed") (hm:X.mg "reversed" = none) (hl:PE X l tl) (hs:starEach [l] X.env=[(false,eval l X.env)]:=by rfl)
  (hs0:starEach [.Call (.Name "reversed" p) [l] [] pos] X.env=[(false,eval (.Call (.Name "reversed" p) [l] [] pos) X.env)]:=by rfl) :
  PE X (.Call (.Name "list" p0) [.Call (.Name "reversed" p) [l] [] pos] [] pJ) (Ic X.K tl):=by
 intro pins s σ H Q I h
 refine wpAny_Call_Name_kw (dU I hgl hml boot_list (PyProof.Rows.callWith_type1 (spliced_more ?_ (by rw [hs0];rfl)) (by rw [hs0];rfl) rfl))
 refine AH hg hm hl hs I h fun x H1 s1 I1 q1=>?_
 obtain ⟨a,xs,e,hq,q⟩:=q1
 refine ⟨a,xs,e,hq,fun its rv pl hz=>Calls.spliced_nil ?_⟩
 have hal:a<s1.heap.objs.size:=by
  obtain ⟨o,ho,_⟩:=pl.isList
  exact Heap.lt_size ho
 have hn:=rv.length
 refine pI (items:=its.toArray) (I.ok.hd hc) ⟨_,Heap.get?_push_size _ rfl,rfl,rfl⟩ (pl.isList.at fun o e=>Heap.get?_push_of_some _ e) (Nat.ne_of_lt hal) (by rw [List.size_toArray,← hn];exact hz) fun h' tk acc' c' hk hS' hacc=>?_
 have hsz:({ s1 with heap:=s1.heap.push (revObj a ((its.toArray.size:Int)-1)) }:Shared).heap.objs.size=s1.heap.objs.size+1:=Heap.size_push ..
 have hp:s1.heap.objs.size≤({ s1 with heap:=s1.heap.push (revObj a ((its.toArray.size:Int)-1)) }:Shared).heap.objs.size:=by rw [hsz];exact Nat.le_succ _
 have vl:Vals xs.reverse acc'.toList:=by
  refine m9 (by rw [List.length_reverse,hn,← List.size_toArray];exact hacc) fun i v hv hi=>?_
  rw [List.length_reverse] at hi
  rw [List.size_toArray] at hv
  have hv':its[its.length-1-i]?=some v:=by simpa using hv
  rw [List.getElem?_reverse hi,hn]
  have hlt:=(List.getElem?_eq_some_iff.mp hv').1
  have hx:xs[its.length-1-i]?=some (xs[its.length-1-i]'(by omega)):=List.getElem?_eq_getElem _
  obtain ⟨u,hu,ru⟩:=rv.get hx
  rw [hv'] at hu
  cases hu
  exact ⟨_,hx,ru⟩
 have ok:aT X.prog X.w (upd H1 ({ s1 with heap:=s1.heap.push (revObj a ((its.toArray.size:Int)-1)) }:Shared).heap.objs.size (.lst xs.reverse)) h' ({ s1 with heap:=s1.heap.push (revObj a ((its.toArray.size:Int)-1)) }:Shared).heap.objs.size (.lst xs.reverse):=⟨by rw [List.length_reverse];exact hz,acc'.toList,c',vl,by simpa using hS'⟩
 exact ⟨.ref _,_,I1.laid (t':=tk) (fun b u e=>hk b u (Nat.ne_of_lt (Heap.lt_size e)) (Heap.get?_push_of_some _ e)) hp ok,rfl,q _ (I1.hok.fresh hp)⟩
theorem D5 (hc:X.calm=true) (hgl:Gl X "list") (hml:X.mg "list" = none) (hg:Gl X "range") (hm:X.mg "range" = none) (ha:PA X [a] ta) (hs:starEach [a] X.env=[(false,eval a X.env)]:=by rfl)
  (hs0:starEach [.Call (.Name "range" p) [a] [] pos] X.env=[(false,eval (.Call (.Name "range" p) [a] [] pos) X.env)]:=by rfl) :
  PE X (.Call (.Name "list" p0) [.Call (.Name "range" p) [a] [] pos] [] pJ) (Lq ta):=by
 intro pins s σ H Q I h
 refine wpAny_Call_Name_kw (dU I hgl hml boot_list (PyProof.Rows.callWith_type1 (spliced_more ?_ (by rw [hs0];rfl)) (by rw [hs0];rfl) rfl))
 refine Call_ (dU I hg hm boot_range (PyProof.Rows.callWith_type1 (thn (ha pos pins s σ H _ I h) fun us s1 ⟨vs,H1,I1,r1,q1⟩=>?_) hs rfl))
 obtain ⟨j,e,q1,q2,q⟩:=q1
 subst e
 cases r1 with
 | cons r rr=>
  cases rr
  obtain ⟨t,rfl⟩:=r
  refine call_range_1 (Calls.spliced_nil ?_)
  have hn:Builtin.Range.rangeSize 0 j 1=(j.toNat:Nat):=by rw [rangeSize_one];split<;>omega
  refine call_list_range (n:=j.toNat) (I.ok.hd hc) (IsRange.new ..) (small_one (by omega) (by omega) q1 (by omega)) hn (by omega) fun h' tk acc' c' hk hS' hacc=>?_
  have hsz:(s1.heap.push { cls:=.type "range",data:=.fields #[.int 0 s1.toks,.int j t,.int 1 (s1.toks+1)] }).objs.size=s1.heap.objs.size+1:=Heap.size_push ..
  have hp:s1.heap.objs.size≤(s1.heap.push { cls:=.type "range",data:=.fields #[.int 0 s1.toks,.int j t,.int 1 (s1.toks+1)] }).objs.size:=by rw [hsz];exact Nat.le_succ _
  have vl:Vals ((List.range j.toNat).map fun i=>V.int (i:Nat)) acc'.toList:=by
   refine m9 (by rw [List.length_map,List.length_range];exact hacc) fun i v hv hi=>?_
   obtain ⟨t,rfl⟩:=hv
   rw [List.length_map,List.length_range] at hi
   refine ⟨.int (i:Nat),by rw [List.getElem?_map,List.getElem?_range hi];rfl,t,?_⟩
   have:(0:Int)+(i:Int)*1=i:=by omega
   rw [this]
  have ok:aT X.prog X.w (upd H1 (s1.heap.push { cls:=.type "range",data:=.fields #[.int 0 s1.toks,.int j t,.int 1 (s1.toks+1)] }).objs.size (.lst ((List.range j.toNat).map fun i=>V.int (i:Nat)))) h' (s1.heap.push { cls:=.type "range",data:=.fields #[.int 0 s1.toks,.int j t,.int 1 (s1.toks+1)] }).objs.size (.lst ((List.range j.toNat).map fun i=>V.int (i:Nat))):=
   ⟨by rw [List.length_map,List.length_range,sizeLine_eq];omega,acc'.toList,c',vl,by simpa using hS'⟩
  exact ⟨.ref _,_,I1.laid (t':=tk) (fun b u e=>hk b u (Heap.get?_push_of_some _ e)) hp ok,rfl,q _ (I1.hok.fresh hp)⟩
end
theorem aC.rev {H:Hp} {xs:List V} {ds:List Dm.Dat} (h:aC H xs ds):aC H xs.reverse ds.reverse:=by
 induction xs generalizing ds with
 | nil=>cases h;exact .nil
 | cons x xs ih=>
  cases h with
  | cons r rs=>rw [List.reverse_cons,List.reverse_cons];exact (ih rs).append (.cons r .nil)
theorem Ie {K:PySem.W.Frag} {H0:Hp} {a:Addr} {xs:List V} {ds:List Dm.Dat} (hq:Rd H0 a (.lst xs)) (rs:aC H0 xs ds):JW (Itv K a xs.length) H0 ds.reverse:=by
 intro H0' H s0 s1
 have q:SqL K H a xs:=.inl (ak.rd s1 (ak.rd s0 hq))
 refine ⟨fun i hi=>by rw [List.length_reverse,← rs.length] at hi;exact hi,fun i d e=>?_⟩
 obtain ⟨v,hv,rv⟩:=rs.rev.get e
 refine ⟨⟨xs,v,q,rfl,hv⟩,fun x H' y=>?_⟩
 obtain ⟨e1,y⟩:=y
 subst e1
 have z:=y xs q
 rw [hv] at z
 cases z
 exact ⟨H0',aK.refl s1,rv.mono s0⟩
theorem sJ:∀ (ds:List Dm.Dat) (i:Nat),(Dm.jV i ds).length=ds.length
 | [],_=>rfl
 | _::ds,i=>by simp [Dm.jV,sJ ds]
theorem sL:∀ (ds:List Dm.Dat) (i j:Nat) (d:Dm.Dat),(Dm.jV i ds)[j]?=some d→∃ x,ds[j]?=some x∧d=.tup [.int ((i+j:Nat):Int),x]
 | [],_,_,_,h=>by cases h
 | x::ds,i,0,d,h=>by cases h;exact ⟨x,rfl,rfl⟩
 | x::ds,i,j+1,d,h=>by
  obtain ⟨y,h1,h2⟩:=sL ds (i+1) j d h
  refine ⟨y,h1,?_⟩
  rw [h2]
  have:i+1+j=i+(j+1):=by omega
  rw [this]
theorem D6 {K:PySem.W.Frag} {H0:Hp} {a:Addr} {xs:List V} {ds:List Dm.Dat} (hq:Rd H0 a (.lst xs)) (rs:aC H0 xs ds):JW (Ite K a) H0 (Dm.jV 0 ds):=by
 intro H0' H s0 s1
 have q:SqL K H a xs:=.inl (ak.rd s1 (ak.rd s0 hq))
 refine ⟨fun i hi=>⟨xs,q,by rw [rs.length,← sJ ds 0];exact hi⟩,fun i d e=>?_⟩
 obtain ⟨d',hd,rfl⟩:=sL ds 0 i d e
 obtain ⟨v,hv,rv⟩:=rs.get hd
 refine ⟨⟨xs,v,q,hv⟩,fun x H' y=>?_⟩
 obtain ⟨p,v',hn,rfl,rfl,y⟩:=y
 have z:=y xs q
 rw [hv] at z
 cases z
 have g:=aK.yM (o:=HO.tup [.int i,v]) s1 hn
 refine ⟨_,g,.tup aq (.cons ?_ (.cons ((rv.mono s0).mono g.s0) .nil))⟩
 rw [Nat.zero_add]
 exact .int _
section
variable {σ:L2.St} {H:Hp} {R:It→Hp→Prop}
theorem Ig {K:PySem.W.Frag} {f:Dm.FE} (h:tDI (Dm.yT f) σ H R):FQ K (tD f) σ H R:=by
 obtain ⟨H0,ρ,ys,ρ',st,e,k⟩:=h
 unfold Dm.yT at e
 split at e
 ·cases e
 rename_i x ρ1 e1
 split at e
 ·rename_i ds ρ2 e2
  cases e
  refine ⟨H0,ρ,_,ρ1,st,e1,fun v H0' H' t r=>?_⟩
  obtain ⟨H1,t1,b1,r1,_,_⟩:=take1 t (ak.refl _) r e2
  cases r1 with
  | lst q rs=>exact ⟨_,_,rfl,.inl (ak.rd t1.st.same q),k _ H1 H' t1 (Ie q rs)⟩
 ·cases e
theorem Lr {K:PySem.W.Frag} {f:Dm.FE} (h:tDI (Dm.iEn f) σ H R):Lp K (tD f) σ H R:=by
 obtain ⟨H0,ρ,ys,ρ',st,e,k⟩:=h
 unfold Dm.iEn at e
 split at e
 ·cases e
 rename_i x ρ1 e1
 split at e
 ·rename_i ds ρ2 e2
  cases e
  refine ⟨H0,ρ,_,ρ1,st,e1,fun v H0' H' t r=>?_⟩
  obtain ⟨H1,t1,b1,r1,_,_⟩:=take1 t (ak.refl _) r e2
  cases r1 with
  | lst q rs=>exact ⟨_,rfl,⟨_,.inl (ak.rd t1.st.same q)⟩,k _ H1 H' t1 (D6 q rs)⟩
 ·cases e
end
theorem AM {K:PySem.W.Frag}:UnD (fun x H Q=>∃ a xs,x=.ref a∧SqL K H a xs∧∀ q,H q=none→Q (.ref q) (upd H q (.lst xs.reverse))) Dm.m8:=by
 intro H0 H x dx z Q s rx e k
 unfold Dm.m8 at e
 split at e
 ·cases e
  obtain ⟨a,us,rfl,qa,ra⟩:=b8 s rx
  exact ⟨a,us,rfl,.inl qa,fun p hp=>k _ _ _ (aK.mU s hp) ⟨p,rfl,hp,s.free hp,_,aq,ra.rev⟩⟩
 ·cases e
theorem AO {H:Hp}:∀ (n:Nat) ,aC H ((List.range n).map fun i=>V.int (i:Nat)) (Dm.ups 0 n):=by
 intro n
 unfold Dm.ups
 have:∀ l:List Nat,aC H (l.map fun i=>V.int (i:Nat)) (l.map fun i=>Dm.Dat.int (0+(i:Nat))):=fun l=>by
  induction l with
  | nil=>exact .nil
  | cons x l ih=>rw [List.map_cons,List.map_cons,Int.zero_add];exact .cons (.int _) ih
 exact this _
theorem D7:CallD (fun xs H Q=>∃ j:Int,xs=[.int j]∧-(2 ^ 62)≤j∧j≤1000000∧∀ q,H q=none→Q (.ref q) (upd H q (.lst ((List.range j.toNat).map fun i=>V.int (i:Nat))))) Dm.p8:=by
 intro H0 H xs ds z Q s rx e k
 unfold Dm.p8 at e
 split at e
 ·rename_i j
  split at e
  ·rename_i hb
   cases e
   cases rx with
   | cons r rr=>
    cases rr
    cases aA r
    exact ⟨j,rfl,by omega,hb.1,fun p hp=>k _ _ _ (aK.mU s hp) ⟨p,rfl,hp,s.free hp,_,aq,AO _⟩⟩
  ·cases e
 ·cases e
section
variable {X:Cx} {tg e a b c:Expr} {f fa fb fc:Dm.FE} {p pos p0 pJ:Pos} {elts:List Expr} {x1:Nat} {tp:Pos}
theorem Ls (hg:Gl X "reversed") (hm:X.mg "reversed" = none) (h:DE X e f) (hs:starEach [e] X.env=[(false,eval e X.env)]:=by rfl):DI X tg (.Call (.Name "reversed" p) [e] [] pos) (Dm.yT f):=PI.weak (Ib hg hm h hs) fun _ _ _=>Ig
theorem Nm (hg:Gl X "enumerate") (hm:X.mg "enumerate" = none) (h:DE X e f) (hs:starEach [e] X.env=[(false,eval e X.env)]:=by rfl):DI X (.Tuple elts x1 tp) (.Call (.Name "enumerate" p) [e] [] pos) (Dm.iEn f):=PI.weak (D4 hg hm h hs) fun _ _ _=>Lr
theorem D8 (hc:X.calm=true) (hgl:Gl X "list") (hml:X.mg "list" = none) (hg:Gl X "reversed") (hm:X.mg "reversed" = none) (h:DE X e f) (hs:starEach [e] X.env=[(false,eval e X.env)]:=by rfl)
  (hs0:starEach [.Call (.Name "reversed" p) [e] [] pos] X.env=[(false,eval (.Call (.Name "reversed" p) [e] [] pos) X.env)]:=by rfl) :
  DE X (.Call (.Name "list" p0) [.Call (.Name "reversed" p) [e] [] pos] [] pJ) (Dm.e1 Dm.m8 f):=PE.weak (AL hc hgl hml hg hm h hs hs0) fun _ _ _=>M4 AM
theorem Ih (hc:X.calm=true) (hgl:Gl X "list") (hml:X.mg "list" = none) (hg:Gl X "range") (hm:X.mg "range" = none) (h:DA X [a] [fa]) (hs:starEach [a] X.env=[(false,eval a X.env)]:=by rfl)
  (hs0:starEach [.Call (.Name "range" p) [a] [] pos] X.env=[(false,eval (.Call (.Name "range" p) [a] [] pos) X.env)]:=by rfl) :
  DE X (.Call (.Name "list" p0) [.Call (.Name "range" p) [a] [] pos] [] pJ) (Dm.eB Dm.p8 [fa]):=PE.weak (D5 hc hgl hml hg hm h hs hs0) fun _ _ _=>HC D7
end
end Br
namespace Dm
noncomputable def bZ (i:Nat) (own:Nat) (bd:FB) (t:FT) (el:FE):FE:=fun ρ=>match ρ[i]? with
 | some (.ow (.lst ds))=>if ds.length≤SZ then (match d9 bd t el ds (ρ.set i .un++List.replicate own .un) [] with
  | none=>none
  | some (ys,ρ2)=>some (.new (.lst ys),(ρ2.take ρ.length).set i (.ow (.lst ds)))) else none
 | _=>cK (iS (eV i)) own bd t el ρ
end Dm
namespace Br
open PySem PySem.Spec PyProof.Rows L2
theorem AQ {K:PySem.W.Frag} {H0:Hp} {a:Addr} {xs:List V} {ds:List Dm.Dat} (rs:aC H0 xs ds):JWa (Itl K a) H0 (some (a,.lst xs)) ds:=by
 intro H0' H s0 s1 hq
 have hq:=hq _ rfl
 have q:SqL K H a xs:=.inl (.inl hq)
 refine ⟨fun i hi=>⟨xs,q,by rw [rs.length];exact hi⟩,fun i d e=>?_⟩
 obtain ⟨v,hv,rv⟩:=rs.get e
 refine ⟨⟨xs,v,q,hv⟩,fun x H' y=>?_⟩
 obtain ⟨e1,y⟩:=y
 subst e1
 have z:=y xs q
 rw [hv] at z
 cases z
 exact ⟨H0',aK.refl s1,rv.mono s0⟩
theorem D9 {K:PySem.W.Frag} {σ:L2.St} {H:Hp} {i own:Nat} {bd:Dm.FB} {g:TG} {t:Dm.FT} {el:Dm.FE} {is:List Nat} {Q:VK} (hb:BD is g bd) (hl:∀ i∈is,σ.length≤i) (h:tD (Dm.bZ i own bd t el) σ H Q) :
  tLC (fun σ H R=>r8 K (tD (Dm.eV i)) σ H R∨zM K (tD (Dm.eV i)) σ H R) own g (tDT t) (tD el) σ H Q:=by
 obtain ⟨H0,ρ,x,ρ',st,e,k⟩:=h
 unfold Dm.bZ at e
 split at e
 ·rename_i ds eo
  split at e
  case isFalse=>cases e
  rename_i hsz
  split at e
  ·cases e
  rename_i ys ρ2 e2
  cases e
  refine .inl ⟨H0,ρ,.slot i,ρ,st,by unfold Dm.eV;rw [eo],fun v H0' H' t1 r=>?_⟩
  obtain ⟨a,qa,na,xs,ha,rs⟩:=t1.st.ow i _ eo
  obtain ⟨r1,_⟩:=r
  rw [qa] at r1
  cases r1
  have nO:¬ aj σ (ρ.set i .un) a:=fun z=>by
   obtain ⟨j,d,hj,h1,h2⟩:=cN z
   exact hj (t1.st.dis j i d _ a h1 eo h2 qa)
  have hlt:i<ρ.length:=(List.getElem?_eq_some_iff.mp eo).1
  refine ⟨a,rfl,⟨xs,.inl (.inl ha)⟩,fun D hD=>sF hb hl (t1.st.mask i) (fun q e=>by cases e;exact ⟨ha,na,nO⟩) (AQ rs) hsz e2 (fun v H1 Hc t2 r2 hpa=>?_) D hD⟩
  obtain ⟨ha2,na2⟩:=hpa _ rfl
  rw [List.length_set] at t2 r2
  have oo:∀ b,aj σ ((ρ2.take ρ.length).set i (.ow (.lst ds))) b→b=a∨aj σ (ρ2.take ρ.length) b:=fun b ⟨j,d,h1,h2⟩=>by
   by_cases q:i=j
   ·subst q;rw [qa] at h2;cases h2;exact .inl rfl
   ·rw [List.getElem?_set_ne q] at h1;exact .inr ⟨j,d,h1,h2⟩
  have om:∀ b,aj σ (ρ.set i .un) b→aj σ ρ b:=fun b z=>by
   obtain ⟨j,d,hj,h1,h2⟩:=cN z
   exact ⟨j,d,h1,h2⟩
  have oa:aj σ ρ a:=⟨i,_,eo,qa⟩
  have nO2:¬ aj σ (ρ2.take ρ.length) a:=fun z=>nO (t2.own a z)
  have AR:(ρ2.take ρ.length).length=ρ.length:=by rw [← t2.st.len,st.len]
  refine k v H1 Hc (t1.trans ⟨⟨t2.st.same,by rw [List.length_set];exact t2.st.len,fun j d h=>?_,fun j d h=>?_,fun j j' d d' b h1 h2 h3 h4=>?_⟩,t2.stp.wide om,fun b z=>?_,fun j z=>?_⟩) ?_
  ·by_cases q:i=j
   ·subst q;rw [List.getElem?_set_self (by rw [AR];exact hlt)] at h;cases h
   ·rw [List.getElem?_set_ne q] at h;exact t2.st.sh j d h
  ·by_cases q:i=j
   ·subst q
    rw [List.getElem?_set_self (by rw [AR];exact hlt)] at h
    cases h
    exact ⟨a,qa,na2,xs,ha2,rs.mono t2.stp.s0⟩
   ·rw [List.getElem?_set_ne q] at h;exact t2.st.ow j d h
  ·by_cases q:i=j
   ·subst q
    by_cases q':i=j'
    ·exact q'
    ·rw [List.getElem?_set_ne q'] at h2
     rw [qa] at h3;cases h3
     exact absurd ⟨j',d',h2,h4⟩ nO2
   ·rw [List.getElem?_set_ne q] at h1
    by_cases q':i=j'
    ·subst q'
     rw [qa] at h4;cases h4
     exact absurd ⟨j,d,h1,h3⟩ nO2
    ·rw [List.getElem?_set_ne q'] at h2
     exact t2.st.dis j j' d d' b h1 h2 h3 h4
  ·rcases oo b z with rfl | z
   ·exact oa
   ·exact om b (t2.own b z)
  ·trivial
  ·obtain ⟨D',e',n',no',n0',w'⟩:=r2
   refine ⟨D',e',t1.stp.gone n',fun z=>?_,n0',w'⟩
   rcases oo D' z with rfl | z
   ·rw [n'] at ha;cases ha
   ·exact no' z
 ·have h2:=vg (fi:=Dm.iS (Dm.eV i)) hb hl ⟨H0,ρ,x,ρ',st,e,k⟩
  exact Lo h2
section
variable {X:Cx} {elt tg:Expr} {ifs:List Expr} {scope:Scope} {pos px:Pos} {bd:Dm.FB} {is:List Nat} {t:Dm.FT} {f:Dm.FE} {x:Str}
theorem i_M (i:Nat) (h:DE X (.Name x px) (Dm.eV i)):PI X tg (.Name x px) (fun σ H R=>r8 X.K (tD (Dm.eV i)) σ H R∨zM X.K (tD (Dm.eV i)) σ H R):=PI.or (wM h) (zN h)
theorem lA (i:Nat) (nm own:List Str) (hg:TGc X nm scope own tg is bd) (hi:DE X (.Name x px) (Dm.eV i)) (ht:∀ cl C s H fp,DTs (bw X nm scope own cl C s H fp) ifs t) (he:∀ cl C s H fp,DE (bw X nm scope own cl C s H fp) elt f)
  (hc:X.calm=true:=by rfl) (hk:scope.kind=.function:=by rfl) (hS:p7 X.env.scope X.N nm scope=true:=by rfl) (hl:(is.all fun i=>decide (X.N.length≤i))=true:=by rfl) (hs:∀ y,foldedSetIterable (.Name x px) X.env y=pure y:=by intro _;rfl) :
  DE X (.ListComp elt [⟨tg,.Name x px,ifs,0⟩] scope pos) (Dm.bZ i own.length bd t f):=by
 obtain ⟨g,h1,h2⟩:=hg.ex
 intro pins s σ H Q I h
 exact w_ hc (dX.of hS hk) (i_M i hi) h1 ht he hs pins s σ H Q I (D9 h2 (fun i hi=>by rw [I.len];exact xq hl i hi) h)
end
end Br
namespace Dm
noncomputable def g9:List Dat→List Dat→List Dat
 | x::xs,y::ys=>.tup [x,y]::g9 xs ys
 | _,_=>[]
noncomputable def D_ (a b:FE):FI:=fun ρ=>match eAs [a,b] ρ with
 | some (vs,ρ1)=>(match tks ρ1 vs with
  | some ([.lst xs,.lst ys],ρ2)=>some (g9 xs ys,ρ2)
  | _=>none)
 | none=>none
end Dm
namespace Br
open PySem PySem.Spec PyProof.Rows L2
theorem vq {X:Cx} {pins:List (Addr×Obj)} {σ:L2.St} {H:Hp} {s:Shared} {h':Heap} {t':Nat} {fp:List Addr} (I:Inv X pins σ H s) (hf:∀ b∈fp,pF X pins H b)
  (k:∀ b u,b∉fp→s.heap.get? b=some u→h'.get? b=some u):Inv X pins σ H { s with heap:=h',toks:=t' }:=by
 have nf:∀ b u,H b=some u→b∉fp:=fun b u e z=>by rw [(hf b z).1] at e;cases e
 have nL:X.env.locals∉fp:=fun z=>(hf _ z).2.1 rfl
 refine I.step (g':=s.gens) (d':=s.drawn) (ch:=fp) (fun b hb=>?_) (fun b u _ _ hc e _=>k b u hc e) (fun b u _ _ hc e _=>⟨u.slots,k b u hc e⟩)
  (fun b u _ e n=>n) (fun b u hc e=>⟨u,k b u hc e⟩)
  (fun b xs q=>q) (fun b u xs q=>q) (fun b ps q=>⟨#[],by rw [q];simp⟩) (fun m hm=>?_) (fun b u e=>?_) I.bare
 ·obtain ⟨f0,f1,f2,f3,f4,f5⟩:=hf b hb
  exact ⟨f3,f1,f4,f5⟩
 ·obtain ⟨o,es,ep,ho,r⟩:=hm
  exact ⟨o,es,ep,k _ o nL ho,r⟩
 ·refine (I.hok b u e).stay (fun c v hc q=>k c v ?_ q) (fun c q=>q) fun c xs q=>q
  rcases hc with z | z
  ·rw [z];exact nf b u e
  ·exact nf c _ z
noncomputable def Itz (K:PySem.W.Frag) (a b:Addr):It:=
 ⟨fun i H=>∃ xs ys x y,SqL K H a xs∧SqL K H b ys∧xs[i]?=some x∧ys[i]?=some y,
  fun i H r H'=>∃ p x y,H p=none∧r=.ref p∧H'=upd H p (.tup [x,y])∧(∀ xs,SqL K H a xs→xs[i]?=some x)∧∀ ys,SqL K H b ys→ys[i]?=some y,
  fun i H=>∃ xs ys,SqL K H a xs∧SqL K H b ys∧(xs.length≤i∨ys.length≤i)⟩
theorem gm {h:Heap} {a b:Addr} {o o':Obj} (ha:h.get? a=some o) (hb:h.get? b=some o') (n:o.cls≠o'.cls):a≠b:=fun z=>by
 subst z
 rw [ha] at hb
 cases hb
 exact n rfl
structure qN (z TI TO i1 i2:Addr):Prop where
 TIz:TI≠z
 TOz:TO≠z
 i1z:i1≠z
 i2z:i2≠z
 TITO:TI≠TO
 TIi1:TI≠i1
 TIi2:TI≠i2
 TOi1:TO≠i1
 TOi2:TO≠i2
 i12:i1≠i2
noncomputable def AS (a b z TI TO i1 i2:Addr) (i:Nat) (h:Heap):Prop:=IsZip h z TI TO .none∧IsPair h TI (.ref i1) (.ref i2)∧(∃ x y,IsPair h TO x y)∧h.IsListIter i1 a i∧h.IsListIter i2 b i
theorem sM {h:Heap} {a b z TI TO i1 i2:Addr} {i:Nat} {xs ys:Array Value} (F:qN z TI TO i1 i2) (st:AS a b z TI TO i1 i2 i h) (ha:h.IsList a xs) (hb:h.IsList b ys):ZipApart z TI TO i1 i2 a b:=by
 obtain ⟨s1,s2,⟨x,y,s3⟩,s4,s5⟩:=st
 obtain ⟨o4,e4,c4,_⟩:=s4
 obtain ⟨o5,e5,c5,_⟩:=s5
 obtain ⟨oa,ea,ca,_⟩:=ha
 obtain ⟨ob,eb,cb,_⟩:=hb
 have d:∀ {n m:String},n≠m→(Value.type n)≠(Value.type m):=fun q z=>q (by injection z)
 exact ⟨F.TIz,F.TOz,F.i1z,F.i2z,F.TITO,F.TIi1,F.TIi2,F.TOi1,F.TOi2,F.i12,
  gm ea s1 (by rw [ca];exact d (by decide)),gm ea s3 (by rw [ca];exact d (by decide)),gm ea e4 (by rw [ca,c4];exact d (by decide)),gm ea e5 (by rw [ca,c5];exact d (by decide)),
  gm eb s1 (by rw [cb];exact d (by decide)),gm eb s3 (by rw [cb];exact d (by decide)),gm eb e4 (by rw [cb,c4];exact d (by decide)),gm eb e5 (by rw [cb,c5];exact d (by decide))⟩
theorem AU {P:Program} {w:World} {K:PySem.W.Frag} {elts:List Expr} {x1} {tp:Pos} (a b z TI TO i1 i2:Addr) (F:qN z TI TO i1 i2):Turn P w K (.Tuple elts x1 tp) (Itz K a b) [z,TI,TO,i1,i2] z (AS a b z TI TO i1 i2) where
 mem:=by simp
 obj:=fun i h st c hc=>by
  obtain ⟨s1,s2,⟨x,y,s3⟩,⟨o4,e4,c4,d4⟩,⟨o5,e5,c5,d5⟩⟩:=st
  simp only [List.mem_cons,List.not_mem_nil,or_false] at hc
  rcases hc with rfl | rfl | rfl | rfl | rfl
  ·exact ⟨_,s1,fun v q=>by have q':Data.fields _=Data.cell v:=q;cases q'⟩
  ·exact ⟨_,s2,fun v q=>by have q':Data.seq _ _=Data.cell v:=q;cases q'⟩
  ·exact ⟨_,s3,fun v q=>by have q':Data.seq _ _=Data.cell v:=q;cases q'⟩
  ·exact ⟨o4,e4,fun v q=>by rw [d4] at q;cases q⟩
  ·exact ⟨o5,e5,fun v q=>by rw [d5] at q;cases q⟩
 keep:=fun i h h' st k=>by
  obtain ⟨s1,s2,⟨x,y,s3⟩,s4,s5⟩:=st
  exact ⟨k z (by simp) _ s1,k TI (by simp) _ s2,⟨x,y,k TO (by simp) _ s3⟩,s4.at fun o q=>k i1 (by simp) o q,s5.at fun o q=>k i2 (by simp) o q⟩
 item:=by
  intro X hP hw hK hc i pins s σ H E I hf st hg
  subst hP hw hK
  obtain ⟨xs,ys,x,y,hq,hq',hx,hy⟩:=hg
  obtain ⟨its,rv,p,hz⟩:=I.list hq
  obtain ⟨its',rv',p',hz'⟩:=I.list hq'
  obtain ⟨u,hu,ru⟩:=rv.get hx
  obtain ⟨u',hu',ru'⟩:=rv'.get hy
  have D:=sM F st p.isList p'.isList
  obtain ⟨s1,s2,⟨o1,o2,s3⟩,s4,s5⟩:=st
  have lt:∀ {c o},s.heap.get? c=some o→c<s.heap.objs.size:=fun q=>Heap.lt_size q
  have l1:=lt s1
  have l2:=lt s2
  have l3:=lt s3
  have l4:i1<s.heap.objs.size:=by obtain ⟨_,q,_⟩:=s4;exact lt q
  have l5:i2<s.heap.objs.size:=by obtain ⟨_,q,_⟩:=s5;exact lt q
  refine wpAny_pyNext_zip_item D s1 s2 s3 s4 s5 p.isList p'.isList (x:=u) (y:=u') (by simpa using hu) (by simpa using hu') fun h1 a1 a2 a3 a4 a5 a6 hk=>?_
  refine ⟨_,rfl,wpAny_letOwnedTupleGo_zip a1 fun h2 z2 hs2=>?_⟩
  have ht2:h2.get? s.heap.objs.size=some { cls:=.type "tuple",data:=.seq #[u,u'] }:=(hs2.2 _ (Nat.ne_of_gt l1)).trans a5
  have k2:∀ c o,c∉[z,TI,TO,i1,i2]→s.heap.get? c=some o→h2.get? c=some o:=fun c o hc q=>by
   simp only [List.mem_cons,List.not_mem_nil,or_false,not_or] at hc
   exact (hs2.2 c hc.1).trans (hk c o hc.1 hc.2.2.1 hc.2.2.2.1 hc.2.2.2.2 q)
  have hn:H s.heap.objs.size=none:=I.hok.fresh (Nat.le_refl _)
  have I2:Inv X pins σ (upd H s.heap.objs.size (.tup [x,y])) { s with heap:=h2,toks:=s.toks }:=
   p9 I hf k2 (Nat.le_refl _) ⟨by simp [sizeLine],[u,u'],.cons ru (.cons ru' .nil),_,ht2,rfl,_,rfl⟩
  refine ⟨.ref s.heap.objs.size,_,I2,rfl,⟨_,x,y,hn,rfl,rfl,fun vs hv=>by rw [I.fU hv hq];exact hx,fun vs hv=>by rw [I.fU hv hq'];exact hy⟩,⟨z2,?_,⟨_,_,hs2.extBut _ _ D.TOz a2⟩,?_,?_⟩,fun c hc=>?_⟩
  ·exact hs2.extBut _ _ D.TIz (hk TI _ D.TIz D.TITO D.TIi1 D.TIi2 s2)
  ·exact a3.extBut hs2.extBut D.i1z
  ·exact a4.extBut hs2.extBut D.i2z
  ·have hc1:c≠s.heap.objs.size:=fun q=>by
    simp only [List.mem_cons,List.not_mem_nil,or_false] at hc
    rcases hc with r | r | r | r | r
    ·subst r;rw [q] at l1;exact Nat.lt_irrefl _ l1
    ·subst r;rw [q] at l2;exact Nat.lt_irrefl _ l2
    ·subst r;rw [q] at l3;exact Nat.lt_irrefl _ l3
    ·subst r;rw [q] at l4;exact Nat.lt_irrefl _ l4
    ·subst r;rw [q] at l5;exact Nat.lt_irrefl _ l5
   rw [ao hc1]
   exact (hf c hc).1
 done:=by
  intro X hP hw hK hc i pins s σ H E I hf st hg
  subst hP hw hK
  obtain ⟨xs,ys,hq,hq',hx⟩:=hg
  obtain ⟨its,rv,p,hz⟩:=I.list hq
  obtain ⟨its',rv',p',hz'⟩:=I.list hq'
  have hl:=rv.length
  have hl':=rv'.length
  have D:=sM F st p.isList p'.isList
  obtain ⟨s1,s2,⟨o1,o2,s3⟩,s4,s5⟩:=st
  refine wpAny_pyNext_zip_end (I.ok.hd hc) D s1 s2 s3 s4 s5 p.isList p'.isList ?_ fun h' hk=>⟨rfl,vq (t':=s.toks) I hf fun c o hc q=>?_⟩
  ·rcases hx with hx | hx
   ·exact .inl (by simp;omega)
   ·exact .inr (by simp;omega)
  ·simp only [List.mem_cons,List.not_mem_nil,or_false,not_or] at hc
   exact hk c o hc.1 hc.2.2.1 hc.2.2.2.1 hc.2.2.2.2 q
 self:=fun A i s Q E st h=>wpAny_pyIter_zip st.1 h
noncomputable def FU (K:PySem.W.Frag) (ta:TA):TI:=fun σ H R=>ta σ H fun vs H1=>∃ a b,vs=[.ref a,.ref b]∧(∃ xs,SqL K H1 a xs)∧(∃ ys,SqL K H1 b ys)∧R (Itz K a b) H1
section
variable {X:Cx} {l l':Expr} {ta:TA} {p pos:Pos} {elts:List Expr} {x1:Nat} {tp:Pos}
theorem Ii (hg:Gl X "zip") (hm:X.mg "zip" = none) (ha:PA X [l,l'] ta) (hs:starEach [l,l'] X.env=(false,eval l X.env)::starEach [l'] X.env:=by rfl) (hs2:(backTo pos (starEach [l'] X.env)).any (·.1)=false:=by rfl) :
  PI X (.Tuple elts x1 tp) (.Call (.Name "zip" p) [l,l'] [] pos) (FU X.K ta):=by
 intro pins s σ H R I h
 refine Call_ (dU I hg hm boot_zip (PyProof.Rows.callWith_type1 (thn (ha pos pins s σ H _ I h) fun us s1 ⟨vs,H1,I1,r1,q1⟩=>?_) hs hs2))
 obtain ⟨a,b,e,⟨xs,hq⟩,⟨ys,hq'⟩,q⟩:=q1
 subst e
 obtain ⟨v1,v2,rfl,r,r'⟩:=vals2 r1
 cases r
 cases r'
 obtain ⟨its,rv,pl,hz⟩:=I1.list hq
 obtain ⟨its',rv',pl',hz'⟩:=I1.list hq'
 refine call_zip_2 pl.isList pl'.isList fun h' e1 e2 e3 e4 e5 hsz k=>?_
 have I2:Inv X pins σ H1 { s1 with heap:=h' }:=I1.kept (t':=s1.toks) k
 have F:qN (s1.heap.objs.size+4) (s1.heap.objs.size+2) (s1.heap.objs.size+3) s1.heap.objs.size (s1.heap.objs.size+1):=by
  constructor<;>first | exact Nat.ne_of_lt (by omega) | exact Nat.ne_of_gt (by omega)
 have T:=AU (P:=X.prog) (w:=X.w) (K:=X.K) (elts:=elts) (x1:=x1) (tp:=tp) a b _ _ _ _ _ F
 have st:AS a b (s1.heap.objs.size+4) (s1.heap.objs.size+2) (s1.heap.objs.size+3) s1.heap.objs.size (s1.heap.objs.size+1) 0 h':=⟨e1,e2,⟨_,_,e3⟩,e4,e5⟩
 refine T.self X.A 0 { s1 with heap:=h' } _ X.xe st ?_
 refine ⟨s1.heap.objs.size+4,_,_,_,H1,rfl,I2,T,st,fun c hc=>?_,q⟩
 have:s1.heap.objs.size≤c:=by
  simp only [List.mem_cons,List.not_mem_nil,or_false] at hc
  rcases hc with r | r | r | r | r<;>(rw [r];first | exact Nat.le_add_right _ _ | exact Nat.le_refl _)
 exact I1.ym this (I1.hok.fresh this)
end
theorem xr:∀ (xs ys:List Dm.Dat),(Dm.g9 xs ys).length=min xs.length ys.length
 | [],_=>by simp [Dm.g9]
 | _::_,[]=>by simp [Dm.g9]
 | x::xs,y::ys=>by simp [Dm.g9,xr xs ys]
theorem zip_get:∀ (xs ys:List Dm.Dat) (j:Nat) (d:Dm.Dat),(Dm.g9 xs ys)[j]?=some d→∃ x y,xs[j]?=some x∧ys[j]?=some y∧d=.tup [x,y]
 | [],_,_,_,h=>by simp [Dm.g9] at h
 | _::_,[],_,_,h=>by simp [Dm.g9] at h
 | x::xs,y::ys,0,d,h=>by cases h;exact ⟨x,y,rfl,rfl,rfl⟩
 | x::xs,y::ys,j+1,d,h=>zip_get xs ys j d h
theorem Ij {K:PySem.W.Frag} {H0:Hp} {a b:Addr} {xs ys:List V} {ds es:List Dm.Dat} (hq:Rd H0 a (.lst xs)) (rs:aC H0 xs ds) (hq':Rd H0 b (.lst ys)) (rs':aC H0 ys es):JW (Itz K a b) H0 (Dm.g9 ds es):=by
 intro H0' H s0 s1
 have q:SqL K H a xs:=.inl (ak.rd s1 (ak.rd s0 hq))
 have q':SqL K H b ys:=.inl (ak.rd s1 (ak.rd s0 hq'))
 refine ⟨fun i hi=>⟨xs,ys,q,q',?_⟩,fun i d e=>?_⟩
 ·rw [xr] at hi
  have:=rs.length
  have:=rs'.length
  omega
 obtain ⟨x,y,hx,hy,rfl⟩:=zip_get ds es i d e
 obtain ⟨v,hv,rv⟩:=rs.get hx
 obtain ⟨v',hv',rv'⟩:=rs'.get hy
 refine ⟨⟨xs,ys,v,v',q,q',hv,hv'⟩,fun r H' z=>?_⟩
 obtain ⟨p,u,u',hn,rfl,rfl,z1,z2⟩:=z
 have w1:=z1 xs q
 have w2:=z2 ys q'
 rw [hv] at w1
 rw [hv'] at w2
 cases w1
 cases w2
 have g:=aK.yM (o:=HO.tup [v,v']) s1 hn
 exact ⟨_,g,.tup aq (.cons ((rv.mono s0).mono g.s0) (.cons ((rv'.mono s0).mono g.s0) .nil))⟩
section
variable {σ:L2.St} {H:Hp} {R:It→Hp→Prop}
theorem Ik {K:PySem.W.Frag} {f g:Dm.FE} (h:tDI (Dm.D_ f g) σ H R):FU K (tDA [f,g]) σ H R:=by
 obtain ⟨H0,ρ,ys,ρ',st,e,k⟩:=h
 unfold Dm.D_ at e
 split at e
 ·rename_i vs ρ1 e1
  split at e
  ·rename_i xs zs ρ2 e2
   cases e
   refine ⟨H0,ρ,vs,ρ1,st,e1,fun us H0' H' t r=>?_⟩
   obtain ⟨H1,t1,b1,r1⟩:=takes t (ak.refl _) r e2
   cases r1 with
   | cons q1 rr=>
    cases rr with
    | cons q2 rr=>
     cases rr
     cases q1 with
     | lst q rs=>
      cases q2 with
      | lst q' rs'=>exact ⟨_,_,rfl,⟨_,.inl (ak.rd t1.st.same q)⟩,⟨_,.inl (ak.rd t1.st.same q')⟩,k _ H1 H' t1 (Ij q rs q' rs')⟩
  ·cases e
 ·cases e
end
section
variable {X:Cx} {a b:Expr} {fa fb:Dm.FE} {p pos:Pos} {elts:List Expr} {x1:Nat} {tp:Pos}
theorem Lu (hg:Gl X "zip") (hm:X.mg "zip" = none) (ha:DA X [a,b] [fa,fb]) (hs:starEach [a,b] X.env=(false,eval a X.env)::starEach [b] X.env:=by rfl) (hs2:(backTo pos (starEach [b] X.env)).any (·.1)=false:=by rfl) :
  DI X (.Tuple elts x1 tp) (.Call (.Name "zip" p) [a,b] [] pos) (Dm.D_ fa fb):=PI.weak (Ii hg hm ha hs hs2) fun _ _ _=>Ik
end
end Br
namespace Dm
noncomputable def fnM (n m:Nat) (body:FS) (ds:List Dat):Option (RV×Dat):=if ds.length=n then (match ds with
 | d::r=>(match body (Cell.ow d::(r.map Cell.sh++List.replicate m .un)) with
  | some (.ret z ρ')=>(match ρ'[0]? with
   | some (Cell.ow d')=>some (z,d')
   | _=>none)
  | some (.nx ρ')=>(match ρ'[0]? with
   | some (Cell.ow d')=>some (.val .non,d')
   | _=>none)
  | _=>none)
 | []=>none) else none
noncomputable def flat:Dat→Bool
 | .tup xs=>xs.all fun x=>!fH x
 | d=>!fH d
noncomputable def vt:Dat→Bool
 | .lst xs=>xs.all fun x=>!fH x
 | _=>false
noncomputable def eFm (f:List Dat→Option (RV×Dat)) (j:Nat) (as:List FE):FE:=fun ρ=>match ρ[j]? with
 | some (.ow _)=>(match eAs as ρ with
  | none=>none
  | some (xs,ρ1)=>(match ρ1[j]? with
   | some (.ow d1)=>(match tks ρ1 xs with
    | none=>none
    | some (ds,ρ2)=>(match ρ2[j]? with
     | some (.ow d)=>(match f (d::ds) with
      | none=>none
      | some (v,d')=>if flat v.dat&&vt d' then some (v.bG,ρ1.set j (.ow d')) else some (v.bG,ρ2.set j (.ow d')))
     | _=>none))
   | _=>none))
 | _=>none
end Dm
namespace Br
open PySem PySem.Spec PyProof.Rows L2
noncomputable def spM (f:List Dm.Dat→Option (Dm.RV×Dm.Dat)):Sp:=fun vs H Q _=>∃ H0 a us d ds z d',vs=V.ref a::us∧ak H0 H∧H0 a=none∧Own H0 H a d∧aC H0 us ds∧f (d::ds)=some (z,d') ∧
 ∀ v H0' H',Stp (fun b=>b=a) H0 H H0' H'→ak H0' H'→H0' a=none→Own H0' H' a d'→sC H H0' H' v z→Q v H'
theorem d_ {n m:Nat} {body:Dm.FS} {vs:List V} {H:Hp} {Q:VK} {E:XK} (h:spM (Dm.fnM n m body) vs H Q E):vs.length=n:=by
 obtain ⟨H0,a,us,d,ds,z,d',e,_,_,_,rs,ef,_⟩:=h
 unfold Dm.fnM at ef
 split at ef
 ·rename_i hl
  rw [e,List.length_cons,rs.length]
  simpa using hl
 ·cases ef
theorem au.kM {H0 H:Hp} {σ:L2.St} {ρ:Dm.Env} {j:Nat} {a:Addr} {d:Dm.Dat} (st:au H0 H σ ρ) (q:σ[j]?=some (some (V.ref a))) (no:¬ aj σ ρ a) (n0:H0 a=none) (w:Own H0 H a d):au H0 H σ (ρ.set j (.ow d)):=by
 have:=st.Aj (i:=j) no n0 w
 have e:σ.set j (some (V.ref a))=σ:=by
  apply List.ext_getElem?
  intro i
  by_cases h:j=i
  ·subst h
   have hl:j<σ.length:=(List.getElem?_eq_some_iff.mp q).1
   rw [List.getElem?_set_self hl,q]
  ·rw [List.getElem?_set_ne h]
 rw [e] at this
 exact this
theorem au.off {H0 H H0' H':Hp} {σ:L2.St} {ρ:Dm.Env} {a:Addr} (st:au H0 H σ ρ) (s0:ak H0 H0') (ss:ak H0' H') (no:¬ aj σ ρ a) (s1:∀ b o,H b=some o→b≠a→H' b=some o) (s2:∀ (i:Nat) (d:Dm.Dat) (b:Addr),ρ[i]?=some (Dm.Cell.ow d)→σ[i]?=some (some (V.ref b))→H0' b=none):au H0' H' σ ρ where
 same:=ss
 len:=st.len
 sh:=fun i d e=>by
  obtain ⟨v,q,r⟩:=st.sh i d e
  exact ⟨v,q,r.mono s0⟩
 ow:=fun i d e=>by
  obtain ⟨b,q,n,w⟩:=st.ow i d e
  obtain ⟨o,z⟩:=w.some
  have nb:b≠a:=fun y=>no ⟨i,d,e,y▸q⟩
  exact ⟨b,q,s2 i d b e q,w.mono s0 ((s1 b o z nb).trans z.symm)⟩
 dis:=st.dis
theorem e_ {H0 H1:Hp}:∀ {xs:List V} {ds:List Dm.Dat},aC H0 xs ds→(ds.all fun x=>!Dm.fH x)=true→aC H1 xs ds
 | _,_,.nil,_=>.nil
 | _,_,.cons r rs,h=>by
  rw [List.all_cons,Bool.and_eq_true] at h
  exact .cons (Rep.plain r (by simpa using h.1)) (e_ rs h.2)
section
variable {σ:L2.St} {H:Hp} {Q:VK}
theorem Ea {f:List Dm.Dat→Option (Dm.RV×Dm.Dat)} {j:Nat} {fs:List Dm.FE} {E:XK} (h:tD (Dm.eFm f j fs) σ H Q):pR (spM f) [] E (tDA (Dm.eV j::fs)) σ H Q:=by
 obtain ⟨H0,ρ,x,ρ',st,e,k⟩:=h
 unfold Dm.eFm at e
 split at e
 case h_2=>cases e
 rename_i d0 h0
 split at e
 ·cases e
 rename_i xs ρ1 e1
 split at e
 case h_2=>cases e
 rename_i d1 h1
 split at e
 ·cases e
 rename_i ds ρ2 e2
 split at e
 case h_2=>cases e
 rename_i d h2
 split at e
 ·cases e
 rename_i z d' fz
 have ea:Dm.eAs (Dm.eV j::fs) ρ=some (.slot j::xs,ρ1):=by
  unfold Dm.eAs
  rw [show Dm.eV j ρ=some (.slot j,ρ) from by unfold Dm.eV;rw [h0]]
  dsimp only
  rw [e1]
 refine ⟨H0,ρ,.slot j::xs,ρ1,st,ea,fun vs H1 Hb t1 r1=>?_⟩
 dsimp only
 rw [List.append_nil]
 cases r1 with
 | cons r0 rr=>
  obtain ⟨H2,t2,b2,r2⟩:=takes t1 (ak.refl _) rr e2
  obtain ⟨a,qa,na,wa⟩:=t2.st.ow j d h2
  obtain ⟨q0,_⟩:=r0
  rw [qa] at q0
  cases q0
  obtain ⟨a1,qa1,na1,wa1⟩:=t1.st.ow j d1 h1
  rw [qa] at qa1
  cases qa1
  obtain ⟨oa,ha⟩:=wa.some
  have hl2:j<ρ2.length:=(List.getElem?_eq_some_iff.mp h2).1
  have hl1:j<ρ1.length:=(List.getElem?_eq_some_iff.mp h1).1
  have oa0:aj σ ρ a:=t1.own a ⟨j,d1,h1,qa⟩
  refine ⟨H2,a,_,d,ds,z,d',rfl,t2.st.same,na,wa,r2,fz,fun v H3 Hd s3 ss n3 w3 r3=>?_⟩
  have no2:¬ aj σ (ρ2.set j .un) a:=fun y=>by
   obtain ⟨i,d4,hi,y1,y2⟩:=cN y
   exact hi (t2.st.dis i j d4 d a y1 h2 y2 qa)
  have no1:¬ aj σ (ρ1.set j .un) a:=fun y=>by
   obtain ⟨i,d4,hi,y1,y2⟩:=cN y
   exact hi (t1.st.dis i j d4 d1 a y1 h1 y2 qa)
  split at e
  ·rename_i fl
   cases e
   rw [Bool.and_eq_true] at fl
   obtain ⟨f1,f2⟩:=fl
   have wp:∀ H',Own H' Hd a d':=fun H'=>by
    cases d' with
    | lst ys=>
     obtain ⟨us,y1,y2⟩:=w3
     exact ⟨us,y1,e_ y2 f2⟩
    | _=>cases f2
   have fin:∀ H1':Hp,ak H1 H1'→ak H1' Hd→(∀ b o,H1' b=some o→H1 b=some o∨((∃ us,o=.tup us)∧H3 b=some o))→f_ H H1' Hd σ (ρ1.set j (.ow d')) v z.bG→Q v Hd:=fun H1' m1 m2 m3 rv=>by
    have hd3:∀ b,H1' b≠none→b≠a:=fun b hb y=>by
     subst y
     cases y2:H1' b with
     | none=>exact hb y2
     | some o=>
      rcases m3 b o y2 with y3 | ⟨_,y3⟩
      ·rw [na1] at y3;cases y3
      ·rw [n3] at y3;cases y3
    have n1':H1' a=none:=by
     cases y:H1' a with
     | none=>rfl
     | some o=>exact absurd rfl (hd3 a (by rw [y];exact fun q=>nomatch q))
    have sm:au H1' Hd σ (ρ1.set j .un):=by
     refine (t1.st.mask j).off m1 m2 no1 (fun b o y nb=>s3.s1 b o y nb) fun i d4 b y1 y2=>?_
     obtain ⟨b',q',nb',w'⟩:=(t1.st.mask j).ow i d4 y1
     rw [y2] at q'
     cases q'
     cases y:H1' b with
     | none=>rfl
     | some o=>
      rcases m3 b o y with y3 | ⟨⟨us,y4⟩,y3⟩
      ·rw [nb'] at y3;cases y3
      ·subst y4
       have nb:b≠a:=hd3 b (by rw [y];exact fun q=>nomatch q)
       cases d4 with
       | lst _=>
        obtain ⟨ws,z1,_⟩:=w'
        have z2:=s3.s1 b _ z1 nb
        rw [ss _ _ y3] at z2
        cases z2
       | dct _ _=>
        obtain ⟨ws,z1,_⟩:=w'
        have z2:=s3.s1 b _ z1 nb
        rw [ss _ _ y3] at z2
        cases z2
       | _=>exact False.elim w'
    have sf:au H1' Hd σ (ρ1.set j (.ow d')):=by
     have:=sm.kM qa no1 n1' (wp H1')
     rw [List.set_set] at this
     exact this
    refine k v H1' Hd ⟨sf,⟨t1.stp.s0.trans m1,fun b o y nb=>?_,fun b o y=>?_,fun b o y=>?_⟩,fun b y=>?_,fun i y=>?_⟩ rv
    ·have y1:=t1.stp.s1 b o y nb
     exact s3.s1 b o y1 fun q=>nb (by rw [q];exact oa0)
    ·rcases m3 b o y with y3 | ⟨_,y3⟩
     ·exact t1.stp.s2 b o y3
     ·rcases s3.s2 b o y3 with y4 | y4 | y4
      ·exact .inl (t1.stp.gone y4)
      ·exact t2.stp.s2 b o y4
      ·subst y4;rw [n3] at y3;cases y3
    ·obtain ⟨o',y1⟩:=t1.stp.s3 b o y
     exact s3.s3 b o' y1
    ·obtain ⟨i,d4,y1,y2⟩:=y
     by_cases hi:j=i
     ·subst hi
      rw [qa] at y2
      cases y2
      exact oa0
     ·rw [List.getElem?_set_ne hi] at y1
      exact t1.own b ⟨i,d4,y1,y2⟩
    ·trivial
   have m0:ak H1 Hd:=fun b o y=>s3.s1 b o (t1.st.same _ _ y) fun q=>by rw [q,na1] at y;cases y
   cases z with
   | new d4=>
    obtain ⟨_,_,_,_,w⟩:=r3
    cases d4 with
    | lst _=>cases f1
    | dct _ _=>cases f1
    | _=>exact False.elim w
   | val d4=>
    have r3':Rep H3 v d4:=r3
    cases d4 with
    | tup es=>
     cases r3' with
     | tup q rs=>
      rename_i a2 us
      have rp:aC H1 us es:=e_ rs f1
      refine fin (upd H1 a2 (.tup us)) (fun b o y=>?_) (fun b o y=>?_) (fun b o y=>?_) (.tup aq (e_ rs f1))
      ·by_cases hb:b=a2
       ·subst hb
        have:=s3.s0 _ _ (b2 _ _ y)
        rw [q] at this
        rw [aq,this]
       ·rw [ao hb];exact y
      ·by_cases hb:b=a2
       ·subst hb
        rw [aq] at y
        cases y
        exact ss _ _ q
       ·rw [ao hb] at y;exact m0 _ _ y
      ·by_cases hb:b=a2
       ·subst hb
        rw [aq] at y
        cases y
        exact .inr ⟨⟨us,rfl⟩,q⟩
       ·rw [ao hb] at y;exact .inl y
    | lst _=>cases f1
    | dct _ _=>cases f1
    | exc _=>cases f1
    | fn _=>exact fin H1 (ak.refl _) m0 (fun b o y=>.inl y) (Rep.plain r3' rfl)
    | non=>exact fin H1 (ak.refl _) m0 (fun b o y=>.inl y) (Rep.plain r3' rfl)
    | bl _=>exact fin H1 (ak.refl _) m0 (fun b o y=>.inl y) (Rep.plain r3' rfl)
    | int _=>exact fin H1 (ak.refl _) m0 (fun b o y=>.inl y) (Rep.plain r3' rfl)
    | str _=>exact fin H1 (ak.refl _) m0 (fun b o y=>.inl y) (Rep.plain r3' rfl)
  ·cases e
   have sm:au H3 Hd σ (ρ2.set j .un):=by
    refine (t2.st.mask j).off s3.s0 ss no2 (fun b o y nb=>s3.s1 b o y nb) fun i d4 b y1 y2=>?_
    obtain ⟨b',q',nb',w'⟩:=(t2.st.mask j).ow i d4 y1
    rw [y2] at q'
    cases q'
    obtain ⟨ob,hob⟩:=w'.some
    cases y:H3 b with
    | none=>rfl
    | some o=>
     rcases s3.s2 b o y with y3 | y3 | y3
     ·rw [hob] at y3;cases y3
     ·rw [nb'] at y3;cases y3
     ·exact absurd ⟨i,d4,y1,y3▸y2⟩ no2
   have sf:au H3 Hd σ (ρ2.set j (.ow d')):=by
    have:=sm.kM qa no2 n3 w3
    rw [List.set_set] at this
    exact this
   have of:∀ b,aj σ (ρ2.set j (.ow d')) b→b=a∨aj σ ρ2 b:=fun b ⟨i,d4,y1,y2⟩=>by
    by_cases hi:j=i
    ·subst hi
     rw [qa] at y2
     cases y2
     exact .inl rfl
    ·rw [List.getElem?_set_ne hi] at y1
     exact .inr ⟨i,d4,y1,y2⟩
   refine k v H3 Hd ⟨sf,t2.stp.trans s3 (fun b y=>.inl (y▸oa0)),fun b y=>?_,fun i y=>?_⟩ ?_
   ·rcases of b y with y | y
    ·exact y▸oa0
    ·exact t2.own b y
   ·trivial
   ·cases z with
    | val d4=>exact r3
    | new d4=>
     obtain ⟨b,y0,y1,y2,y3⟩:=r3
     refine ⟨b,y0,t2.stp.gone y1,fun y=>?_,y2,y3⟩
     rcases of b y with y | y
     ·subst y;rw [ha] at y1;cases y1
     ·exact t2.st.cC y1 y
end
theorem bq {X:Cx} {es:List Expr} {p pos px:Pos} {k:Nat} {F:Addr} {fd:FuncData} {ps:List Str} {g:List Dm.Dat→Option (Dm.RV×Dm.Dat)} {x y:Str} {j:Nat} {fs:List Dm.FE} (G:aR X.prog X.w X.K X.mg X.base CX0 k F fd ps (spM g)) (hr:bB k X.A) (hg:Gl X x) (hm:X.mg x=some (.ref F)) (hk:PySem.W.keepIn X.K (.ref F)=true) (hb:Binds X.K fd ps [])
  (ha:DA X (.Name y px::es) (Dm.eV j::fs)) (hdb:(x == ("__debug__" : Str))=false:=by decide) (he:starEach (.Name y px::es) X.env=(false,eval (.Name y px) X.env)::starEach es X.env:=by rfl) (hpl:(backTo pos (starEach es X.env)).any (·.1)=false:=by rfl) :
  DE X (.Call (.Name x p) (.Name y px::es) [] pos) (Dm.eFm g j fs):=PE.weak (jK G hr hg hm hk hb .nil (se (X:=X)) ha hdb he hpl) fun _ _ _=>Ea
theorem ng {N:List Str} {n m:Nat} {body:Dm.FS} {vs:List V} {H:Hp} {Q:VK} {E:XK} (hm:N.length=n+m) (h:spM (Dm.fnM n m body) vs H Q E) :
  tDS body { nx:=fun _ H'=>Q .non H',rt:=Q } (start N vs) H:=by
 have hvn:=d_ h
 obtain ⟨H0,a,us,d,ds,z,d',e,s,na,wa,rs,ef,k⟩:=h
 subst e
 have hl:=rs.length
 rw [List.length_cons] at hvn
 have e0:(start N (V.ref a::us))[0]?=some (some (V.ref a)):=rfl
 have get:∀ {i:Nat} {c:Dm.Cell},(Dm.Cell.ow d::(ds.map Dm.Cell.sh++List.replicate m .un))[i]?=some c→(i=0∧c=.ow d)∨(∃ i' d4,i=i'+1∧ds[i']?=some d4∧c=.sh d4)∨c=.un:=fun {i c} y=>by
  cases i with
  | zero=>cases y;exact .inl ⟨rfl,rfl⟩
  | succ i=>
   rw [List.getElem?_cons_succ] at y
   by_cases hi:i<ds.length
   ·rw [List.getElem?_append_left (by simpa using hi),List.getElem?_map,List.getElem?_eq_getElem hi] at y
    cases y
    exact .inr (.inl ⟨i,ds[i],rfl,List.getElem?_eq_getElem hi,rfl⟩)
   ·rw [List.getElem?_append_right (by simpa using hi),List.getElem?_replicate] at y
    split at y
    ·cases y;exact .inr (.inr rfl)
    ·cases y
 have ow0:∀ {i:Nat} {d4:Dm.Dat},(Dm.Cell.ow d::(ds.map Dm.Cell.sh++List.replicate m .un))[i]?=some (.ow d4)→i=0∧d4=d:=fun {i d4} y=>by
  rcases get y with ⟨y1,y2⟩ | ⟨_,_,_,_,y2⟩ | y2
  ·cases y2;exact ⟨y1,rfl⟩
  ·cases y2
  ·cases y2
 have oa:∀ b,aj (start N (V.ref a::us)) (Dm.Cell.ow d::(ds.map Dm.Cell.sh++List.replicate m .un)) b→b=a:=fun b ⟨i,d4,y1,y2⟩=>by
  obtain ⟨y3,_⟩:=ow0 y1
  subst y3
  rw [e0] at y2
  cases y2
  rfl
 have st:au H0 H (start N (V.ref a::us)) (Dm.Cell.ow d::(ds.map Dm.Cell.sh++List.replicate m .un)):=by
  refine ⟨s,?_,fun i d4 y=>?_,fun i d4 y=>?_,fun i i' d4 d5 b y1 y2 _ _=>(ow0 y1).1.trans (ow0 y2).1.symm⟩
  ·unfold L2.start
   simp only [List.length_append,List.length_map,List.length_replicate,List.length_cons]
   omega
  ·rcases get y with ⟨_,y2⟩ | ⟨i',d5,y1,y2,y3⟩ | y2
   ·cases y2
   ·cases y3
    subst y1
    obtain ⟨v,hv,r⟩:=rs.get y2
    refine ⟨v,?_,r⟩
    have hi:i'<us.length:=(List.getElem?_eq_some_iff.mp hv).1
    unfold L2.start
    rw [List.getElem?_append_left (by simp;omega),List.getElem?_map,List.getElem?_cons_succ,hv]
    rfl
   ·cases y2
  ·obtain ⟨y1,y2⟩:=ow0 y
   subst y1 y2
   exact ⟨a,e0,na,wa⟩
 have fin:∀ {σ':L2.St} {ρ':Dm.Env} {H0' H':Hp},SSt (start N (V.ref a::us)) (Dm.Cell.ow d::(ds.map Dm.Cell.sh++List.replicate m .un)) H0 H σ' ρ' H0' H'→ρ'[0]?=some (.ow d')→Stp (fun b=>b=a) H0 H H0' H'∧H0' a=none∧Own H0' H' a d'∧aj σ' ρ' a:=fun {σ' ρ' H0' H'} t y=>by
  obtain ⟨a',q',n',w'⟩:=t.st.ow 0 d' y
  have fx:=t.fx
  rw [e0,q'] at fx
  cases fx
  exact ⟨t.stp.wide fun b z=>oa b z,n',w',0,d',y,q'⟩
 unfold Dm.fnM at ef
 split at ef
 case isFalse=>cases ef
 dsimp only at ef
 split at ef
 ·rename_i z' ρ' e1
  split at ef
  case h_2=>cases ef
  rename_i d4 y
  cases ef
  refine ⟨H0,_,_,st,e1,fun σ' v H0' H' t r no=>?_⟩
  obtain ⟨f1,f2,f3,f4⟩:=fin t y
  refine k v H0' H' f1 t.st.same f2 f3 ?_
  cases z with
  | val d5=>exact r
  | new d5=>
   obtain ⟨b,y0,y1,y2,y3⟩:=r
   refine ⟨b,y0,?_,y2,y3⟩
   rcases y1 with y1 | y1
   ·exact y1
   ·exact absurd f4 (oa b y1▸no d5 b rfl y0)
 ·rename_i ρ' e1
  split at ef
  case h_2=>cases ef
  rename_i d4 y
  cases ef
  refine ⟨H0,_,_,st,e1,fun σ' H0' H' t=>?_⟩
  obtain ⟨f1,f2,f3,f4⟩:=fin t y
  exact k _ H0' H' f1 t.st.same f2 f3 .non
 ·cases ef
end Br
namespace Dm
noncomputable def bO:List Int→List Dat→Int→Option Dat
 | k::ks,v::vs,i=>if k=i then some v else bO ks vs i
 | _,_,_=>none
noncomputable def xu:List Int→List Dat→Int→Dat→List Dat
 | k::ks,v::vs,i,d=>(if k=i then d else v)::xu ks vs i d
 | _,_,_,_=>[]
noncomputable def lB (ks:List Int) (i:Int):List Int:=if (ks.any fun k=>decide (k=i))=true then ks else ks++[i]
noncomputable def lC (ks:List Int) (vs:List Dat) (i:Int) (d:Dat):List Dat:=if (ks.any fun k=>decide (k=i))=true then xu ks vs i d else vs++[d]
noncomputable def eDn:FE:=fun ρ=>some (.new (.dct [] []),ρ)
noncomputable def gDx:Dat→Dat→Option RV
 | .dct ks vs,.int i=>(bO ks vs i).map .val
 | _,_=>none
noncomputable def yV:Dat→Dat→Option RV
 | .int i,.dct ks vs=>vB (bO ks vs i).isSome
 | _,_=>none
noncomputable def sN:Dat→Dat→Option RV
 | .int i,.dct ks vs=>vB (!(bO ks vs i).isSome)
 | _,_=>none
noncomputable def lD (a b:FE):FE:=fun ρ=>match a ρ with
 | none=>none
 | some (x,ρ1)=>match pk ρ1 x with
  | some (.dct _ _)=>(match b ρ1 with
   | none=>none
   | some (y,ρ2)=>match pk ρ2 x with
    | some (.dct ks vs)=>(match pk ρ2 y with
     | some (.int i)=>some (.val ((bO ks vs i).getD .non),ρ2)
     | _=>none)
    | _=>none)
  | _=>none
noncomputable def eD1 (a b:FE):FE:=fun ρ=>match a ρ with
 | some (.val (.int i),ρ1)=>(match b ρ1 with
  | none=>none
  | some (x,ρ2)=>match tk ρ2 x with
   | none=>none
   | some (d,ρ3)=>some (.new (.dct [i] [d]),ρ3))
 | _=>none
noncomputable def nh (i:Nat) (j e:FE):FS:=fun ρ=>match e ρ with
 | none=>none
 | some (x,ρ1)=>match tk ρ1 x with
  | none=>none
  | some (d,ρ2)=>match ρ2[i]? with
   | some (.ow _)=>(match j ρ2 with
    | some (.val (.int k),ρ3)=>(match ρ3[i]? with
     | some (.ow (.dct ks vs))=>if ks.length<SZ then some (.nx (ρ3.set i (.ow (.dct (lB ks k) (lC ks vs k d))))) else none
     | _=>none)
    | _=>none)
   | _=>none
end Dm
namespace Br
open PySem PySem.Spec PyProof.Rows L2
theorem dY {H0 H:Hp} (s:ak H0 H) {v:V} {ks:List Int} {ds:List Dm.Dat} (r:kJ H0 H v (.dct ks ds)):∃ a kvs,v=.ref a∧H a=some (.dK kvs)∧kvs.map (·.1)=ks.map Sum.inl∧aC H0 (kvs.map (·.2)) ds:=by
 rcases r with r | ⟨a,e,kvs,q,ek,rs⟩
 ·cases r with
  | dct q ek rs=>exact ⟨_,_,rfl,s _ _ q,ek,rs⟩
 ·exact ⟨a,kvs,e,q,ek,rs⟩
theorem qO {a b:Int} (h:¬ a=b):¬ (Sum.inl a:Key)=Sum.inl b:=fun q=>h (Sum.inl.inj q)
theorem gT {H0:Hp} (i:Int):∀ {kvs:List (Key×V)} {ks:List Int} {ds:List Dm.Dat},kvs.map (·.1)=ks.map Sum.inl→aC H0 (kvs.map (·.2)) ds →
  (∃ d v,Dm.bO ks ds i=some d∧iB kvs (Sum.inl i)=some v∧Rep H0 v d)∨(Dm.bO ks ds i=none∧iB kvs (Sum.inl i)=none)
 | [],[],_,_,r=>by cases r;exact .inr ⟨rfl,rfl⟩
 | [],_::_,_,e,_=>by cases e
 | _::_,[],_,e,_=>by cases e
 | (k0,v0)::kvs,k::ks,_,e,r=>by
  rw [List.map_cons] at r
  cases r with
  | cons r0 rr=>
   rw [List.map_cons,List.map_cons] at e
   injection e with e1 e2
   have e1:k0=Sum.inl k:=e1
   subst e1
   unfold Dm.bO
   by_cases h:k=i
   ·subst h
    rw [if_pos rfl]
    exact .inl ⟨_,v0,rfl,jL rfl,r0⟩
   ·rw [if_neg h,jM (qO h)]
    exact gT i e2 rr
theorem AV (i:Int):∀ {kvs:List (Key×V)} {ks:List Int},kvs.map (·.1)=ks.map Sum.inl→(kvs.any fun kv=>decide (kv.1=Sum.inl i))=(ks.any fun k=>decide (k=i))
 | [],[],_=>rfl
 | [],_::_,e=>by cases e
 | _::_,[],e=>by cases e
 | (k0,v0)::kvs,k::ks,e=>by
  rw [List.map_cons,List.map_cons] at e
  injection e with e1 e2
  have e1:k0=Sum.inl k:=e1
  subst e1
  rw [List.any_cons,List.any_cons,AV i e2]
  congr 1
  by_cases h:k=i
  ·subst h;simp
  ·have:=qO h;simp [h,this]
theorem xw {H0:Hp} (i:Int) {v:V} {d:Dm.Dat} (rv:Rep H0 v d):∀ {kvs:List (Key×V)} {ks:List Int} {ds:List Dm.Dat},kvs.map (·.1)=ks.map Sum.inl→aC H0 (kvs.map (·.2)) ds →
  ((kvs.map fun kv=>if kv.1=Sum.inl i then (kv.1,v) else kv).map (·.1)=ks.map Sum.inl)∧aC H0 ((kvs.map fun kv=>if kv.1=Sum.inl i then (kv.1,v) else kv).map (·.2)) (Dm.xu ks ds i d)
 | [],[],_,_,r=>by cases r;exact ⟨rfl,.nil⟩
 | [],_::_,_,e,_=>by cases e
 | _::_,[],_,e,_=>by cases e
 | (k0,v0)::kvs,k::ks,_,e,r=>by
  rw [List.map_cons] at r
  cases r with
  | cons r0 rr=>
   rw [List.map_cons,List.map_cons] at e
   injection e with e1 e2
   have e1:k0=Sum.inl k:=e1
   subst e1
   obtain ⟨i1,i2⟩:=xw i rv e2 rr
   unfold Dm.xu
   by_cases h:k=i
   ·subst h
    rw [if_pos rfl,List.map_cons,List.map_cons,List.map_cons,i1]
    simp only [if_true]
    exact ⟨trivial,.cons rv i2⟩
   ·rw [if_neg h,List.map_cons,List.map_cons,List.map_cons,i1]
    have:=qO h
    simp only [this,if_false]
    exact ⟨trivial,.cons r0 i2⟩
theorem Il {H0:Hp} (i:Int) {v:V} {d:Dm.Dat} (rv:Rep H0 v d) {kvs:List (Key×V)} {ks:List Int} {ds:List Dm.Dat} (e:kvs.map (·.1)=ks.map Sum.inl) (r:aC H0 (kvs.map (·.2)) ds) :
  (putK kvs (Sum.inl i) v).map (·.1)=(Dm.lB ks i).map Sum.inl∧aC H0 ((putK kvs (Sum.inl i) v).map (·.2)) (Dm.lC ks ds i d):=by
 have ha:=AV i e
 unfold putK Dm.lB Dm.lC
 rw [ha]
 cases hb:(ks.any fun k=>decide (k=i)) with
 | true=>
  simp only [if_true]
  exact xw i rv e r
 | false=>
  simp only [Bool.false_eq_true,if_false]
  rw [List.map_append,List.map_append,List.map_append,e]
  exact ⟨rfl,r.append (.cons rv .nil)⟩
theorem Lv:OpD (fun x y H Q=>∃ a v,x=.ref a∧fS H a y (some v)∧Q v H) Dm.gDx:=by
 intro H0 H x y dx dy z Q s rx ry e k
 unfold Dm.gDx at e
 split at e
 ·rename_i ks vs i
  cases aA ry
  obtain ⟨a,kvs,rfl,qa,ek,rs⟩:=dY s rx
  rcases gT i ek rs with ⟨d,v,l1,l2,r⟩ | ⟨l1,_⟩
  ·rw [l1] at e
   cases e
   refine ⟨a,v,rfl,?_,k _ H0 H (aK.refl s) r⟩
   have:=fS.k (k:=Sum.inl i) qa
   rw [l2] at this
   exact this
  ·rw [l1] at e;cases e
 ·cases e
theorem Im:OpD (fun y x H Q=>∃ a o,x=.ref a∧fS H a y o∧Q (.bl o.isSome) H) Dm.yV:=by
 intro H0 H x y dx dy z Q s rx ry e k
 unfold Dm.yV at e
 split at e
 ·rename_i i ks vs
  cases e
  cases aA rx
  obtain ⟨a,kvs,rfl,qa,ek,rs⟩:=dY s ry
  refine ⟨a,_,rfl,fS.k (k:=Sum.inl i) qa,k _ H0 H (aK.refl s) ?_⟩
  rcases gT i ek rs with ⟨d,v,l1,l2,r⟩ | ⟨l1,l2⟩
  ·rw [l1,l2];exact .bl _
  ·rw [l1,l2];exact .bl _
 ·cases e
theorem Eb:OpD (fun y x H Q=>∃ a o,x=.ref a∧fS H a y o∧Q (.bl (!o.isSome)) H) Dm.sN:=by
 intro H0 H x y dx dy z Q s rx ry e k
 unfold Dm.sN at e
 split at e
 ·rename_i i ks vs
  cases e
  cases aA rx
  obtain ⟨a,kvs,rfl,qa,ek,rs⟩:=dY s ry
  refine ⟨a,_,rfl,fS.k (k:=Sum.inl i) qa,k _ H0 H (aK.refl s) ?_⟩
  rcases gT i ek rs with ⟨d,v,l1,l2,r⟩ | ⟨l1,l2⟩
  ·rw [l1,l2];exact .bl _
  ·rw [l1,l2];exact .bl _
 ·cases e
section
variable {σ:L2.St} {H:Hp} {Q:VK} {D:Ends}
theorem Nn (h:tD Dm.eDn σ H Q):z6 σ H Q:=by
 obtain ⟨H0,ρ,x,ρ',st,e,k⟩:=h
 cases e
 intro p hp
 have g:=aK.mU (o:=HO.dK []) st.same hp
 exact k _ _ _ (.grow st g) ⟨p,rfl,hp,st.cC hp,st.same.free hp,[],aq,rfl,.nil⟩
theorem Io {fo fi:Dm.FE} (h:tD (Dm.lD fo fi) σ H Q):Aa (tD fo) (tD fi) σ H Q:=by
 obtain ⟨H0,ρ,x,ρ',st,e,k⟩:=h
 unfold Dm.lD at e
 split at e
 ·cases e
 rename_i x1 ρ1 e1
 split at e
 case h_2=>cases e
 rename_i ks0 vs0 p0
 split at e
 ·cases e
 rename_i y1 ρ2 e2
 split at e
 case h_2=>cases e
 rename_i ks vs p1
 split at e
 case h_2=>cases e
 rename_i i p2
 cases e
 refine ⟨H0,ρ,x1,ρ1,st,e1,fun v H1 Hb t1 r1=>?_⟩
 obtain ⟨a,Ip,rfl,qa0,_,_⟩:=dY t1.st.same (r1.look t1.st p0)
 refine ⟨a,rfl,.inl ⟨Ip,.inl qa0⟩,H1,ρ1,y1,_,t1.st,e2,fun u H2 Hc t2 r2=>?_⟩
 have hu:=aA (r2.look t2.st p2)
 subst hu
 obtain ⟨a',kvs,ea,qa,ek,rs⟩:=dY t2.st.same ((r1.mono t2).look t2.st p1)
 cases ea
 refine ⟨_,fS.k (k:=Sum.inl i) qa,k _ H2 Hc (t1.trans t2) ?_⟩
 rcases gT i ek rs with ⟨d,w,l1,l2,r⟩ | ⟨l1,l2⟩
 ·rw [l1,l2];exact r
 ·rw [l1,l2];exact Rep.non
theorem Iq {i:Nat} {j f:Dm.FE} (h:tDS (Dm.nh i j f) D σ H):FA (rZ i) (tD j) (tD f) D σ H:=by
 obtain ⟨H0,ρ,o,st,e,k⟩:=h
 unfold Dm.nh at e
 split at e
 ·cases e
 rename_i x ρ1 e1
 split at e
 ·cases e
 rename_i d ρ2 e2
 split at e
 case h_2=>cases e
 rename_i d0 h2
 split at e
 ·rename_i m ρ3 e3
  split at e
  ·rename_i ks vs h3
   split at e
   case isFalse=>cases e
   rename_i hz
   cases e
   refine ⟨H0,ρ,_,ρ1,st,e1,fun v H0' H' t r=>?_⟩
   obtain ⟨H1,t1,b1,r1,_,_⟩:=take1 t (ak.refl _) r e2
   obtain ⟨a0,q0,_,_⟩:=t1.st.ow i _ h2
   refine ⟨_,q0,H1,ρ2,_,ρ3,t1.st,e3,fun u H2 Hc t2 r2=>?_⟩
   obtain ⟨a,q,n,w⟩:=t2.st.ow i _ h3
   rw [q0] at q
   cases q
   obtain ⟨kvs,y,ek,rs⟩:=w
   have hu:=Rep.isInt r2
   subst hu
   obtain ⟨p1,p2⟩:=Il m (r1.mono t2.stp.s0) ek rs
   have hlen:kvs.length=ks.length:=by
    have:=congrArg List.length ek
    simpa using this
   refine ⟨a0,_,rfl,z5.k (k:=Sum.inl m) y (by rw [hlen];exact Nat.lt_of_lt_of_le hz (by decide)),?_⟩
   have ow:aj σ ρ3 a0:=⟨i,_,h3,q0⟩
   have tt:=t1.trans t2
   exact k σ H2 _ ⟨t2.st.write h3 q0 ⟨_,aq,p1,p2⟩,tt.stp.trans (Stp.write ow) fun b z=>.inl (tt.own b z),fun b z=>.inl (tt.own b (c_ h3 z)),rfl⟩
  ·cases e
 ·cases e
theorem Np {fa fb:Dm.FE} (h:tD (Dm.eD1 fa fb) σ H Q):FD [(tD fa,tD fb)] σ H Q:=by
 obtain ⟨H0,ρ,x,ρ',st,e,k⟩:=h
 unfold Dm.eD1 at e
 split at e
 ·rename_i i ρ1 e1
  split at e
  ·cases e
  rename_i y ρ2 e2
  split at e
  ·cases e
  rename_i d ρ3 e3
  cases e
  intro p hp
  have n0:H0 p=none:=st.same.free hp
  have no:¬ aj σ ρ p:=st.cC hp
  refine ⟨H0,ρ,_,ρ1,st.aside n0 no,e1,fun u H1 Hb t1 r1=>⟨H1,ρ1,y,ρ2,t1.st,e2,fun v H2 Hc t2 r2=>?_⟩⟩
  have tt:=t1.trans t2
  obtain ⟨H3,t3,b3,r3,_,_⟩:=take1 tt (ak.refl _) (r2.early fun a n=>t1.stp.gone n) e3
  obtain ⟨hp3,n3,no3⟩:=t3.dW (o:=HO.dK []) aq n0 no
  have hu:=Rep.isInt r1
  subst hu
  refine ⟨hp3,[(Sum.inl i,v)],rfl,(by simp),?_⟩
  have em:kF [] [((Sum.inl i:Key),v)]=[(Sum.inl i,v)]:=rfl
  rw [em]
  refine k _ H3 _ ⟨t3.st.aside n3 no3,⟨t3.stp.s0,fun a o y nb=>?_,fun a o y=>?_,fun a o y=>?_⟩,t3.own,t3.dfn⟩ ⟨p,rfl,hp,no3,n3,_,aq,rfl,.cons r3 .nil⟩
  ·have ne:a≠p:=fun q=>by rw [q,hp] at y;cases y
   rw [ao ne]
   exact t3.stp.s1 a o (by rw [ao ne];exact y) nb
  ·rcases t3.stp.s2 a o y with y1 | y1 | y1
   ·by_cases ne:a=p
    ·subst ne;rw [n3] at y;cases y
    ·rw [ao ne] at y1;exact .inl y1
   ·exact .inr (.inl y1)
   ·exact .inr (.inr y1)
  ·have ne:a≠p:=fun q=>by rw [q,hp] at y;cases y
   rw [ao ne]
   exact t3.stp.s3 a o (by rw [ao ne];exact y)
 ·cases e
end
theorem u1 {k:Nat} {A:Around} (hr:bB k A):A.units+1<cLine:=Nat.lt_of_le_of_lt (Nat.add_le_add_left (by decide) _) hr.units
section
variable {X:Cx} {a b e:Expr} {fa fb f:Dm.FE} {pos:Pos} {k:Nat}
theorem Nq:DE X (.Dict [] [] pos) Dm.eDn:=PE.weak z7 fun _ _ _=>Nn
theorem Nr (ha:DE X a fa) (hb:DE X b fb):DE X (.Dict [some a] [b] pos) (Dm.eD1 fa fb):=PE.weak (DG (z8 ha hb DC) rfl rfl (by simp) (by simp)) fun _ _ _=>Np
theorem Ir (hr:bB k X.A) (ha:DE X a fa) (hb:DE X b fb) (hs:Hy b:=by intro _ _;rfl):DE X (.Subscript a b pos) (Dm.e2 Dm.gDx fa fb):=PE.weak (Dz (u1 hr) ha hb hs) fun _ _ _=>ve Lv
theorem FW (hr:bB k X.A) (ha:DE X a fa) (hb:DE X b fb) (hm:behindInMarks .In b=false:=by rfl):DT X (.Compare a [.In] [b] pos) (Dm.tV (Dm.e2 Dm.yV fa fb)):=PT.weak (zB (Hz (u1 hr) ha hb) hm) fun σ H Q h=>ve Im (qF h)
theorem Iu (hr:bB k X.A) (ha:DE X a fa) (hb:DE X b fb) (hm:behindInMarks .NotIn b=false:=by rfl):DT X (.Compare a [.NotIn] [b] pos) (Dm.tV (Dm.e2 Dm.sN fa fb)):=PT.weak (zB (yJ (u1 hr) ha hb) hm) fun σ H Q h=>ve Eb (qF h)
theorem AW {apos cpos:Pos} (hr:bB k X.A) (ha:DE X a fa) (hb:DE X b fb) (m:M1 X a "get" apos b cpos:=by exact ⟨rfl,rfl,rfl,rfl⟩):DE X (.Call (.Attribute a "get" apos) [b] [] cpos) (Dm.lD fa fb):=PE.weak (Ac (u1 hr) ha hb m) fun _ _ _=>Io
theorem AX (i:Nat) {x:Str} {px sp:Pos} (hr:bB k X.A) (hb:DE X b fb) (he:DE X e f) (hi:X.N[i]?=some x:=by rfl) (hv:Vis X.env.scope x:=by first | exact Or.inl rfl | exact Or.inr (Or.inl rfl) | exact Or.inr (Or.inr rfl)) (hd:(x == ("__debug__" : Str))=false:=by decide)
  (hcd:(x == ("__classdict__" : Str))=false:=by decide) (hs:swapsWith e (some (.Subscript (.Name x px) b sp)) pos.line X.env=pure false:=by rfl):DS X (.Assign [.Subscript (.Name x px) b sp] e pos) (Dm.nh i fb f):=
 PS.weak (DB (u1 hr) (iz hi hv hd hcd) hb he hs) fun _ _ _=>Iq
end
end Br
namespace Dm
end Dm
namespace Br
open PySem PySem.Spec PyProof.Rows L2
section
variable {σ:L2.St} {H:Hp} {Q:VK}
theorem Nt {K:PySem.W.Frag} {f:Dm.FE} {Q:Bool→Hp→Prop} (h:tDT (Dm.tTr f) σ H Q):tD f σ H fun x H'=>∃ k,G_ K x H' k∧Q k H':=by
 obtain ⟨H0,ρ,b,ρ',st,e,k⟩:=h
 unfold Dm.tTr at e
 split at e
 ·cases e
 rename_i x ρ1 e1
 split at e
 ·cases e
 rename_i d p1
 split at e
 ·cases e
 rename_i c tc
 cases e
 refine ⟨H0,ρ,x,_,st,e1,fun v H1 Hb t1 r1=>⟨b,?_,k H1 Hb t1⟩⟩
 have rl:=r1.look t1.st p1
 cases d with
 | non=>
  cases tc
  rcases rl with r | ⟨a,_,w⟩
  ·cases r;rfl
  ·exact False.elim w
 | bl c=>
  cases tc
  cases xg rl
  rfl
 | int i=>
  cases tc
  cases aA rl
  rfl
 | tup es=>
  cases tc
  obtain ⟨a,xs,rfl,qa,rs⟩:=eT t1.st.same rl
  refine .inr (.inl ⟨xs,SqT.of qa,?_⟩)
  cases rs<;>rfl
 | lst es=>
  cases tc
  obtain ⟨a,xs,rfl,qa,rs⟩:=b8 t1.st.same rl
  refine .inl ⟨xs,.inl qa,?_⟩
  cases rs<;>rfl
 | str _=>cases tc
 | dct _ _=>cases tc
 | exc _=>cases tc
 | fn _=>cases tc
end
section
variable {X:Cx} {a:Expr} {fa:Dm.FE} {p pos:Pos}
theorem Nu (ha:DE X a fa) (he:∀ whole,isTrue a X.env whole=(do let v ← whole;standAt a.pos;holding [v] (truthy v)):=by intro _;rfl):DT X a (Dm.tTr fa):=PT.weak (zT ha he) fun _ _ _=>Nt
end
section
variable {X:Cx} {a b e:Expr} {fa fb f:Dm.FE} {fs:List Dm.FE} {p p2 pos:Pos}
end
end Br
namespace Dm
end Dm
namespace Br
open PySem PySem.Spec PyProof.Rows L2
section
variable {X:Cx}
end
section
variable {X:Cx} {e:Expr} {f:Dm.FE} {p p0 pos pJ:Pos}
end
end Br
namespace Ts
open PySem PyProof.Rows
variable {M:Model} {A:Around} {E:Value→Shared→Prop} {s:Shared} {κ:KeyKind} {kd:SortKind} {a₀:Array Keyed}
end Ts
namespace Ts
open PySem PyProof.Rows
variable {M:Model} {A:Around} {E:Value→Shared→Prop} {s:Shared} {κ:KeyKind} {kd:SortKind} {a₀:Array Keyed}
section
variable {prog:Program} {w:World}
end
end Ts
namespace Ts
open PySem PyProof.Rows
variable {M:Model} {A:Around} {E:Value→Shared→Prop} {s:Shared} {κ:KeyKind} {kd:SortKind} {a₀:Array Keyed}
end Ts
namespace Ts
open PySem PyProof.Rows
variable {M:Model} {A:Around} {E:Value→Shared→Prop} {s:Shared} {κ:KeyKind} {kd:SortKind} {a₀:Array Keyed}
end Ts
namespace Ts
open PySem PyProof.Rows
variable {A:Around} {E:Value→Shared→Prop} {s:Shared} {κ:KeyKind} {kd:SortKind} {a₀:Array Keyed} {prog:Program} {w:World}
section
variable {a b:Array Keyed}
end
end Ts
namespace Ts
open PySem PyProof.Rows
variable {A:Around} {E:Value→Shared→Prop} {s:Shared} {κ:KeyKind} {kd:SortKind} {a₀:Array Keyed} {prog:Program} {w:World}
section
variable {a b:Array Keyed}
end
end Ts
namespace Ts
open PySem PyProof.Rows
variable {A:Around} {E:Value→Shared→Prop} {s:Shared} {κ:KeyKind} {kd:SortKind} {a₀:Array Keyed} {prog:Program} {w:World}
end Ts
namespace Ts
open PySem PyProof.Rows
variable {A:Around} {E:Value→Shared→Prop} {s:Shared} {κ:KeyKind} {kd:SortKind} {a₀:Array Keyed} {prog:Program} {w:World}
end Ts
namespace Ts
open PySem PyProof.Rows
variable {A:Around} {E:Value→Shared→Prop} {s:Shared} {κ:KeyKind} {kd:SortKind} {prog:Program} {w:World}
end Ts
namespace Ts
open PySem PyProof.Rows
variable {A:Around} {E:Value→Shared→Prop} {s:Shared} {κ:KeyKind} {kd:SortKind} {a₀:Array Keyed} {prog:Program} {w:World}
end Ts
namespace Ts
open PySem PyProof.Rows
variable {A:Around} {E:Value→Shared→Prop} {s:Shared} {κ:KeyKind} {kd:SortKind} {prog:Program} {w:World}
end Ts
namespace Tk
open PySem PySem.W PyProof.Rows
section
variable {cmp:Nat→Nat→(Bool→Shared→Prop)→Shared→Prop} {s:Shared} {lt:Nat→Nat→Bool} {n pos:Nat}
end
section
variable {A:Around} {E:Value→Shared→Prop} {s:Shared} {kd:SortKind} {prog:Program} {w:World} {lt:Nat→Nat→Bool} {pos:Nat} {vs:List Value} {v:Value}
end
end Tk
namespace Dm
noncomputable def ins {α:Type} (lt:α→α→Bool) (x:α):List α→List α
 | []=>[x]
 | y::l=>if lt y x then y::ins lt x l else x::y::l
noncomputable def fM {α:Type} (lt:α→α→Bool):List α→List α
 | []=>[]
 | x::l=>ins lt x (fM lt l)
theorem ni {α:Type} (lt:α→α→Bool) (x:α):∀ l,(ins lt x l).Perm (x::l)
 | []=>List.Perm.refl _
 | y::l=>by
  rw [ins]
  split
  ·exact ((ni lt x l).cons y).trans (List.Perm.swap x y l)
  ·exact List.Perm.refl _
theorem ff {α:Type} (lt:α→α→Bool):∀ l,(fM lt l).Perm l
 | []=>List.Perm.refl _
 | x::l=>(ni lt x _).trans ((ff lt l).cons x)
theorem nj {α:Type} {lt:α→α→Bool} (tr:∀ a b c,lt b a=false→lt c b=false→lt c a=false) (as:∀ a b,lt a b=true→lt b a=false) (x:α):∀ l:List α,l.Pairwise (fun a b=>lt b a=false)→(ins lt x l).Pairwise (fun a b=>lt b a=false)
 | [],_=>by simp [ins]
 | y::l,h=>by
  rw [ins]
  obtain ⟨h1,h2⟩:=List.pairwise_cons.mp h
  split
  ·rename_i hl
   refine List.pairwise_cons.mpr ⟨fun z hz=>?_,nj tr as x l h2⟩
   rcases List.mem_cons.mp ((ni lt x l).mem_iff.mp hz) with rfl | hz
   ·exact as _ _ hl
   ·exact h1 z hz
  ·rename_i hl
   have hl':lt y x=false:=by simpa using hl
   refine List.pairwise_cons.mpr ⟨fun z hz=>?_,h⟩
   rcases List.mem_cons.mp hz with rfl | hz
   ·exact hl'
   ·exact tr _ _ _ hl' (h1 z hz)
theorem fh {α:Type} {lt:α→α→Bool} (tr:∀ a b c,lt b a=false→lt c b=false→lt c a=false) (as:∀ a b,lt a b=true→lt b a=false):∀ l:List α,(fM lt l).Pairwise (fun a b=>lt b a=false)
 | []=>List.Pairwise.nil
 | x::l=>nj tr as x _ (fh tr as l)
theorem lE {α:Type} {lt:α→α→Bool} (tot:∀ a b,lt a b=false→lt b a=false→a=b):∀ {l m:List α},l.Perm m→l.Pairwise (fun a b=>lt b a=false)→m.Pairwise (fun a b=>lt b a=false)→l=m
 | [],m,p,_,_=>(List.nil_perm.mp p).symm
 | x::l,[],p,_,_=>by have:=p.length_eq;simp at this
 | x::l,y::m,p,h1,h2=>by
  obtain ⟨a1,a2⟩:=List.pairwise_cons.mp h1
  obtain ⟨b1,b2⟩:=List.pairwise_cons.mp h2
  have e:x=y:=by
   rcases List.mem_cons.mp (p.mem_iff.mp List.mem_cons_self) with hx | hx
   ·exact hx
   ·rcases List.mem_cons.mp (p.mem_iff.mpr (List.mem_cons_self (a:=y) (l:=m))) with hy | hy
    ·exact hy.symm
    ·exact tot x y (b1 x hx) (a1 y hy)
  subst e
  rw [lE tot (List.Perm.cons_inv p) a2 b2]
end Dm
namespace Br
open PySem PySem.Spec PyProof.Rows L2
section
variable {prog:Program} {w:World} {A:Around} {E:Value→Shared→Prop} {s:Shared}
end
section
variable {X:Cx}
end
end Br
namespace Dm
noncomputable def kO (i:Nat) (e:FE):FE:=fun ρ=>match ρ[i]? with
 | some (.ow (.lst _))=>(match e ρ with
  | some (.val (.int j),ρ1)=>(match ρ1[i]? with
   | some (.ow (.lst ds))=>if 0≤j∧j≤BIG then (match ds[j.toNat]? with
     | some d=>some (.val d,ρ1.set i (.ow (.lst (ds.eraseIdx j.toNat))))
     | none=>none) else none
   | _=>none)
  | _=>none)
 | _=>none
noncomputable def isN:Dat→Bool
 | .non=>true
 | _=>false
noncomputable def AY:Dat→Dat→Option RV
 | d,.non=>vB (isN d)
 | _,_=>none
noncomputable def cz (bad:List Dat→Bool) (fs:List FE) (ρ:Env):Option Env:=match eAs fs ρ with
 | none=>none
 | some (xs,ρ1)=>match pks ρ1 xs with
  | none=>none
  | some ds=>if bad ds then some ρ1 else none
noncomputable def rIf (t:FT) (R S:Env→Option Env) (ρ:Env):Option Env:=match t ρ with
 | none=>none
 | some (true,ρ1)=>R ρ1
 | some (false,ρ1)=>S ρ1
noncomputable def Iv (ρ:Env):Option Env:=some ρ
noncomputable def rNo (_:Env):Option Env:=none
noncomputable def fnX (n m:Nat) (R:Env→Option Env) (ds:List Dat):Bool:=decide (ds.length=n)&&(R (ds.map .sh++List.replicate m .un)).isSome
noncomputable def qP (C:Nat) (b:Bool):Dat→Option RV
 | .exc C'=>if C'=C then vB b else none
 | _=>none
end Dm
namespace Br
open PySem PySem.Spec PyProof.Rows L2
section
variable {X:Cx}
end
theorem p_ {H0:Hp}:∀ ns:List Int,aC H0 (ns.map V.int) (ns.map Dm.Dat.int)
 | []=>.nil
 | n::ns=>.cons (.int n) (p_ ns)
section
variable {X:Cx} {a b c e:Expr} {f fa fb:Dm.FE} {fs:List Dm.FE} {p pos:Pos}
noncomputable def Lw (neg:Bool):R2:=fun x y H Q=>y=.non∧Q (.bl (if neg then !decide (x=V.non) else decide (x=V.non))) H
theorem Ec {x:V} {v:Value} (r:RelV x v):(v == Value.none)=decide (x=V.non):=by
 cases x with
 | non=>cases r;rfl
 | bl b=>cases r;rfl
 | int i=>obtain ⟨t,rfl⟩:=r;rfl
 | str z=>obtain ⟨t,rfl⟩:=r;rfl
 | byt z=>obtain ⟨t,rfl⟩:=r;rfl
 | flt z=>obtain ⟨t,rfl⟩:=r;rfl
 | ref z=>cases r;rfl
 | ty z=>cases r;rfl
theorem Iw:OpR X (compareOp .Is) (Lw false):=by
 intro pins s σ H x y v u Q I rx ry h
 obtain ⟨rfl,q⟩:=h
 cases ry
 refine is_none_gen ?_
 rw [Ec rx]
 exact ⟨.bl _,H,I,rfl,q⟩
theorem xx {H0 H:Hp} {x:V} {d:Dm.Dat} (r:kJ H0 H x d):decide (x=V.non)=Dm.isN d:=by
 rcases r with r | ⟨a,rfl,w⟩
 ·cases r<;>rfl
 ·cases d with
  | non=>exact False.elim w
  | _=>rfl
theorem Iz:OpD (Lw false) Dm.AY:=by
 intro H0 H x y dx dy z Q s rx ry e k
 unfold Dm.AY at e
 split at e
 ·cases e
  have hy:=xx ry
  have:y=V.non:=of_decide_eq_true (hy.trans rfl)
  refine ⟨this,?_⟩
  rw [if_neg (by decide),xx rx]
  exact k _ H0 H (aK.refl s) (.bl _)
 ·cases e
theorem Lx (ha:DE X a fa) (hb:DE X b fb):DT X (.Compare a [.Is] [b] pos) (Dm.tV (Dm.e2 Dm.AY fa fb)):=p5 Iw Iz ha hb (ez _)
end
section
variable {X:Cx}
end
section
variable {σ:L2.St} {H:Hp} {Q:VK} {D:Ends}
theorem nk {α:Type} (l:List α) (i:Nat):l.eraseIdx i=l.take i++l.drop (i+1):=List.eraseIdx_eq_take_drop_succ l i
theorem vv {H0:Hp} {vs:List V} {ds:List Dm.Dat} (i:Nat) (r:aC H0 vs ds):aC H0 (vs.eraseIdx i) (ds.eraseIdx i):=by
 rw [nk,nk]
 exact (r.take i).append (r.drop (i+1))
theorem Ed {K:PySem.W.Frag} {i:Nat} {f:Dm.FE} (h:tD (Dm.kO i f) σ H Q):tBM K "list" zY (rZ i) (tDA [f]) σ H Q:=by
 obtain ⟨H0,ρ,x,ρ',st,e,k⟩:=h
 unfold Dm.kO at e
 split at e
 case h_2=>cases e
 rename_i ds0 h0
 obtain ⟨a0,q0,n0,w0⟩:=st.ow i _ h0
 refine ⟨_,q0,?_⟩
 obtain ⟨xs0,y0,_⟩:=w0
 refine ⟨.inl ⟨rfl,xs0,.inl (.inl y0)⟩,?_⟩
 split at e
 case h_2=>cases e
 rename_i j ρ1 e1
 split at e
 case h_2=>cases e
 rename_i ds h2
 split at e
 case isFalse=>cases e
 rename_i hb
 split at e
 case h_2=>cases e
 rename_i d hd
 cases e
 refine ⟨H0,ρ,[.val (.int j)],ρ1,st,by unfold Dm.eAs;rw [e1];rfl,fun vs H0' H' t r=>?_⟩
 cases r with
 | cons r rr=>
  cases rr
  cases Rep.isInt r
  obtain ⟨a,q,n,w⟩:=t.st.ow i _ h2
  rw [q0] at q
  cases q
  obtain ⟨xs,y,rs⟩:=w
  obtain ⟨v,hv,rv⟩:=rs.get hd
  have hlt:j.toNat<xs.length:=(List.getElem?_eq_some_iff.mp hv).1
  have hB:Dm.BIG=1000000000:=rfl
  refine ⟨a0,xs,j,j.toNat,v,rfl,rfl,y,by omega,by omega,?_,hv,?_⟩
  ·unfold seqIndex?
   simp only [show ¬ j<0 by omega,if_false]
   rw [if_pos (by rw [decide_eq_true (show 0≤j by omega),decide_eq_true (show j<(xs.length:Int) by omega)];rfl)]
  have ow:aj σ ρ1 a0:=⟨i,_,h2,q0⟩
  have hi:i<ρ1.length:=(List.getElem?_eq_some_iff.mp h2).1
  refine k v H0' _ (t.trans ⟨t.st.write h2 q0 ⟨_,aq,vv _ rs⟩,Stp.write ow,fun b z=>c_ h2 z,fun j' z=>trivial⟩) rv
end
section
variable {X:Cx} {e:Expr} {f:Dm.FE} {pos:Pos}
theorem Ef (i:Nat) {x:Str} {px ap cp:Pos} (he:DE X e f) (hi:X.N[i]?=some x:=by rfl) (hv:Vis X.env.scope x:=by first | exact Or.inl rfl | exact Or.inr (Or.inl rfl) | exact Or.inr (Or.inr rfl)) (hd:(x == ("__debug__" : Str))=false:=by decide)
  (hcd:(x == ("__classdict__" : Str))=false:=by decide) (hbase:attributeBase (.Name x px) "pop" X.env (eval (.Name x px) X.env)=eval (.Name x px) X.env:=by rfl)
  (hfew:((backTo cp (starEach [e] X.env)).all (fun x=>!x.1)&&(backToKw cp (keywordEach [] X.env)).all (fun x=>x.1.isSome)
   && decide ([e].length+([]:List Keyword).length+(if ([]:List Keyword).isEmpty then 0 else 1)<30))=true:=by rfl)
  (hline:(ap.endLine == cp.line)=true:=by rfl) (hs:starEach [e] X.env=(false,eval e X.env)::starEach [] X.env:=by rfl) (hplain:(backTo cp (starEach [] X.env)).any (·.1)=false:=by rfl) :
  DE X (.Call (.Attribute (.Name x px) "pop" ap) [e] [] cp) (Dm.kO i f):=
 PE.weak (zW PySem.F.plainAttrs_list PySem.F.slot_list_pop PySem.F.type_list_pop zZ (iz hi hv hd hcd) (aa he af hs) hbase hfew hline hs hplain) fun _ _ _=>Ed
end
end Br
namespace L2
open PySem PySem.Spec PyProof.Rows
noncomputable def CXE (P:Program) (w:World) (C:Addr):CXT:=fun outer H s E e s'=>
 ∃ ea a0 B H',e=.ref ea∧s'.os=s.os∧AllBare s'.gens∧Un (frs outer) [] H H' s.heap s'.heap∧HOk P w H' s'.heap∧Heap.FlyingW B outer ea (.ref C) a0 s'.heap ∧
  (∀ b o,s'.heap.get? b=some o→(s.heap.get? b).isSome=true∨(H' b).isSome=true→b∉frs outer→B.get? b=some o)∧E (.ref C) (some ea) H'
theorem aT.there {P:Program} {w:World} {H:Hp} {h:Heap} {a:Addr} {o:HO} (x:aT P w H h a o):∃ u,h.get? a=some u:=by
 cases o with
 | lst xs=>obtain ⟨_,_,_,_,e⟩:=x;exact ⟨_,e⟩
 | tup xs=>obtain ⟨_,_,_,ob,e,_⟩:=x;exact ⟨_,e⟩
 | dK kvs=>obtain ⟨_,_,_,_,o,_,_,e,_⟩:=x;exact ⟨_,e⟩
 | dT kvs=>obtain ⟨_,_,_,_,o,_,_,e,_⟩:=x;exact ⟨_,e⟩
 | set S n=>obtain ⟨o,_,_,_,e,_⟩:=x;exact ⟨_,e⟩
 | ins C dx fs=>obtain ⟨_,_,_,e,_⟩:=x;exact ⟨_,e⟩
 | own y=>obtain ⟨_,e⟩:=x;exact ⟨_,e⟩
 | xd fs=>obtain ⟨_,⟨_,_,_,e,_⟩,_⟩:=x;exact ⟨_,e⟩
 | rng lo hi=>obtain ⟨_,_,_,e⟩:=x;exact ⟨_,e⟩
 | frz ob u=>obtain ⟨e,_⟩:=x;exact ⟨_,e⟩
 | tbl ps=>exact ⟨_,x⟩
 | met f y=>exact ⟨_,x⟩
 | ext φ=>obtain ⟨_,⟨_,e⟩,_⟩:=x;exact ⟨_,e⟩
section
variable {X:Cx} {pins:List (Addr×Obj)} {σ:St} {H:Hp} {s:Shared} {x:Str} {C:Addr} {bmB:List Value} {B newId initId:String} {np cpos pos:Pos}
theorem yW {t:St→Hp→Prop} (hc:X.calm=true) (hg:Gl X x) (O:OwnCls x C bmB newId X.mg X.base) (FB:ExcBaseFacts B newId initId bmB)
  (hE:∀ pins σ H s h' e,Inv X pins σ H s→t σ H→Heap.MadeExcOf s.heap h' e (.ref C) []→X.xe (.ref e) { s with heap:=h' }) (hdb:(x == ("__debug__" : Str))=false:=by decide) :
  PS X (.Raise (some (.Call (.Name x np) [] [] cpos)) none pos) (fun _ σ H=>t σ H):=by
 intro pins s σ H D I h
 obtain ⟨tl,N,nm,q,bs,hdct,sn,sub,ab,col,dd,k0,k1,k2,k3,k5,mN,hC,hN,hni,T⟩:=O.obj
 refine wpAny_Raise_call_subT (C:=C) (nm:=nm) (q:=q) (N:=N) (bs:=bs) (bm:=tl) (hdct:=hdct) (sn:=sn) (sub:=sub) (ab:=ab) (col:=col) (dd:=dd) (k0:=k0) (k1:=k1) (k2:=k2) (k3:=k3) (k5:=k5)
  FB (mN:=mN) (T.hasType FB.hasBase) (I.ok.hd hc) rfl hni (gS I hg O.bound ⟨rfl,?_⟩ hdb)
 exact evalArgs_empty ⟨rfl,Nat.zero_le _,I.bk _ _ hC,hN.keeps I.bk,T.keeps I.bk,fun h' e hm=>hE pins σ H s h' e I h hm⟩
theorem Inv.out (I:Inv X pins σ H s) {h'' Bh:Heap} (hx:X.ex=[]) (hB:∀ b o,s.heap.get? b=some o→b∉frs X.stack→(X.s₀.heap.get? b).isSome=true∨(H b).isSome=true→Bh.get? b=some o) (k1:Bh.StaysIn h'')
  (sl:s.heap.UpToSlots h''):Un X.fs [] X.H₀ H X.s₀.heap h''∧HOk X.prog X.w H h'' ∧
   (∀ b o,h''.get? b=some o→(X.s₀.heap.get? b).isSome=true∨(H b).isSome=true→b∉X.fs→Bh.get? b=some o):=by
 have nx:∀ b:Addr,b∉X.ex:=fun b z=>by rw [hx] at z;cases z
 have neL:∀ b o,X.s₀.heap.get? b=some o→b≠X.env.locals:=fun b o e=>Nat.ne_of_lt (Nat.lt_of_lt_of_le (Heap.lt_size e) I.ok.above)
 have nst:∀ b o,X.s₀.heap.get? b=some o→b∉X.fs→b∉frs X.stack:=fun b o e hb z=>(List.mem_cons.mp (I.mH b z)).elim (neL b o e) hb
 have frame:∀ b,b∈X.fs→∀ o,s.heap.get? b=some o→∃ sl,h''.get? b=some { o with slots:=sl }:=fun b hb o e=>by
  obtain ⟨_,o',ho',hd⟩:=I.l7.mem hb
  rw [e] at ho';cases ho'
  exact sl b o e hd
 have stay:∀ b o,b∉frs X.stack→(X.s₀.heap.get? b).isSome=true∨(H b).isSome=true→s.heap.get? b=some o→h''.get? b=some o:=fun b o hb hh e=>k1 b o (hB b o e hb hh)
 have tr:∀ b u,H b=some u→b∉frs X.stack:=fun b u e z=>by rw [I.qw b z] at e;cases e
 refine ⟨⟨fun b o e n hb _=>?_,fun b o e n hb _=>?_,fun b o e n _=>I.base.free b o e n (nx b),fun b o e _=>?_,I.base.tups,I.base.l6,I.base.mG⟩,fun b u e=>?_,fun b o e hh hb=>?_⟩
 ·exact stay b o (nst b o e hb) (.inl (by rw [e];rfl)) (I.base.keep b o e n hb (nx b))
 ·obtain ⟨s1,e1⟩:=I.base.slot b o e n hb (nx b)
  obtain ⟨s2,e2⟩:=frame b hb _ e1
  exact ⟨s2,e2⟩
 ·obtain ⟨o1,e1⟩:=I.base.there b o e (nx b)
  by_cases hb:b∈X.fs
  ·obtain ⟨s2,e2⟩:=frame b hb _ e1
   exact ⟨_,e2⟩
  ·exact ⟨o1,stay b o1 (nst b o e hb) (.inl (by rw [e];rfl)) e1⟩
 ·refine (I.hok b u e).stay (fun c v hc q=>?_) (fun _ q=>q) fun _ _ q=>q
  rcases hc with rfl | hc
  ·exact stay c v (tr c u e) (.inr (by rw [e];rfl)) q
  ·exact stay c v (tr c _ hc) (.inr (by rw [hc];rfl)) q
 ·have:∃ o1,s.heap.get? b=some o1:=by
   rcases hh with hh | hh
   ·obtain ⟨o0,e0⟩:=Option.isSome_iff_exists.mp hh
    exact I.base.there b o0 e0 (nx b)
   ·obtain ⟨u,e0⟩:=Option.isSome_iff_exists.mp hh
    exact (I.hok b u e0).there
  obtain ⟨o1,e1⟩:=this
  have hs:b∉frs X.stack:=by
   rcases hh with hh | hh
   ·obtain ⟨o0,e0⟩:=Option.isSome_iff_exists.mp hh
    exact nst b o0 e0 hb
   ·obtain ⟨u,e0⟩:=Option.isSome_iff_exists.mp hh
    exact tr b u e0
  have e2:=stay b o1 hs hh e1
  rw [e] at e2;cases e2
  exact hB b o e1 hs hh
end
section
variable {P:Program} {w:World} {K:PySem.W.Frag} {mg:Str→Option Value} {base:Heap} {N:List Str} {qual:Str} {scope:Scope} {f:Addr} {cd:Value} {A:Around} {outer:List Env} {s₀:Shared} {H₀:Hp} {E:XK} {C:Addr}
 {pins:List (Addr×Obj)} {σ:St} {H:Hp} {s:Shared}
theorem Eg {h h' h'':Heap} (k:∀ b o,h.get? b=some o→h'.get? b=some o) (x:h'.UpToSlots h''):h.UpToSlots h'':=(Heap.UpToSlots.of_keeps k).trans x
theorem Eh (I:Inv (e8 (CXE P w C) P w K mg base N qual scope f cd A outer s₀ H₀ E) pins σ H s) {h':Heap} {e:Addr} (hx:Heap.MadeExcOf s.heap h' e (.ref C) []) (hE:E (.ref C) (some e) H) :
  (e8 (CXE P w C) P w K mg base N qual scope f cd A outer s₀ H₀ E).xe (.ref e) { s with heap:=h' }:=by
 have hin:∀ env∈(e8 (CXE P w C) P w K mg base N qual scope f cd A outer s₀ H₀ E).stack,∀ b,env.frame=some b→b∈frs (e8 (CXE P w C) P w K mg base N qual scope f cd A outer s₀ H₀ E).stack:=fun env he b hb=>List.mem_filterMap.mpr ⟨env,he,hb⟩
 show wpAny (model P w) _ (leaving _ (.ref e)) _ _ _
 refine wpAny_leaves_madeW (base:=PySem.W.hideAll s.heap (frs (e8 (CXE P w C) P w K mg base N qual scope f cd A outer s₀ H₀ E).stack)) (h:=s.heap) (L:=s₀.heap.objs.size) I.ok.frames rfl (fun b o q=>PySem.W.of_hideAll _ q) (PySem.W.funFrames_hide I.stack hin) hx fun h'' t fl tup bt sl=>?_
 obtain ⟨u1,u2,u3⟩:=I.out (h'':=h'') (Bh:=PySem.W.hideAll s.heap (frs (e8 (CXE P w C) P w K mg base N qual scope f cd A outer s₀ H₀ E).stack)) rfl (fun b o q hb _=>PySem.W.hideAll_get _ q hb) fl.1 (Eg hx.keeps sl)
 exact ⟨e,.ref t,_,H,rfl,I.os,I.bare,u1,u2,fl,u3,hE⟩
theorem Ly:Passes (CXE P w C) (e8 (CXE P w C) P w K mg base N qual scope f cd A outer s₀ H₀ E) E:=by
 intro pins σ H s e s' I hq
 obtain ⟨ea,a0,Bh,H',rfl,os,bare,un,hok,fl,hB,hE⟩:=hq
 obtain ⟨hh,g,d,t,os'⟩:=s'
 obtain rfl:os'=s.os:=os
 have J:=I.call (h':=hh) (g':=g) (d':=d) (t':=t) (ch:=[]) un hok bare (fun b z=>absurd z (by simp))
 show wpAny (model P w) _ (leaving _ (.ref ea)) _ _ _
 refine wpAny_leaves_onW (base:=Bh) (L:=s₀.heap.objs.size) I.ok.frames rfl fl fun h'' Lz sl=>?_
 have neL:∀ b o,s₀.heap.get? b=some o→∃ o1,s.heap.get? b=some o1:=fun b o e=>I.base.there b o e (fun z=>nomatch z)
 obtain ⟨u1,u2,u3⟩:=J.out (h'':=h'') (Bh:=Bh) rfl (fun b o q hb hh=>hB b o q (hh.imp (fun z=>by
  obtain ⟨o0,e0⟩:=Option.isSome_iff_exists.mp z
  obtain ⟨o1,e1⟩:=neL b o0 e0
  rw [e1];rfl) id) hb) Lz.1 sl
 exact ⟨ea,a0,Bh,H',rfl,J.os,bare,u1,u2,Lz,u3,hE⟩
end
section
variable {X:Cx} {st:Stmt} {rest:List Stmt} {t:TS}
noncomputable def DF:Ends:={ nx:=fun _ _=>False,rt:=fun _ _=>False,bk:=fun _ _=>False,ct:=fun _ _=>False }
theorem AZ (h1:PS X st t):PSs X (st::rest) (fun _ σ H=>t DF σ H):=by
 intro pins s σ H D I h
 refine wpAny_execs_cons (thn (h1 pins s σ H DF I h) fun f s1 q=>?_)
 cases f with
 | next=>obtain ⟨_,_,_,q⟩:=q;exact False.elim q
 | ret v=>obtain ⟨_,_,_,_,_,q⟩:=q;exact False.elim q
 | brk=>obtain ⟨_,_,_,q⟩:=q;exact False.elim q
 | cont=>obtain ⟨_,_,_,q⟩:=q;exact False.elim q
end
end L2
namespace Br
open PySem PySem.Spec PyProof.Rows L2
noncomputable def sO (C:Addr) (X:Cx) (E:L2.St→XK):Prop:=∀ (pins:List (Addr×Obj)) (σ:L2.St) (H:Hp) (s:Shared) (e:Value) (s':Shared),Inv X pins σ H s→CXE X.prog X.w C X.stack H s (E σ) e s'→X.xe e s'
noncomputable def tX (C:Addr) (E:L2.St→XK) (R:Dm.Env→Option Dm.Env) (σ:L2.St) (H:Hp):Prop:=∃ H0 ρ ρ',au H0 H σ ρ∧R ρ=some ρ'∧∀ a H0' H',ESt σ ρ H0 H ρ' H0' H'→E σ (.ref C) (some a) H'
noncomputable def spX (C:Addr) (bad:List Dm.Dat→Bool):Sp:=fun vs H _ E=>∃ H0 ds,ak H0 H∧aC H0 vs ds∧bad ds=true∧∀ a H0' H',aK H0 H H0' H'→E (.ref C) (some a) H'
noncomputable abbrev XE (X:Cx) (C:Addr) (E:L2.St→XK) (e:Expr) (R:Dm.Env→Option Dm.Env):Prop:=PE X e (fun σ H _=>tX C E R σ H)
noncomputable abbrev XS (X:Cx) (C:Addr) (E:L2.St→XK) (st:Stmt) (R:Dm.Env→Option Dm.Env):Prop:=PS X st (fun _ σ H=>tX C E R σ H)
section
variable {X:Cx} {C:Addr} {E:L2.St→XK} {k:Nat} {F:Addr} {fd:FuncData} {ps:List Str} {x:Str} {p pos:Pos} {e:Expr} {es:List Expr} {fs:List Dm.FE} {bad:List Dm.Dat→Bool} {R S:Dm.Env→Option Dm.Env}
theorem Ei {pins:List (Addr×Obj)} {σ:L2.St} {H:Hp} {s:Shared} {Q:VK} {us:List Value} {vs:List V} (G:aR X.prog X.w X.K X.mg X.base (CXE X.prog X.w C) k F fd ps (spX C bad)) (hr:bB k X.A) (hb:Binds X.K fd ps []) (hx:sO C X E)
  (I:Inv X pins σ H s) (r:Vals vs us) (h:spX C bad vs H Q (E σ)):wpAny (model X.prog X.w) X.A (call (.ref F) us) (EP X pins σ Q) X.xe s:=by
 have hl:(us++[]).length=ps.length:=by rw [List.append_nil,← r.length];exact G.len _ _ _ _ h
 have hb':=hb s us I.kIn hl
 rw [List.append_nil] at hb'
 refine wpAny_call (codeAny_mono (G.run X.A X.stack s H ⟨us,[]⟩ us vs Q (E σ) hr I.Hj hb' r h) fun r s' hq=>?_)
 cases r with
 | error e=>exact hx pins σ H s e s' I hq
 | ok fl=>
  cases fl with
  | ret u=>exact I.after hq
  | next=>exact False.elim hq
  | brk=>exact False.elim hq
  | cont=>exact False.elim hq
theorem xy {σ:L2.St} {H:Hp} (h:tX C E (Dm.cz bad fs) σ H) (Q:VK):tDA fs σ H fun vs H1=>spX C bad vs H1 Q (E σ):=by
 obtain ⟨H0,ρ,ρ',st,hR,k⟩:=h
 unfold Dm.cz at hR
 split at hR
 ·cases hR
 rename_i xs ρ1 e1
 split at hR
 ·cases hR
 rename_i ds p1
 split at hR
 case isFalse=>cases hR
 rename_i hbad
 cases hR
 refine ⟨H0,ρ,xs,ρ',st,e1,fun vs H1 Hb t1 r1=>?_⟩
 obtain ⟨ρ2,e2⟩:=iH p1
 obtain ⟨H2,t2,b2,r2⟩:=takes t1 (ak.refl _) r1 e2
 exact ⟨H2,ds,t2.st.same,r2,hbad,fun a H0' H' g=>k a H1 H' (t1.trans (.grow t1.st ⟨ak.refl _,g.s1,fun a o q=>.inr q,t1.st.same.trans g.s1⟩))⟩
theorem x_call (G:aR X.prog X.w X.K X.mg X.base (CXE X.prog X.w C) k F fd ps (spX C bad)) (hr:bB k X.A) (hg:Gl X x) (hm:X.mg x=some (.ref F)) (hk:PySem.W.keepIn X.K (.ref F)=true) (hb:Binds X.K fd ps []) (hx:sO C X E)
  (ha:DA X (e::es) fs) (hdb:(x == ("__debug__" : Str))=false:=by decide) (he:starEach (e::es) X.env=(false,eval e X.env)::starEach es X.env:=by rfl) (hpl:(backTo pos (starEach es X.env)).any (·.1)=false:=by rfl) :
  XE X C E (.Call (.Name x p) (e::es) [] pos) (Dm.cz bad fs):=by
 intro pins s σ H Q I h
 refine wpAny_Call_Name_kw (gS I hg hm ?_ hdb)
 refine PySem.W.callWith_K (h₀:=X.base) I.ok.mod.kin hk (thn (ha pos pins s σ H _ I (xy h Q)) fun us s1 ⟨vs,H1,I1,r,q⟩=>⟨I1.kIn,?_⟩) he hpl
 exact Ei G hr hb hx I1 r q
theorem nq (h:XE X C E e R) (hs:swapsWith e none pos.line X.env=pure false:=by rfl):XS X C E (.Expr e pos) R:=PS.weak (mh h hs) fun _ _ _ q=>q
theorem LA (h:XE X C E e R):XS X C E (.Return (some e) pos) R:=PS.weak (zF h) fun _ _ _ q=>q
end
section
variable {P:Program} {w:World} {K:PySem.W.Frag} {mg:Str→Option Value} {base:Heap} {N:List Str} {qual:Str} {scope:Scope} {f:Addr} {cd:Value} {A:Around} {outer:List Env} {s₀:Shared} {H₀:Hp} {E:XK} {C:Addr}
theorem A0:sO C (e8 (CXE P w C) P w K mg base N qual scope f cd A outer s₀ H₀ E) (fun _=>E):=fun pins σ H s e s' I q=>Ly pins σ H s e s' I q
theorem x_raise {x:Str} {bmB:List Value} {B newId initId:String} {np cpos pos:Pos} (O:OwnCls x C bmB newId mg base) (FB:ExcBaseFacts B newId initId bmB) (hg:Gl (e8 (CXE P w C) P w K mg base N qual scope f cd A outer s₀ H₀ E) x) (hdb:(x == ("__debug__" : Str))=false:=by decide) :
  XS (e8 (CXE P w C) P w K mg base N qual scope f cd A outer s₀ H₀ E) C (fun _=>E) (.Raise (some (.Call (.Name x np) [] [] cpos)) none pos) Dm.Iv:=
 yW rfl hg O FB (fun pins σ H s h' e I ⟨H0,ρ,ρ',st,hR,k⟩ hm=>Eh I hm (k e _ _ (by cases hR;exact ESt.refl st))) hdb
end
theorem qQ {C:Addr} {n m:Nat} {R:Dm.Env→Option Dm.Env} {vs:List V} {H:Hp} {Q:VK} {E:XK} (h:spX C (Dm.fnX n m R) vs H Q E):vs.length=n:=by
 obtain ⟨H0,ds,s,rs,e,k⟩:=h
 unfold Dm.fnX at e
 rw [Bool.and_eq_true,decide_eq_true_eq] at e
 rw [rs.length];exact e.1
theorem A1 {N:List Str} {n m:Nat} {vs:List V} {H0 H:Hp} {ds:List Dm.Dat} (hm:N.length=n+m) (hvn:vs.length=n) (s:ak H0 H) (rs:aC H0 vs ds) :
  au H0 H (start N vs) (ds.map Dm.Cell.sh++List.replicate m .un)∧∀ a,¬ aj (start N vs) (ds.map Dm.Cell.sh++List.replicate m .un) a:=by
 have hl:=rs.length
 refine ⟨?_,fun a ⟨i,d,h1,_⟩=>by
  by_cases hi:i<ds.length
  ·rw [List.getElem?_append_left (by simpa using hi),List.getElem?_map] at h1
   cases q:ds[i]? with
   | none=>rw [q] at h1;cases h1
   | some y=>rw [q] at h1;cases h1
  ·rw [List.getElem?_append_right (by simpa using hi),List.getElem?_replicate] at h1
   split at h1<;>cases h1⟩
 refine ⟨s,?_,fun i d h=>?_,fun i d h=>?_,fun i j d e a h1 h2 _ _=>?_⟩
 ·unfold L2.start
  simp only [List.length_append,List.length_map,List.length_replicate]
  omega
 ·have hi:i<ds.length:=by
   by_cases hi:i<ds.length
   ·exact hi
   ·rw [List.getElem?_append_right (by simpa using hi),List.getElem?_replicate] at h
    split at h<;>cases h
  rw [List.getElem?_append_left (by simpa using hi),List.getElem?_map] at h
  cases q:ds[i]? with
  | none=>rw [q] at h;cases h
  | some y=>
   rw [q] at h
   cases h
   obtain ⟨v,hv,r⟩:=rs.get q
   refine ⟨v,?_,r⟩
   unfold L2.start
   rw [List.getElem?_append_left (by simpa [hl] using hi),List.getElem?_map,hv]
   rfl
 ·by_cases hi:i<ds.length
  ·rw [List.getElem?_append_left (by simpa using hi),List.getElem?_map] at h
   cases q:ds[i]? with
   | none=>rw [q] at h;cases h
   | some y=>rw [q] at h;cases h
  ·rw [List.getElem?_append_right (by simpa using hi),List.getElem?_replicate] at h
   split at h<;>cases h
 ·by_cases hi:i<ds.length
  ·rw [List.getElem?_append_left (by simpa using hi),List.getElem?_map] at h1
   cases q:ds[i]? with
   | none=>rw [q] at h1;cases h1
   | some y=>rw [q] at h1;cases h1
  ·rw [List.getElem?_append_right (by simpa using hi),List.getElem?_replicate] at h1
   split at h1<;>cases h1
end Br
namespace PySem.W
open PySem PySem.Spec PySem.Calls PyProof.Rows
structure iI (K:Frag) (C:Addr):Prop where
 ga:findIn K (.ref C) "__getattribute__" = some (some (.builtin "BaseException.__getattribute__"))
 gn:findIn K (.ref C) "__getattr__" = some none
 cl:findIn K (.ref C) "__class__" = some (some (.builtin "object.__class__"))
 mB:mroIn K C (.type "BaseException")=some true
 mO:mroIn K C (.type "object")=some true
noncomputable def pK (x C:Addr) (h:Heap):Prop:=∃ ox,h.get? x=some ox∧ox.cls=.ref C
theorem gU {x C:Addr} {M:Model} {h:Heap} (p:pK x C h):Looks M h (typeOf (.ref x)) (.ref C):=by
 obtain ⟨o,h1,h2⟩:=p
 exact h2▸(Looks.ld h1).andThen .now
section
variable {prog:Program} {w:World} {A:Around} {K:Frag} {x C:Addr} {s:Shared} {R:Result→Shared→Prop}
theorem vz {tp:Value} (X:K.In s.heap) (I:pK x C s.heap) (hm:mroIn K C (.type "object")=some true)
  (h:R (.ok (.ret (.ref C))) s):codeAny (model prog w) A (.call (.builtin "getset_descriptor.__get__") ⟨[.builtin "object.__class__",.ref x,tp],[]⟩) R s:=by
 obtain ⟨hh,g,dr,t,os⟩:=s
 have L0:=gU (M:=model prog w) I
 have L1:=looks_mroIn (M:=model prog w) X hm
 refine codeAny_call_builtin KF.slot_gs.plain KF.entry_gs (KF.slot_gs.check _ _ _ _ _ _ _ _ KF.type_class (KF.args_gs _ _ _) ?_)
 unfold Builtin.«getset_descriptor.__get__» Builtin.Getset_descriptor.descrGet
 rw [dga_obj]
 refine wpAny_bind (wpAny_pure ?_)
 unfold Builtin.Getset_descriptor.descrGetter Builtin.Getset_descriptor.descrCheckInstance Builtin.Getset_descriptor.descrNameAndClass isInstance
 simp only [KF.owner_class]
 repeat lk
 refine ⟨Code.quiet_builtin _ (by decide +kernel),codeAny_builtin KF.entry_class ?_⟩
 unfold Builtin.«object.__class__» shownTypeOf
 repeat lk
 exact h
end
section
variable {prog:Program} {w:World} {A:Around} {E:Value→Shared→Prop} {K:Frag} {x C:Addr} {ox:Obj} {h:Heap} {g:Array GenState} {d:Drawn} {t:Nat} {os:OsState}
theorem A2 {M:Model} {nameV:Value} {Q:Unit→Shared→Prop} (Z:iI K C) (X:K.In h) (I:pK x C h) (hq:Q () ⟨h,g,d,t,os⟩):wpAny M A (checkBuiltinCall "BaseException.__getattribute__" ⟨[.ref x,nameV],[]⟩) Q E ⟨h,g,d,t,os⟩:=by
 have hk:builtinKind "BaseException.__getattribute__" = some .slot:=by decide +kernel
 have hsplit:splitId "BaseException.__getattribute__" = some ("BaseException","__getattribute__"):=by decide +kernel
 have L0:=gU (M:=M) I
 have L1:=looks_mroIn (M:=M) X Z.mB
 have LI:Looks M h (isInstance (.ref x) (.type "BaseException")) true:=L0.andThen L1
 have ha:=PySem.F.args_bexc_ga (.ref x) nameV
 simp only [checkBuiltinCall,hk,hsplit]
 refine wpAny_bind (LI.at ?_)
 repeat (first | assumption | wp_step)
theorem A3 {tk:Tok} {Q:Fin→Shared→Prop} (Z:iI K C) (X:K.In h) (I:pK x C h) (hq:Q (.done (.ret (.ref C))) ⟨h,g,d,t,os⟩) :
  wpAny (model prog w) A (Builtin.«object.__getattribute__» ⟨[.ref x,.str "__class__" tk],[]⟩) Q E ⟨h,g,d,t,os⟩:=by
 have hT5:(⟨h,g,d,t,os⟩:Shared).TypeIs (.builtin "object.__class__") "getset_descriptor" := F.typeOf_object_class
 have f5:=F.typeOf_object_class
 have f6:=F.slot_gs_get.lookup
 have f7:=F.slot_gs_set.lookup
 have L0:=gU (M:=model prog w) I
 have L1:=looks_findIn (M:=model prog w) X Z.cl
 repeat (any_goals (first | assumption | with_reducible refine L0.at ?_ | with_reducible refine L1.at ?_ | wp_step))
 refine vz X I Z.mO ?_
 repeat (any_goals (first | assumption | wp_step))
theorem Ej {tk:Tok} {R:Result→Shared→Prop} (Z:iI K C) (X:K.In h) (I:pK x C h) (hq:R (.ok (.ret (.ref C))) ⟨h,g,d,t,os⟩) :
  codeAny (model prog w) A (.call (.builtin "BaseException.__getattribute__") ⟨[.ref x,.str "__class__" tk],[]⟩) R ⟨h,g,d,t,os⟩:=
 codeAny_call_builtin PySem.F.excAttr_ValueError.ga.plain PySem.F.entry_bexc_ga (A2 Z X I (A3 Z X I hq))
theorem LB {tk:Tok} {Q:Value→Shared→Prop} (Z:iI K C) (X:K.In h) (I:pK x C h) (hq:Q (.ref C) ⟨h,g,d,t,os⟩) :
  wpAny (model prog w) A (getAttrBy (.ref x) (.str "__class__" tk) false) Q E ⟨h,g,d,t,os⟩:=by
 have f3:=PySem.F.excAttr_ValueError.ga.bind (.ref x)
 have hx2:(Value.builtin "BaseException.__getattribute__" == Value.builtin "object.__getattribute__")=false:=by decide +kernel
 have hx1:(onTheHeap (Value.ref C)&&Value.builtin "BaseException.__getattribute__" == Value.builtin "object.__getattribute__")=false:=by rw [hx2];rfl
 have L0:=gU (M:=model prog w) I
 have L1:=looks_findIn (M:=model prog w) X Z.ga
 have L2:=looks_findIn (M:=model prog w) X Z.gn
 repeat (any_goals (first | assumption | with_reducible refine L0.at ?_ | with_reducible refine L1.at ?_ | with_reducible refine L2.at ?_ | wp_step))
 refine Ej Z X I ?_
 repeat (any_goals (first | assumption | wp_step))
theorem Ek {s:Shared} {Q:Option Value→Shared→Prop} (Z:iI K C) (X:K.In s.heap) (I:pK x C s.heap) (hq:Q (some (.ref C)) { s with toks:=s.toks+1 }):wpAny (model prog w) A (getAttr? (.ref x) "__class__") Q E s:=by
 obtain ⟨h,g,d,t,os⟩:=s
 unfold getAttr? getAttrBy?
 repeat (any_goals (first | assumption | with_reducible apply LB Z X I | wp_step))
theorem sP (Z:iI K C) (hc:(clsIn K C).isSome=true):KitX K (.ref x) (.ref C) (pK x C) where
 ty:=fun _ _ _ I=>gU I
 it:=fun _ _ X _=>by
  unfold clsIn at hc
  split at hc
  ·rename_i c' d' cd' sl' ho
   intro A' Q' E' s' k q
   unfold isType loadHead
   exact wpAny_bind (wpAny_loadPart (k _ _ (X _ _ ho)) (wpAny_pure q))
  ·cases hc
 ne:=fun h tp dd its n sl X htp=>by
  refine Bool.eq_false_iff.mpr fun q=>?_
  have e:C=tp:=Value.ref.inj (beq_iff_eq.mp q)
  subst e
  unfold clsIn at hc
  split at hc
  ·rename_i c' d' cd' sl' ho
   have z:=(X _ _ ho).symm.trans htp
   cases z
  ·cases hc
 ca:=fun X I k=>Ek Z X I k
end
end PySem.W
namespace PySem
theorem lF {α:Type} (p:α→Bool):∀ (l:List α) (i:Nat) (x:α),l[i]?=some x→p x=false→(l.eraseIdx i).find? p=l.find? p
 | [],i,x,h,_=>by simp at h
 | y::l,0,x,h,hp=>by
  simp only [List.getElem?_cons_zero,Option.some.injEq] at h
  subst h
  rw [List.eraseIdx_cons_zero,List.find?_cons,hp]
 | y::l,i+1,x,h,hp=>by
  rw [List.eraseIdx_cons_succ,List.find?_cons,List.find?_cons,lF p l i x (by simpa using h) hp]
theorem pL {es:Array DictEntry} {i:Nat} {name y:Str} (hi:es.findIdx? (·.key.isStr name)=some i) (hy:y≠name):nsFind (es.eraseIdxIfInBounds i) y=nsFind es y:=by
 obtain ⟨hlt,hp,_⟩:=Array.findIdx?_eq_some_iff_getElem.mp hi
 have hq:(es[i]).key.isStr y=false:=by
  cases hk:(es[i]).key with
  | str z t=>
   rw [hk] at hp
   simp only [Value.isStr,beq_iff_eq] at hp
   simp only [Value.isStr,beq_eq_false_iff_ne]
   intro e;exact hy (e.symm.trans hp)
  | _=>rw [hk] at hp;simp [Value.isStr] at hp
 have h2:(es.eraseIdxIfInBounds i).toList=es.toList.eraseIdx i:=by
  unfold Array.eraseIdxIfInBounds
  rw [dif_pos hlt,Array.toList_eraseIdx]
 unfold nsFind findBy
 rw [← Array.find?_toList,← Array.find?_toList,h2,lF _ _ i es[i] (by rw [Array.getElem?_toList,Array.getElem?_eq_getElem hlt]) hq]
section
variable {M:Model} {A:Around} {E:Value→Shared→Prop} {s:Shared} {env:Env}
theorem qR {a:Addr} {m} {name:Str} {Q:Bool→Shared→Prop} (hn:s.heap.Ns a m)
  (hQ:∀ h' m',h'.Ns a m'→(∀ y,y≠name→m' y=m y)→Heap.SameBut a s.heap h'→Q (m name).isSome { s with heap:=h' }):wpAny M A (nsDel a name) Q E s:=by
 obtain ⟨o,es,ep,ho,hd,hk,hm⟩:=id hn
 have hany:es.any (·.refKey)=false:=by
  rw [Array.any_eq_false'];intro e he;obtain ⟨n,t,h⟩:=hk e he;simp [DictEntry.refKey,h]
 have hsome:(m name).isSome=es.any (·.key.isStr name):=by
  rw [← hm name];simp only [nsFind,findBy,Option.isSome_map]
  rw [Bool.eq_iff_iff];simp only [Array.find?_isSome,Array.any_eq_true]
  constructor
  ·rintro ⟨x,hx,hp⟩;obtain ⟨i,hi,rfl⟩:=Array.mem_iff_getElem.mp hx;exact ⟨i,hi,hp⟩
  ·rintro ⟨i,hi,hp⟩;exact ⟨_,Array.getElem_mem hi,hp⟩
 have hhas:nsHas name o=pure (es.any (·.key.isStr name)):=by
  rw [nsHas_eq];unfold nsHasByArray;rw [hd]
  show (if (es.any fun x=>x.key.isStr name)=true then _ else _)=_
  generalize (es.any fun x=>x.key.isStr name)=b
  cases b<;>simp [hany]
 unfold nsDel
 refine wpAny_bind (wpAny_loadPart ho ?_)
 rw [hhas]
 refine wpAny_bind (wpAny_pure ?_)
 rw [← hsome]
 cases hmn:(m name).isSome
 ·have:=hQ s.heap m hn (fun _ _=>rfl) (.refl ..)
  rw [hmn] at this
  exact wpAny_pure this
 ·refine wpAny_bind (wpAny_updatePart ho (wpAny_pure ?_))
  have key:∃ m',(s.heap.update a (Obj.dropName name)).Ns a m'∧∀ y,y≠name→m' y=m y:=by
   obtain ⟨cl,d,dt,sl⟩:=o
   subst hd
   cases hi:es.findIdx? (·.key.isStr name) with
   | some i=>exact ⟨nsFind (es.eraseIdxIfInBounds i),⟨_,_,ep+1,Heap.get?_update_self _ ho (by simp only [Obj.dropName_eq,Obj.dropNameByArray,hi]<;>rfl),(by simp only [Obj.dropName_eq,Obj.dropNameByArray,hi]<;>rfl),hk.erase i,fun _=>rfl⟩,fun y hy=>by rw [pL hi hy,hm]⟩
   | none=>exact ⟨nsFind es,⟨_,_,ep,Heap.get?_update_self _ ho (by simp only [Obj.dropName_eq,Obj.dropNameByArray,hi]<;>rfl),(by simp only [Obj.dropName_eq,Obj.dropNameByArray,hi]<;>rfl),hk,fun _=>rfl⟩,fun y _=>hm y⟩
  obtain ⟨m',hm',hy⟩:=key
  have:=hQ _ m' hm' hy (Heap.SameBut.update ..)
  rw [hmn] at this
  exact this
theorem l9 {n:Str} {pos:Pos} {m:Str→Option Value} {Q:Unit→Shared→Prop} (hl:env.kindOf n=some .local) (hn:s.heap.Ns env.locals m)
  (hp:(env.scope.kind == .class||(env.scope.kind == .module&&env.locals != env.globals))=false)
  (h:∀ h' m',h'.Ns env.locals m'→(∀ y,y≠n→m' y=m y)→Heap.SameBut env.locals s.heap h'→Q () { s with heap:=h',toks:=s.toks+1 }) :
  wpAny M A (do bindName env n .none;unbindBehindTheSuite env n pos) Q E s:=by
 refine wpAny_bind (wpAny_bindName (wpAny_storeName_local hl hn (fun h₁ hn₁ hs₁=>?_) hp))
 unfold unbindBehindTheSuite
 refine wpAny_onRaise ?_
 unfold unbindName
 refine wpAny_bind (wpAny_point (wpAny_bind ?_))
 unfold deleteName
 simp only [hl,hp]
 rw [if_neg (by decide)]
 refine wpAny_bind (qR hn₁ fun h₂ m₂ hn₂ hy hs₂=>?_)
 simp only [if_true,Option.isSome_some,Bool.not_true,Bool.false_eq_true,if_false]
 exact wpAny_pure (wpAny_point (h h₂ m₂ hn₂ (fun y hny=>(hy y hny).trans (if_neg hny)) (hs₁.trans hs₂)))
end
end PySem
namespace PySem.W
open PySem PySem.Spec PySem.Calls PyProof.Rows
structure mq (K:Frag) (C CP:Addr):Prop where
 ty:typeIn K (.ref CP)=some (.type "type")
 cl:(clsIn K CP).isSome=true
 mB:mroIn K CP (.type "BaseException")=some true
 mP:mroIn K C (.ref CP)=some true
theorem sQ {M:Model} {A:Around} {E:Value→Shared→Prop} {K:Frag} {x C CP:Addr} {h:Heap} {g:Array GenState} {d:Drawn} {t:Nat} {os:OsState} {Q:Bool→Shared→Prop}
  (Z:mq K C CP) (X:K.In h) (I:pK x C h) (hq:Q true ⟨h,g,d,t,os⟩):wpAny M A (excMatches (.ref x) (.ref CP)) Q E ⟨h,g,d,t,os⟩:=by
 have L0:=gU (M:=M) I
 have L1:=looks_typeIn (M:=M) X Z.ty
 have L2:=looks_mroIn (M:=M) X Z.mB
 have L3:=looks_mroIn (M:=M) X Z.mP
 have L4:Looks M h (isType (.ref CP)) true:=by
  have hc:=Z.cl
  unfold clsIn at hc
  split at hc
  ·rename_i c' d' cd' sl' ho
   intro A' Q' E' s' k q
   unfold isType loadHead
   exact wpAny_bind (wpAny_loadPart (k _ _ (X _ _ ho)) (wpAny_pure q))
  ·cases hc
 have LT:Looks M h (isSubtype (.type "type") (.type "tuple")) false:=Looks.of_pure tc_notTuple
 unfold excMatches isInstance
 repeat lk
 exact hq
end PySem.W
namespace L2
open PySem PySem.Spec PyProof.Rows
section
variable {X:Cx} {pins:List (Addr×Obj)} {σ:L2.St} {H:Hp} {s:Shared}
theorem Inv.fly (I:Inv X pins σ H s) {h'' B:Heap} {t':Nat} (hx:X.ex=[]) (hB:∀ b o,s.heap.get? b=some o→b∉frs X.stack→((X.s₀.heap.get? b).isSome=true∨(H b).isSome=true∨∃ p∈X.pn++pins,p.1=b)→B.get? b=some o)
  (k1:B.StaysIn h'') (sl:s.heap.UpToSlots h''):Inv X pins σ H { s with heap:=h'',toks:=t' }:=by
 obtain ⟨u1,u2,_⟩:=I.out (h'':=h'') (Bh:=B) hx (fun b o e hb hh=>hB b o e hb (hh.imp id .inl)) k1 sl
 have cellK:∀ c v,s.heap.IsCell c v→h''.IsCell c v:=fun c v ⟨o,ho,hd⟩=>by
  obtain ⟨sl',e⟩:=sl c o ho fun vs q=>by rw [hd] at q;cases q
  exact ⟨_,e,hd⟩
 refine ⟨I.ok,I.os,I.bare,by rw [hx];exact u1,?_,fun x c e=>?_,I.free,I.cY,fun p hp=>?_,u2,I.len⟩
 ·obtain ⟨m,hn,hl⟩:=I.loc
  refine ⟨m,sl.ns hn,fun i x v e1 e2 e3=>?_⟩
  obtain ⟨u,r,l⟩:=hl i x v e1 e2 e3
  refine ⟨u,r,?_⟩
  rcases l with l | ⟨k,c,e,z⟩
  ·exact .inl l
  ·exact .inr ⟨k,c,e,cellK c _ z⟩
 ·obtain ⟨v,z⟩:=I.cell x c e
  exact ⟨v,cellK c v z⟩
 ·obtain ⟨e,n,ne,nf,d⟩:=I.pin p hp
  exact ⟨k1 _ _ (hB p.1 p.2 e (fun z=>(List.mem_cons.mp (I.mH _ z)).elim ne nf) (.inr (.inr ⟨p,hp,rfl⟩))),n,ne,nf,d⟩
theorem Inv.LC (I:Inv X pins σ H s) {ea:Addr} {o:HO} (n:H ea=none) (hok:aT X.prog X.w (upd H ea o) s.heap ea o) (n0:X.s₀.heap.get? ea=none) (nl:ea≠X.env.locals) (nc:∀ x c,X.env.cells.lookup x=some c→c≠ea)
  (np:∀ p∈X.pn++pins,p.1≠ea):Inv X pins σ (upd H ea o) s:=by
 have ne:∀ b u,H b=some u→b≠ea:=fun b u e z=>by rw [z,n] at e;cases e
 have n1:∀ b u,X.s₀.heap.get? b=some u→b≠ea:=fun b u e z=>by rw [z,n0] at e;cases e
 refine ⟨I.ok,I.os,I.bare,⟨I.base.keep,I.base.slot,fun b u e q hx=>?_,I.base.there,fun b xs e=>?_,fun b u v e=>?_,fun b ps e=>?_⟩,I.loc,I.cell,?_,fun x c e=>?_,fun p hp=>?_,fun b u e=>?_,I.len⟩
 ·rw [ao (n1 b u e)];exact I.base.free b u e q hx
 ·have:=I.base.tups b xs e;rw [ao (ne b _ this)];exact this
 ·have:=I.base.l6 b u v e;rw [ao (ne b _ this)];exact this
 ·obtain ⟨more,h⟩:=I.base.mG b ps e;exact ⟨more,by rw [ao (ne b _ h)];exact h⟩
 ·rw [ao (Ne.symm nl)];exact I.free
 ·rw [ao (nc x c e)];exact I.cY x c e
 ·obtain ⟨e,q,a,b,d⟩:=I.pin p hp
  exact ⟨e,by rw [ao (np p hp)];exact q,a,b,d⟩
 ·by_cases hb:b=ea
  ·subst hb;rw [aq] at e;cases e;exact hok
  ·rw [ao hb] at e
   exact (I.hok b u e).stay (fun c v _ q=>q) (fun c q=>by rw [ao (ne c _ q)];exact q) fun c xs q=>by rw [ao (ne c _ q)];exact q
theorem name_goes {M:Model} {A:Around} {E:Value→Shared→Prop} {i:Nat} {n:Str} {pos:Pos} {Q:Unit→Shared→Prop} (I:Inv X pins σ H s) (hN:X.N.Nodup) (hi:X.N[i]?=some n) (hk:X.env.kindOf n=some .local)
  (h:∀ s',Inv X pins (σ.set i none) H s'→Q () s'):wpAny M A (do bindName X.env n .none;unbindBehindTheSuite X.env n pos) Q E s:=by
 obtain ⟨m,hn,hl⟩:=id I.loc
 have hcls:(X.env.scope.kind == .class||(X.env.scope.kind == .module&&X.env.locals != X.env.globals))=false:=by rw [I.ok.kind];rfl
 have cne:=I.cne
 refine l9 hk hn hcls fun h' m' hn' hy hs=>?_
 have low:∀ b o,X.s₀.heap.get? b=some o→b≠X.env.locals:=fun b o e=>Nat.ne_of_lt (Nat.lt_of_lt_of_le (Heap.lt_size e) I.ok.above)
 refine h _ ⟨I.ok,I.os,I.bare,⟨fun b o e n hb hx=>?_,fun b o e n hb hx=>?_,I.base.free,fun b o e hx=>?_,I.base.tups,I.base.l6,I.base.mG⟩,⟨m',hn',fun j y v' e1 e2 e3=>?_⟩,fun y c e=>?_,I.free,I.cY,fun p hp=>?_,fun b u e=>?_,by simpa using I.len⟩
 ·exact (hs.2 b (low b o e)).trans (I.base.keep b o e n hb hx)
 ·obtain ⟨sl,e1⟩:=I.base.slot b o e n hb hx
  exact ⟨sl,(hs.2 b (low b o e)).trans e1⟩
 ·obtain ⟨o',e1⟩:=I.base.there b o e hx
  exact ⟨o',(hs.2 b (low b o e)).trans e1⟩
 ·have hj:j≠i:=fun z=>by
   subst z
   by_cases hlt:j<σ.length
   ·rw [List.getElem?_set_self hlt] at e2;cases e2
   ·rw [List.getElem?_eq_none (by simpa using hlt)] at e2;cases e2
  rw [List.getElem?_set_ne (Ne.symm hj)] at e2
  obtain ⟨u',r',q⟩:=hl j y v' e1 e2 e3
  refine ⟨u',r',?_⟩
  rcases q with ⟨k,e⟩ | ⟨k,c,e,z⟩
  ·exact .inl ⟨k,by rw [hy y fun e=>hj (mJ hN e1 (e▸hi))];exact e⟩
  ·obtain ⟨o,ho,hd⟩:=z
   exact .inr ⟨k,c,e,o,(hs.2 c (cne y c e)).trans ho,hd⟩
 ·obtain ⟨v,o,ho,hd⟩:=I.cell y c e
  exact ⟨v,o,(hs.2 c (cne y c e)).trans ho,hd⟩
 ·obtain ⟨e,q,a,b,d⟩:=I.pin p hp
  exact ⟨(hs.2 _ a).trans e,q,a,b,d⟩
 ·refine (I.hok b u e).stay (fun c v hc q=>(hs.2 c ?_).trans q) (fun _ q=>q) fun _ _ q=>q
  rintro rfl
  rcases hc with rfl | hc
  ·rw [I.free] at e;cases e
  ·rw [I.free] at hc;cases hc
end
end L2
namespace Br
open PySem PySem.Spec PyProof.Rows L2
theorem au.drop {H0 H:Hp} {σ:L2.St} {ρ:Dm.Env} (st:au H0 H σ ρ) (i:Nat):au H0 H (σ.set i none) (ρ.set i .un):=by
 have m:=st.mask i
 have ne:∀ {j:Nat} {c:Dm.Cell},(ρ.set i .un)[j]?=some c→c≠.un→j≠i:=fun {j c} e hc z=>by
  subst z
  by_cases hlt:j<ρ.length
  ·rw [List.getElem?_set_self hlt] at e;cases e;exact hc rfl
  ·rw [List.getElem?_eq_none (by simpa using hlt)] at e;cases e
 have gs:∀ {j:Nat},j≠i→(σ.set i none)[j]?=σ[j]?:=fun {j} h=>List.getElem?_set_ne (Ne.symm h)
 refine ⟨m.same,by rw [List.length_set];exact m.len,fun j d e=>?_,fun j d e=>?_,fun j k d e a h1 h2 h3 h4=>?_⟩
 ·rw [gs (ne e (by simp))];exact m.sh j d e
 ·rw [gs (ne e (by simp))];exact m.ow j d e
 ·rw [gs (ne h1 (by simp))] at h3
  rw [gs (ne h2 (by simp))] at h4
  exact m.dis j k d e a h1 h2 h3 h4
theorem SSt.drop {H0 H:Hp} {σ:L2.St} {ρ:Dm.Env} (st:au H0 H σ ρ) {i:Nat} (h0:i≠0):SSt σ ρ H0 H (σ.set i none) (ρ.set i .un) H0 H:=by
 refine ⟨au.drop st i,Stp.refl _ _ _,fun a ⟨j,d,h1,h2⟩=>.inl ?_,List.getElem?_set_ne h0⟩
 by_cases hj:i=j
 ·subst hj
  by_cases hlt:i<ρ.length
  ·rw [List.getElem?_set_self hlt] at h1;cases h1
  ·rw [List.getElem?_eq_none (by simpa using hlt)] at h1;cases h1
 ·rw [List.getElem?_set_ne hj] at h1 h2
  exact ⟨j,d,h1,h2⟩
noncomputable def φX (ea C:Addr):HO:=.ext fun h=>∃ o,h.get? ea=some o∧o.cls=.ref C
theorem φX_ok {P:Program} {w:World} {H:Hp} {h:Heap} {ea C:Addr} {o:Obj} (e:h.get? ea=some o) (c:o.cls=.ref C):aT P w H h ea (φX ea C):=
 ⟨⟨o,e,c⟩,⟨o,e⟩,fun _ _ ⟨o,e,c⟩ k=>⟨o,k o e,c⟩⟩
noncomputable def Cx.in' (X:Cx) (pn:List (Addr×Obj)) (xe:Value→Shared→Prop):Cx:={ X with pn:=X.pn++pn,xe:=xe }
noncomputable def Cx.sub' (X:Cx) (A:Around) (xe:Value→Shared→Prop):Cx:={ X with A:=A,calm:=false,xe:=xe }
section
variable {X:Cx} {pins pn:List (Addr×Obj)} {σ:L2.St} {H:Hp} {s:Shared} {xe:Value→Shared→Prop}
theorem A4 (I:Inv X pn σ H s):Inv (Cx.in' X pn xe) [] σ H s:=
 ⟨⟨I.ok.1,I.ok.2,I.ok.3,I.ok.4,I.ok.5,I.ok.6,I.ok.7,I.ok.8,I.ok.9,I.ok.10,I.ok.11,I.ok.12,I.ok.13,I.ok.14,I.ok.15,I.ok.16,I.ok.17,I.ok.18⟩,I.os,I.bare,I.base,I.loc,I.cell,I.free,I.cY,fun p hp=>I.pin p (by rw [List.append_nil] at hp;exact hp),I.hok,I.len⟩
theorem gW (I:Inv (Cx.in' X pn xe) pins σ H s):Inv X pn σ H s:=
 ⟨⟨I.ok.1,I.ok.2,I.ok.3,I.ok.4,I.ok.5,I.ok.6,I.ok.7,I.ok.8,I.ok.9,I.ok.10,I.ok.11,I.ok.12,I.ok.13,I.ok.14,I.ok.15,I.ok.16,I.ok.17,I.ok.18⟩,I.os,I.bare,I.base,I.loc,I.cell,I.free,I.cY,fun p hp=>I.pin p (List.mem_append_left _ hp),I.hok,I.len⟩
theorem xA {A:Around} (hA:A.frames=X.A.frames) (I:Inv X pins σ H s):Inv (Cx.sub' X A xe) pins σ H s:=
 ⟨⟨I.ok.1,I.ok.2,I.ok.3,I.ok.4,I.ok.5,I.ok.6,I.ok.7,I.ok.8,(fun h=>nomatch h),hA.trans I.ok.10,I.ok.11,I.ok.12,I.ok.13,I.ok.14,I.ok.15,I.ok.16,I.ok.17,I.ok.18⟩,I.os,I.bare,I.base,I.loc,I.cell,I.free,I.cY,I.pin,I.hok,I.len⟩
theorem qc {A:Around} (ok:X.Ok) (I:Inv (Cx.sub' X A xe) pins σ H s):Inv X pins σ H s:=
 ⟨ok,I.os,I.bare,I.base,I.loc,I.cell,I.free,I.cY,I.pin,I.hok,I.len⟩
end
structure nt (K:PySem.W.Frag) (C:Addr):Prop where
 get:PySem.W.iI K C
 cls:(PySem.W.clsIn K C).isSome=true
noncomputable def LD (K:PySem.W.Frag) (C:Addr) (c:V) (b:Bool):List V→Hp→VK→Prop:=fun xs H Q=>∃ a,xs=[.ref a,c]∧H a=some (φX a C)∧Q (.bl b) H
section
variable {X:Cx} {C:Addr} {e:Expr} {f:Dm.FE} {p p2 pos:Pos} {b:Bool}
theorem FY {pins:List (Addr×Obj)} {σ:L2.St} {H:Hp} {s:Shared} {a:Addr} (I:Inv X pins σ H s) (h:H a=some (φX a C)):PySem.W.pK a C s.heap:=(I.hok a _ h).1
theorem sS {c:V} {u2:Value} (hc:RelV c u2) (hu:∀ u,RelV c u→u=u2) (Z:nt X.K C) (k:PySem.W.kitOne X.K (.ref C) u2=some b):dw X (.builtin "isinstance") (LD X.K C c b):=by
 intro pins s σ H xs us Q I r h
 obtain ⟨a,rfl,ha,q⟩:=h
 obtain ⟨u,u3,rfl,rx,ry⟩:=vals2 r
 cases rx
 obtain rfl:=hu u3 ry
 exact PySem.W.kia_one (PySem.W.sP Z.get Z.cls) I.kIn (FY I ha) k (by intro q;cases q) fun tk=>⟨.bl b,H,I.tok tk,rfl,q⟩
theorem FZ {c:V} {σ:L2.St} {H:Hp} {Q:VK} (h:tD (Dm.e1 (Dm.qP C b) f) σ H Q):tCB (LD X.K C c b) (k_ (tD f) (k_ (tC c) u6)) σ H Q:=by
 obtain ⟨H0,ρ,x,ρ',st,e,k⟩:=h
 unfold Dm.e1 at e
 split at e
 ·cases e
 rename_i x1 ρ1 e1
 split at e
 ·cases e
 rename_i dx p1
 cases dx with
 | exc C'=>
  unfold Dm.qP at e
  dsimp only at e
  by_cases hC:C'=C
  ·subst hC
   rw [if_pos rfl] at e
   cases e
   refine ⟨H0,ρ,x1,_,st,e1,fun v H1 Hb t1 r1=>?_⟩
   have rv:Rep Hb v (.exc C'):=(r1.look t1.st p1).full t1.st.same
   cases rv with
   | exc q=>exact ⟨_,rfl,q,k _ H1 Hb t1 (Rep.bl _)⟩
  ·rw [if_neg hC] at e;cases e
 | _=>cases e
theorem lG {D:Addr} {tn:Str} (Z:nt X.K C) (k:PySem.W.kitOne X.K (.ref C) (.ref D)=some b) (hgT:Gl X tn) (hmT:X.mg tn=some (.ref D)) (hg:Gl X "isinstance") (hm:X.mg "isinstance" = none) (h:DE X e f) (hdb:(tn == ("__debug__" : Str))=false:=by decide)
  (he:starEach [e,.Name tn p2] X.env=(false,eval e X.env)::starEach [.Name tn p2] X.env:=by rfl) (hpl:(backTo pos (starEach [.Name tn p2] X.env)).any (·.1)=false:=by rfl) (he2:starEach [.Name tn p2] X.env=(false,eval (.Name tn p2) X.env)::starEach [] X.env:=by rfl) :
  DE X (.Call (.Name "isinstance" p) [e,.Name tn p2] [] pos) (Dm.e1 (Dm.qP C b) f):=
 PE.weak (fX (sS (c:=.ref D) rfl (fun u q=>q) Z k) hg hm PyProof.Rows.boot_isinstance (cS h (cS (qx (v:=.ref D) hgT hmT rfl hdb) iA he2) he) (he:=he) (hpl:=hpl)) fun _ _ _=>FZ
theorem qS {T:String} {tn:Str} (Z:nt X.K C) (k:PySem.W.kitOne X.K (.ref C) (.type T)=some b) (hvT:bootBuiltins tn=some (.type T)) (hgT:Gl X tn) (hmT:X.mg tn=none) (hg:Gl X "isinstance") (hm:X.mg "isinstance" = none) (h:DE X e f) (hn:tn ≠ "__name__" := by decide) (hdb:(tn == ("__debug__" : Str))=false:=by decide)
  (he:starEach [e,.Name tn p2] X.env=(false,eval e X.env)::starEach [.Name tn p2] X.env:=by rfl) (hpl:(backTo pos (starEach [.Name tn p2] X.env)).any (·.1)=false:=by rfl) (he2:starEach [.Name tn p2] X.env=(false,eval (.Name tn p2) X.env)::starEach [] X.env:=by rfl) :
  DE X (.Call (.Name "isinstance" p) [e,.Name tn p2] [] pos) (Dm.e1 (Dm.qP C b) f):=
 PE.weak (fX (sS (c:=.ty T) rfl (fun u q=>by cases q;rfl) Z k) hg hm PyProof.Rows.boot_isinstance (cS h (cS (wH (v:=.ty T) hgT hmT hvT rfl hn hdb) iA he2) he) (he:=he) (hpl:=hpl)) fun _ _ _=>FZ
end
noncomputable def tK (vs:List V):TA:=fun _ H Q=>Q vs H
noncomputable def LF (K:PySem.W.Frag) (C:Addr) (Ds:List Addr) (b:Bool):List V→Hp→VK→Prop:=fun xs H Q=>∃ a tp,xs=[.ref a,.ref tp]∧H a=some (φX a C)∧H tp=some (.tup (Ds.map V.ref))∧Q (.bl b) H
theorem qd:∀ {Ds:List Addr} {us:List Value},Vals (Ds.map V.ref) us→us=Ds.map Value.ref
 | [],_,.nil=>rfl
 | D::Ds,_,.cons r t=>by rw [qd t];cases r;rfl
section
variable {X:Cx} {C:Addr} {e:Expr} {es:List Expr} {f:Dm.FE} {p p2 pos:Pos} {b:Bool} {Ds:List Addr}
theorem xB:PA X [] (tK []):=iA
theorem dm {D:Addr} {tn:Str} (hgT:Gl X tn) (hmT:X.mg tn=some (.ref D)) (h:PA X es (tK (Ds.map V.ref))) (hdb:(tn == ("__debug__" : Str))=false:=by decide) (hs:starEach (.Name tn p2::es) X.env=(false,eval (.Name tn p2) X.env)::starEach es X.env:=by rfl) :
  PA X (.Name tn p2::es) (tK ((D::Ds).map V.ref)):=PA.weak (cS (qx (v:=.ref D) hgT hmT rfl hdb) h hs) fun _ _ _ q=>q
theorem A5 (Z:nt X.K C) (k:PySem.W.kitAny X.K (.ref C) (Ds.map Value.ref)=some b):dw X (.builtin "isinstance") (LF X.K C Ds b):=by
 intro pins s σ H xs us Q I r h
 obtain ⟨a,tp,rfl,ha,ht,q⟩:=h
 obtain ⟨u,u3,rfl,rx,ry⟩:=vals2 r
 cases rx
 cases ry
 obtain ⟨_,its,vr,o,ho,hc,n,hd⟩:=(show aT X.prog X.w H s.heap tp (.tup (Ds.map V.ref)) from I.hok tp _ ht)
 obtain rfl:=qd vr
 obtain ⟨oc,od,oda,osl⟩:=o
 dsimp only at hc hd
 subst hc hd
 exact PySem.W.kia_tup (PySem.W.sP Z.get Z.cls) I.kIn (FY I ha) ho k (by intro q;cases q) fun tk=>⟨.bl b,H,I.tok tk,rfl,q⟩
theorem LG {σ:L2.St} {H:Hp} {Q:VK} (hz:Ds.length≤1000) (h:tD (Dm.e1 (Dm.qP C b) f) σ H Q):tCB (LF X.K C Ds b) (k_ (tD f) (k_ (Hi (tK (Ds.map V.ref))) u6)) σ H Q:=by
 obtain ⟨H0,ρ,x,ρ',st,e,k⟩:=h
 unfold Dm.e1 at e
 split at e
 ·cases e
 rename_i x1 ρ1 e1
 split at e
 ·cases e
 rename_i dx p1
 cases dx with
 | exc C'=>
  unfold Dm.qP at e
  dsimp only at e
  by_cases hC:C'=C
  ·subst hC
   rw [if_pos rfl] at e
   cases e
   refine ⟨H0,ρ,x1,_,st,e1,fun v H1 Hb t1 r1=>?_⟩
   have rv:Rep Hb v (.exc C'):=(r1.look t1.st p1).full t1.st.same
   cases rv with
   | exc q=>
    refine ⟨by rw [List.length_map];exact Nat.le_of_lt (yG hz),fun tp ht=>?_⟩
    exact ⟨_,tp,rfl,by rw [ao (aI q ht)];exact q,aq,k _ H1 _ (t1.trans (.grow t1.st (aK.mU t1.st.same ht))) (Rep.bl _)⟩
  ·rw [if_neg hC] at e;cases e
 | _=>cases e
theorem xC {pt:Pos} {cx:Nat} (Z:nt X.K C) (k:PySem.W.kitAny X.K (.ref C) (Ds.map Value.ref)=some b) (hT:PA X es (tK (Ds.map V.ref))) (hz:Ds.length≤1000) (hg:Gl X "isinstance") (hm:X.mg "isinstance" = none) (h:DE X e f)
  (he:starEach [e,.Tuple es cx pt] X.env=(false,eval e X.env)::starEach [.Tuple es cx pt] X.env:=by rfl) (hpl:(backTo pos (starEach [.Tuple es cx pt] X.env)).any (·.1)=false:=by rfl) (he2:starEach [.Tuple es cx pt] X.env=(false,eval (.Tuple es cx pt) X.env)::starEach [] X.env:=by rfl) :
  DE X (.Call (.Name "isinstance" p) [e,.Tuple es cx pt] [] pos) (Dm.e1 (Dm.qP C b) f):=
 PE.weak (fX (A5 Z k) hg hm PyProof.Rows.boot_isinstance (cS h (cS (zU hT) iA he2) he) (he:=he) (hpl:=hpl)) fun _ _ _=>LG hz
end
theorem sV {K:PySem.W.Frag} {h₀:Heap} {mg:Str→Option Value} {x:Str} {C:Addr} {bmB:List Value} {newId:String} (X:K.In h₀) (G:mg x=some (.ref C)) (q:PySem.W.excIn K C bmB newId=true):OwnCls x C bmB newId mg h₀:=by
 refine ⟨G,?_⟩
 unfold PySem.W.excIn at q
 split at q
 ·rename_i dd cd sl ho
  split at q
  ·rename_i C' bm k0 k1 k2 k3 n k5 hm hs
   simp only [Bool.and_eq_true,beq_iff_eq,Bool.not_eq_true'] at q
   obtain ⟨⟨⟨⟨⟨rfl,rfl⟩,LH⟩,ht⟩,hok⟩,hni⟩:=q
   obtain ⟨nm,bs,mro,ns,qn,hd,sn,sub,ab,col,del⟩:=cd
   dsimp only at hm LH hok hni
   subst hm LH
   have hsl:sl=#[k0,k1,k2,k3,some (.builtin n),k5]:=by
    obtain ⟨l⟩:=sl
    simp only at hs
    rw [hs]
   subst hsl
   exact ⟨bm,ns,nm,qn,bs,hd,sn,sub,ab,col,dd,k0,k1,k2,k3,k5,_,X _ _ ho,.of_isNs (PySem.W.isNs_of_in X hok),PySem.W.nsMap_none_of_in X hok hni,PySem.W.tail_of_in X ht⟩
  ·cases q
 ·cases q
noncomputable abbrev bmV:List Value:=[.type "ValueError",.type "Exception",.type "BaseException",.type "object"]
section
variable {X:Cx} {a b c e:Expr} {f fa fb fc:Dm.FE} {p p2 pos:Pos} {es:List Expr} {fs:List Dm.FE}
end
end Br
namespace Dm
end Dm
namespace Br
open PySem PySem.Spec PyProof.Rows L2
section
variable {X:Cx}
end
section
variable {X:Cx} {e:Expr} {fs:List Dm.FE} {p pos:Pos}
end
section
variable {X:Cx}
end
section
variable {σ:L2.St} {H:Hp} {Q:VK}
end
section
variable {X:Cx} {a e:Expr} {fa f:Dm.FE}
end
structure yX (K:PySem.W.Frag) (x qual:Str) (st:Stmt) (f:Addr) (fd:FuncData):Prop where
 ex:∃ (oc:Value) (od:Option Addr) (dV kV doc pm:Value) (an:Option Addr) (cdv ct:Value) (osl:Array (Option Value)),
  fd=PySem.W.fnOf x qual (aL st) (aH st) (ah st) dV kV doc pm an cdv ct∧K.lookup f=some ⟨oc,od,.func fd,osl⟩∧PySem.W.codeIn K cdv qual=true
 kp:PySem.W.keepIn K (.ref f)=true
section
variable {P:Program} {w:World} {K:PySem.W.Frag} {mg:Str→Option Value} {base:Heap}
theorem yX.ok {x qual:Str} {st:Stmt} {f:Addr} {fd:FuncData} {N ps:List Str} {k:Nat} {sp:Sp} (F:yX K x qual st f fd) (S:ay N ps (ah st)) (len:∀ vs H Q E,sp vs H Q E→vs.length=ps.length)
  (hbody:∀ (cdv:Value) (A:Around) (outer:List Env) (s:Shared) (H:Hp) (vs:List V) (Q:VK) (E:XK),bB k (A.deeper (envOfC qual (ah st) s.heap.objs.size f cdv))→sp vs H Q E →
   ∃ t,PSs (e8 CX0 P w K mg base N qual (ah st) f cdv A outer s H E).nox (aH st) t∧t { nx:=fun _ H'=>Q .non H',rt:=Q } (start N vs) H):aR P w K mg base CX0 (k+1) f fd ps sp:=by
 obtain ⟨oc,od,dV,kV,doc,pm,an,cdv,ct,osl,rfl,lk,hcd⟩:=F.ex
 refine wN lk hcd S len fun A outer s H vs Q E hr hsp=>?_
 obtain ⟨t,h,q⟩:=hbody cdv A outer s H vs Q E hr hsp
 exact ⟨t,h.nox,q⟩
theorem xD {x qual:Str} {st:Stmt} {f:Addr} {oc:Value} {od an:Option Addr} {osl:Array (Option Value)} {dV kV doc pm cdv ct:Value} (l:K.lookup f=some ⟨oc,od,.func (PySem.W.fnOf x qual (aL st) (aH st) (ah st) dV kV doc pm an cdv ct),osl⟩)
  (c:PySem.W.codeIn K cdv qual=true) (k:PySem.W.keepIn K (.ref f)=true):yX K x qual st f (PySem.W.fnOf x qual (aL st) (aH st) (ah st) dV kV doc pm an cdv ct):=⟨⟨oc,od,dV,kV,doc,pm,an,cdv,ct,osl,rfl,l,c⟩,k⟩
end
section
variable {X:Cx} {l a:Expr} {tl:TE} {ta:TA} {fa:Dm.FE} {p pos p0 pJ:Pos}
end
theorem El {g:List Dm.Dat→Option Dm.RV} {c:Int} {vs:List V} {H:Hp} {Q:VK} {E:XK} (h:spD (fun ds=>g (ds++[.int c])) vs H Q E):spD g (vs++[.int c]) H Q E:=by
 obtain ⟨H0,ds,z,s,r,e,k⟩:=h
 exact ⟨H0,ds++[.int c],z,s,r.append (.cons (.int _) .nil),e,k⟩
section
variable {σ:L2.St} {H:Hp} {Q:VK}
theorem Em {g:List Dm.Dat→Option Dm.RV} {c:Int} {fs:List Dm.FE} {E:XK} (h:tD (Dm.eF (fun ds=>g (ds++[.int c])) fs) σ H Q):pR (spD g) [.int c] E (tDA fs) σ H Q:=by
 obtain ⟨H0,ρ,xs,ρ',st,e,k⟩:=Ah (E:=E) h
 refine ⟨H0,ρ,xs,ρ',st,e,fun vs H0' H' t r=>?_⟩
 have:=k vs H0' H' t r
 dsimp only at this
 rw [List.append_nil] at this
 exact El this
end
section
variable {X:Cx} {e:Expr} {es:List Expr} {fs:List Dm.FE} {p pos:Pos}
theorem qT {k:Nat} {F:Addr} {fd:FuncData} {ps:List Str} {g:List Dm.Dat→Option Dm.RV} {x:Str} {c:Int} {tk:Tok} (G:aR X.prog X.w X.K X.mg X.base CX0 k F fd ps (spD g)) (hr:bB k X.A) (hg:Gl X x) (hm:X.mg x=some (.ref F)) (hk:PySem.W.keepIn X.K (.ref F)=true) (hb:Binds X.K fd ps [.int c tk])
  (ha:DA X (e::es) fs) (hdb:(x == ("__debug__" : Str))=false:=by decide) (he:starEach (e::es) X.env=(false,eval e X.env)::starEach es X.env:=by rfl) (hpl:(backTo pos (starEach es X.env)).any (·.1)=false:=by rfl) :
  DE X (.Call (.Name x p) (e::es) [] pos) (Dm.eF (fun ds=>g (ds++[.int c])) fs):=PE.weak (jK G hr hg hm hk hb (dvs:=[.int c]) (.cons (show RelV (.int c) (.int c tk) from ⟨tk,rfl⟩) .nil) (se (X:=X)) ha hdb he hpl) fun _ _ _=>Em
end
end Br
namespace Dm
noncomputable abbrev FN:=Env→List (List Dat)→Option (Env×List (List Dat))
noncomputable def nNx:FN:=fun ρ r=>some (ρ,r)
noncomputable def yY (s u:FN):FN:=fun ρ r=>match s ρ r with
 | none=>none
 | some (ρ1,r1)=>u ρ1 r1
noncomputable def nIf (t:FT) (a b:FN):FN:=fun ρ r=>match t ρ with
 | none=>none
 | some (true,ρ1)=>a ρ1 r
 | some (false,ρ1)=>b ρ1 r
noncomputable def vA (i e:FE):FN:=fun ρ r=>match i ρ with
 | some (.val (.int k),ρ1)=>(match ixN r.length k with
  | none=>none
  | some m=>match r[m]? with
   | none=>none
   | some row=>match e ρ1 with
    | none=>none
    | some (x,ρ2)=>match tk ρ2 x with
     | none=>none
     | some (d,ρ3)=>if row.length<SZ then some (ρ3,r.set m (row++[d])) else none)
 | _=>none
noncomputable def lH (bd:FB) (body:FN):List Dat→FN
 | [],ρ,r=>some (ρ,r)
 | d::q,ρ,r=>match bd d ρ with
  | none=>none
  | some ρ1=>match body ρ1 r with
   | none=>none
   | some (ρ2,r2)=>lH bd body q ρ2 r2
noncomputable def vC (it:FI) (bd:FB) (body:FN):FN:=fun ρ r=>match it ρ with
 | none=>none
 | some (ds,ρ1)=>lH bd body ds ρ1 r
noncomputable def nMk (bd:FB):List Dat→Env→Option Env
 | [],ρ=>some ρ
 | d::r,ρ=>match bd d ρ with
  | none=>none
  | some ρ1=>nMk bd r ρ1
noncomputable def nu (j:Nat) (it:FI) (own:Nat) (bd:FB) (loop:FN):FS:=fun ρ=>if j=0 then none else match it ρ with
 | none=>none
 | some (ds,ρ1)=>if ds.length≤SZ then (match nMk bd ds (ρ1++List.replicate own .un) with
  | none=>none
  | some ρ2=>match loop ((ρ2.take ρ1.length).set j .un) (List.replicate ds.length []) with
   | none=>none
   | some (ρ3,r)=>some (.nx (ρ3.set j (.ow (.lst (r.map .lst)))))) else none
noncomputable def kP:List Dat→Option RV
 | [.dct ks _]=>if ks.length≤63 then some (.new (.lst ((fM (fun a b=>decide (a<b)) ks).map .int))) else none
 | _=>none
noncomputable def sW:List Dat→Option RV
 | [.dct ks vs]=>some (.new (.dct ks vs))
 | _=>none
noncomputable def fk:List Int→List Dat→Int→List Int
 | k::ks,_::vs,i=>if k=i then fk ks vs i else k::fk ks vs i
 | _,_,_=>[]
noncomputable def fm:List Int→List Dat→Int→List Dat
 | k::ks,v::vs,i=>if k=i then fm ks vs i else v::fm ks vs i
 | _,_,_=>[]
noncomputable def nv (i:Nat) (e:FE):FE:=fun ρ=>match ρ[i]? with
 | some (.ow (.dct _ _))=>(match e ρ with
  | some (.val (.int k),ρ1)=>(match ρ1[i]? with
   | some (.ow (.dct ks vs))=>(match bO ks vs k with
    | some d=>some (.val d,ρ1.set i (.ow (.dct (fk ks vs k) (fm ks vs k))))
    | none=>none)
   | _=>none)
  | _=>none)
 | _=>none
mutual
noncomputable def bQ:Dat→Bool
 | .tup xs=>gp xs
 | .lst xs=>gp xs
 | .dct _ _=>false
 | .exc _=>false
 | _=>true
noncomputable def gp:List Dat→Bool
 | []=>true
 | x::r=>bQ x&&gp r
end
noncomputable def tkd (ρ:Env):Val→Option (Dat×Env)
 | .val d=>some (d,ρ)
 | .new d=>some (d,ρ)
 | .slot i=>match ρ[i]? with
  | some (.ow (.dct ks vs))=>some (.dct ks vs,ρ)
  | some (.ow d)=>some (d,ρ.set i (.sh d))
  | some (.sh d)=>some (d,ρ)
  | _=>none
noncomputable def vD (ρ:Env):List Val→Option (List Dat×Env)
 | []=>some ([],ρ)
 | x::r=>match tkd ρ x with
  | none=>none
  | some (d,ρ1)=>match vD ρ1 r with
   | none=>none
   | some (ds,ρ2)=>some (d::ds,ρ2)
noncomputable def eFd (f:List Dat→Option RV) (as:List FE):FE:=fun ρ=>match eAs as ρ with
 | none=>none
 | some (xs,ρ1)=>match vD ρ1 xs with
  | none=>none
  | some (ds,ρ2)=>match f ds with
   | none=>none
   | some v=>if bQ v.dat then some (v.bG,ρ2) else none
noncomputable def jW:Dat→Dat→Option RV
 | .int i,.int j=>if i.natAbs.log2<1000000∧j.natAbs.log2<1000000 then vI (i*j) else none
 | _,_=>none
noncomputable def kQ:List Val→Option (List Dat)
 | []=>some []
 | .val d::r=>(kQ r).map fun ds=>d::ds
 | _=>none
noncomputable def eFn (f:List Dat→Option (RV×Dat)) (e0:FE) (as:List FE):FE:=fun ρ=>match eAs (e0::as) ρ with
 | some (.new d::xs,ρ1)=>(match kQ xs with
  | none=>none
  | some ds=>match f (d::ds) with
   | none=>none
   | some (v,_)=>some (v.bG,ρ1))
 | _=>none
end Dm
namespace Br
open PySem PySem.Spec PyProof.Rows L2
noncomputable def aW (H0 H:Hp):List Addr→List (List Dm.Dat)→Prop
 | [],[]=>True
 | p::ps,r::rs=>(∃ xs,H p=some (.lst xs)∧aC H0 xs r)∧aW H0 H ps rs
 | _,_=>False
theorem aW.len {H0 H:Hp}:∀ {ps:List Addr} {rs:List (List Dm.Dat)},aW H0 H ps rs→ps.length=rs.length
 | [],[],_=>rfl
 | _::_,_::_,h=>by simp [aW.len h.2]
theorem aW.get {H0 H:Hp}:∀ {ps:List Addr} {rs:List (List Dm.Dat)} {i:Nat} {r:List Dm.Dat},aW H0 H ps rs→rs[i]?=some r→∃ p xs,ps[i]?=some p∧H p=some (.lst xs)∧aC H0 xs r
 | [],[],_,_,_,e=>by simp at e
 | p::_,_::_,0,_,h,e=>by simp at e;subst e;obtain ⟨xs,h1,h2⟩:=h.1;exact ⟨p,xs,rfl,h1,h2⟩
 | _::_,_::_,i+1,_,h,e=>by
  obtain ⟨p,xs,h1,h2⟩:=aW.get (i:=i) h.2 (by simpa using e)
  exact ⟨p,xs,by simpa using h1,h2⟩
theorem aW.mono {H0 H H0' H':Hp}:∀ {ps:List Addr} {rs:List (List Dm.Dat)},aW H0 H ps rs→ak H0 H0'→(∀ p∈ps,H' p=H p)→aW H0' H' ps rs
 | [],[],_,_,_=>trivial
 | p::ps,r::rs,h,s,k=>by
  obtain ⟨⟨xs,h1,h2⟩,h3⟩:=h
  exact ⟨⟨xs,by rw [k p List.mem_cons_self];exact h1,h2.mono s⟩,aW.mono h3 s fun q hq=>k q (List.mem_cons_of_mem _ hq)⟩
theorem aW.set {H0 H:Hp} {p:Addr} {xs:List V} {r:List Dm.Dat} (w:aC H0 xs r):∀ {ps:List Addr} {rs:List (List Dm.Dat)} {i:Nat},aW H0 H ps rs→ps.Nodup→ps[i]?=some p→aW H0 (upd H p (.lst xs)) ps (rs.set i r)
 | [],[],_,_,_,e=>by simp at e
 | q::ps,_::rs,0,h,n,e=>by
  simp at e
  subst e
  refine ⟨⟨xs,aq,w⟩,h.2.mono (ak.refl _) fun y hy=>ao fun z=>?_⟩
  subst z
  exact (List.nodup_cons.mp n).1 hy
 | q::ps,_::rs,i+1,h,n,e=>by
  have e':ps[i]?=some p:=by simpa using e
  obtain ⟨⟨ys,h1,h2⟩,h3⟩:=h
  obtain ⟨n1,n2⟩:=List.nodup_cons.mp n
  refine ⟨⟨ys,?_,h2⟩,aW.set w h3 n2 e'⟩
  rw [ao fun z=>?_]
  ·exact h1
  ·subst z
   exact n1 (List.mem_of_getElem? e')
theorem aW.some {H0 H:Hp}:∀ {ps:List Addr} {rs:List (List Dm.Dat)},aW H0 H ps rs→∀ p∈ps,∃ o,H p=some o
 | [],[],_,_,h=>by cases h
 | q::ps,_::rs,h,p,hp=>by
  rcases List.mem_cons.mp hp with rfl | hp
  ·obtain ⟨xs,h1,_⟩:=h.1;exact ⟨_,h1⟩
  ·exact aW.some h.2 p hp
structure NS (j:Nat) (σs:L2.St) (ρs:Dm.Env) (H0s Hs:Hp) (σ:L2.St) (ρ:Dm.Env) (H0 H:Hp) (rows:List (List Dm.Dat)):Prop where
 st:au H0 H σ ρ
 stp:Stp (aj σs ρs) H0s Hs H0 H
 own:∀ a,aj σ ρ a→aj σs ρs a∨Hs a=none
 fx:σ[0]?=σs[0]?
 ex:∃ (L:Addr) (ps:List Addr),σ[j]?=some (some (.ref L))∧Hs L=none∧H0 L=none∧¬ aj σ ρ L∧H L=some (.lst (ps.map V.ref))∧(L::ps).Nodup∧(∀ p∈ps,Hs p=none∧H0 p=none∧¬ aj σ ρ p)∧aW H0 H ps rows
theorem NS.est {j:Nat} {σs:L2.St} {ρs:Dm.Env} {H0s Hs:Hp} {σ:L2.St} {ρ ρ':Dm.Env} {H0 H H0' H':Hp} {rows:List (List Dm.Dat)} (n:NS j σs ρs H0s Hs σ ρ H0 H rows) (t:ESt σ ρ H0 H ρ' H0' H'):NS j σs ρs H0s Hs σ ρ' H0' H' rows:=by
 obtain ⟨L,ps,h1,h2,h3,h4,h5,h6,h7,h8⟩:=n.ex
 obtain ⟨k1,k2,k3⟩:=t.dW h5 h3 h4
 refine ⟨t.st,n.stp.trans t.stp n.own,fun a z=>n.own a (t.own a z),n.fx,L,ps,h1,h2,k2,k3,k1,h6,fun p hp=>?_,h8.mono t.stp.s0 fun p hp=>?_⟩
 ·obtain ⟨q1,q2,q3⟩:=h7 p hp
  obtain ⟨o,q4⟩:=h8.some p hp
  obtain ⟨z1,z2,z3⟩:=t.dW q4 q2 q3
  exact ⟨q1,z2,z3⟩
 ·obtain ⟨q1,q2,q3⟩:=h7 p hp
  obtain ⟨o,q4⟩:=h8.some p hp
  obtain ⟨z1,z2,z3⟩:=t.dW q4 q2 q3
  rw [z1,q4]
theorem NS.bind {j:Nat} {σs:L2.St} {ρs:Dm.Env} {H0s Hs:Hp} {σ σ':L2.St} {ρ ρ':Dm.Env} {H0 H:Hp} {rows:List (List Dm.Dat)} (n:NS j σs ρs H0s Hs σ ρ H0 H rows) (st:au H0 H σ' ρ') (o:∀ a,aj σ' ρ' a→aj σ ρ a) (hj:σ'[j]?=σ[j]?) (h0:σ'[0]?=σ[0]?):NS j σs ρs H0s Hs σ' ρ' H0 H rows:=by
 obtain ⟨L,ps,h1,h2,h3,h4,h5,h6,h7,h8⟩:=n.ex
 exact ⟨st,n.stp,fun a z=>n.own a (o a z),h0.trans n.fx,L,ps,hj.trans h1,h2,h3,fun z=>h4 (o L z),h5,h6,fun p hp=>⟨(h7 p hp).1,(h7 p hp).2.1,fun z=>(h7 p hp).2.2 (o p z)⟩,h8⟩
noncomputable def sX (H0 H:Hp) (ps:List Addr):Hp:=fun b=>if b∈ps then H b else H0 b
theorem qU {H0 H:Hp} {ps:List Addr} {b:Addr} (h:b∈ps):sX H0 H ps b=H b:=by unfold sX;rw [if_pos h]
theorem gq {H0 H:Hp} {ps:List Addr} {b:Addr} (h:b∉ps):sX H0 H ps b=H0 b:=by unfold sX;rw [if_neg h]
theorem yZ {H0 H:Hp} {ps:List Addr} (s:ak H0 H):ak H0 (sX H0 H ps):=fun b o e=>by
 by_cases q:b∈ps
 ·rw [qU q];exact s _ _ e
 ·rw [gq q];exact e
theorem A6 {H0 H:Hp} {ps:List Addr} (s:ak H0 H):ak (sX H0 H ps) H:=fun b o e=>by
 by_cases q:b∈ps
 ·rw [qU q] at e;exact e
 ·rw [gq q] at e;exact s _ _ e
theorem aW.reps {H0 H H1:Hp}:∀ {ps:List Addr} {rs:List (List Dm.Dat)},aW H0 H ps rs→ak H0 H1→(∀ p∈ps,H1 p=H p)→aC H1 (ps.map V.ref) (rs.map Dm.Dat.lst)
 | [],[],_,_,_=>.nil
 | p::ps,r::rs,h,s,k=>by
  obtain ⟨⟨xs,h1,h2⟩,h3⟩:=h
  exact .cons (.lst (.inl ((k p List.mem_cons_self).trans h1)) (h2.mono s)) (aW.reps h3 s fun q hq=>k q (List.mem_cons_of_mem _ hq))
theorem NS.done {j:Nat} {σs:L2.St} {ρs:Dm.Env} {H0s Hs:Hp} {σ:L2.St} {ρ:Dm.Env} {H0 H:Hp} {rows:List (List Dm.Dat)} (n:NS j σs ρs H0s Hs σ ρ H0 H rows):∃ H0',SSt σs ρs H0s Hs σ (ρ.set j (.ow (.lst (rows.map Dm.Dat.lst)))) H0' H:=by
 obtain ⟨L,ps,h1,h2,h3,h4,h5,h6,h7,h8⟩:=n.ex
 obtain ⟨n1,n2⟩:=List.nodup_cons.mp h6
 have ss:=yZ (ps:=ps) n.st.same
 have st:au (sX H0 H ps) H σ ρ:={
  same:=A6 n.st.same
  len:=n.st.len
  sh:=fun i d h=>by
   obtain ⟨v,z,r⟩:=n.st.sh i d h
   exact ⟨v,z,r.mono ss⟩
  ow:=fun i d h=>by
   obtain ⟨b,z,q,w⟩:=n.st.ow i d h
   have nb:b∉ps:=fun y=>(h7 b y).2.2 ⟨i,d,h,z⟩
   exact ⟨b,z,by rw [gq nb];exact q,w.mono ss rfl⟩
  dis:=n.st.dis }
 refine ⟨sX H0 H ps,st.kM h1 h4 (by rw [gq n1];exact h3) ⟨_,h5,h8.reps ss fun p hp=>qU hp⟩,⟨n.stp.s0.trans ss,n.stp.s1,fun a o e=>?_,n.stp.s3⟩,fun a z=>?_,n.fx⟩
 ·by_cases q:a∈ps
  ·exact .inl (h7 a q).1
  ·rw [gq q] at e;exact n.stp.s2 a o e
 ·obtain ⟨i,d,z1,z2⟩:=z
  by_cases q:j=i
  ·subst q
   rw [h1] at z2
   cases z2
   exact .inr h2
  ·rw [List.getElem?_set_ne q] at z1
   exact n.own a ⟨i,d,z1,z2⟩
noncomputable def tDN (j:Nat) (f:Dm.FN):TS:=fun D σ H=>∃ σs ρs H0s Hs H0 ρ rows ρ' rows',NS j σs ρs H0s Hs σ ρ H0 H rows∧f ρ rows=some (ρ',rows')∧∀ σ' H0' H',NS j σs ρs H0s Hs σ' ρ' H0' H' rows'→ak H0 H0'→D.nx σ' H'
section
variable {D:Ends} {σ:L2.St} {H:Hp} {j:Nat}
theorem LJ (h:tDN j Dm.nNx D σ H):zD D σ H:=by
 obtain ⟨σs,ρs,H0s,Hs,H0,ρ,rows,ρ',rows',n,e,k⟩:=h
 cases e
 exact k σ H0 H n (ak.refl _)
theorem IA {s u:Dm.FN} (h:tDN j (Dm.yY s u) D σ H):yl (tDN j s) (tDN j u) D σ H:=by
 obtain ⟨σs,ρs,H0s,Hs,H0,ρ,rows,ρ',rows',n,e,k⟩:=h
 unfold Dm.yY at e
 split at e
 ·cases e
 rename_i ρ1 r1 e1
 exact ⟨σs,ρs,H0s,Hs,H0,ρ,rows,ρ1,r1,n,e1,fun σ' H0' H' n' s1=>⟨σs,ρs,H0s,Hs,H0',ρ1,r1,ρ',rows',n',e,fun σ2 H2 Hc n2 s2=>k σ2 H2 Hc n2 (s1.trans s2)⟩⟩
theorem LK {t:Dm.FT} {a b:Dm.FN} (h:tDN j (Dm.nIf t a b) D σ H):GW (tDT t) (tDN j a) (tDN j b) D σ H:=by
 obtain ⟨σs,ρs,H0s,Hs,H0,ρ,rows,ρ',rows',n,e,k⟩:=h
 unfold Dm.nIf at e
 split at e
 ·cases e
 ·rename_i ρ1 e1
  refine ⟨H0,ρ,true,ρ1,n.st,e1,fun H1 Hb t1=>?_⟩
  dsimp only
  rw [if_pos rfl]
  exact ⟨σs,ρs,H0s,Hs,H1,ρ1,rows,ρ',rows',n.est t1,e,fun σ2 H2 Hc n2 s2=>k σ2 H2 Hc n2 (t1.stp.s0.trans s2)⟩
 ·rename_i ρ1 e1
  refine ⟨H0,ρ,false,ρ1,n.st,e1,fun H1 Hb t1=>?_⟩
  dsimp only
  rw [if_neg Bool.false_ne_true]
  exact ⟨σs,ρs,H0s,Hs,H1,ρ1,rows,ρ',rows',n.est t1,e,fun σ2 H2 Hc n2 s2=>k σ2 H2 Hc n2 (t1.stp.s0.trans s2)⟩
theorem IB {fi:Dm.FI} {bd:Dm.FB} {g:TG} {body:Dm.FN} {is:List Nat} (hb:BD is g bd) (hj:j∉is) (h:tDN j (Dm.vC fi bd body) D σ H):G3 (tDI fi) g (tDN j body) D σ H:=by
 obtain ⟨σs,ρs,H0s,Hs,H0,ρ,rows,ρ',rows',n,e,k⟩:=h
 unfold Dm.vC at e
 split at e
 ·cases e
 rename_i ys ρ1 e1
 refine ⟨H0,ρ,ys,ρ1,n.st,e1,fun J H00 Hb t1 jw=>?_⟩
 refine ⟨fun i m σ H=>∃ H0 ρ rows,NS j σs ρs H0s Hs σ ρ H0 H rows∧ak H00 H0∧m=ys.length-i∧i≤ys.length∧Dm.lH bd body (ys.drop i) ρ rows=some (ρ',rows'),
  ⟨ys.length,H00,ρ1,rows,n.est t1,ak.refl _,by simp,Nat.zero_le _,by simpa using e⟩,?_⟩
 rintro i m σ H ⟨H0,ρ,rows,n,s00,rfl,hi,e⟩
 obtain ⟨js,jg⟩:=jw H0 H s00 n.st.same
 by_cases hlt:i<ys.length
 ·have hd:ys[i]?=some ys[i]:=by simp [hlt]
  obtain ⟨g1,g2⟩:=jg i ys[i] hd
  rw [List.drop_eq_getElem_cons hlt] at e
  unfold Dm.lH at e
  refine .inr ⟨g1,fun σ' H'=>∃ H0 ρ rows,NS j σs ρs H0s Hs σ' ρ H0 H' rows∧ak H00 H0∧Dm.lH bd body (ys.drop (i+1)) ρ rows=some (ρ',rows'),?_,fun x H' y=>?_⟩
  ·rintro σ' H' ⟨H0',ρ2,r2,h1,h2,h3⟩
   exact ⟨ys.length-(i+1),by omega,H0',ρ2,r2,h1,h2,rfl,hlt,h3⟩
  ·obtain ⟨H0',gr,rx⟩:=g2 x H' y
   split at e
   ·cases e
   ·rename_i ρ2 e2
    have t2:=ESt.grow n.st gr
    have n2:=n.est t2
    refine hb H0' H' σ ρ ρ2 x ys[i] _ t2.st rx e2 fun σ2 st2 o2 k2 _ f2=>?_
    have n3:=n2.bind st2 o2 (k2 j hj) f2
    have s3:ak H00 H0':=s00.trans gr.s0
    split at e
    ·cases e
    ·rename_i ρ3 r3 e3
     refine ⟨σs,ρs,H0s,Hs,H0',ρ2,rows,ρ3,r3,n3,e3,fun σ4 H4 Hd n4 s4=>⟨H4,ρ3,r3,n4,s3.trans s4,e⟩⟩
 ·have e':i=ys.length:=by omega
  subst e'
  rw [List.drop_length] at e
  cases e
  exact .inl ⟨js _ (Nat.le_refl _),k σ H0 H n (t1.stp.s0.trans s00)⟩
theorem IC {K:PySem.W.Frag} {fi f:Dm.FE} (h:tDN j (Dm.vA fi f) D σ H):wK (tBM K "list" qC (tOp (Hq K) (rZ j) (tD fi)) (tDA [f])) D σ H:=by
 obtain ⟨σs,ρs,H0s,Hs,H0,ρ,rows,ρ',rows',n,e,k⟩:=h
 unfold Dm.vA at e
 split at e
 case h_2=>cases e
 rename_i z ρ1 e1
 split at e
 ·cases e
 rename_i m em
 split at e
 ·cases e
 rename_i row er
 split at e
 ·cases e
 rename_i x ρ2 e2
 split at e
 ·cases e
 rename_i d ρ3 e3
 split at e
 case isFalse=>cases e
 rename_i hz
 cases e
 obtain ⟨L,ps0,h1,_⟩:=n.ex
 refine ⟨_,h1,H0,ρ,_,ρ1,n.st,e1,fun y H1 Hb t1 r1=>?_⟩
 have n1:=n.est t1
 obtain ⟨L',ps,q1,q2,q3,q4,q5,q6,q7,q8⟩:=n1.ex
 rw [h1] at q1
 cases q1
 obtain ⟨q,xs,hq,hqx,hqr⟩:=q8.get er
 have hqm:q∈ps:=List.mem_of_getElem? hq
 refine ⟨L,ps.map V.ref,z,V.ref q,rfl,Rep.isInt r1,.inl (.inl q5),?_,.inl ⟨rfl,xs,.inl (.inl hqx)⟩,?_⟩
 ·show (L2.ixN (ps.map V.ref).length z).bind (fun j=>(ps.map V.ref)[j]?)=_
  rw [List.length_map,q8.len,← HG,em]
  show (ps.map V.ref)[m]?=_
  rw [List.getElem?_map,hq]
  rfl
 refine ⟨H1,ρ1,[x],ρ2,n1.st,by unfold Dm.eAs;rw [e2];rfl,fun vs H2 Hc t2 r2=>?_⟩
 cases r2 with
 | cons r rr=>
  cases rr
  obtain ⟨H3,t3,b3,r3,_,_⟩:=take1 t2 (ak.refl _) r e3
  have n3:=n1.est t3
  obtain ⟨L',ps',w1,w2,w3,w4,w5,w6,w7,w8⟩:=n3.ex
  rw [h1] at w1
  cases w1
  obtain ⟨k1,_,_⟩:=t3.dW q5 q3 q4
  rw [k1] at w5
  have ep:ps'=ps:=by
   have:ps.map V.ref=ps'.map V.ref:=by injection w5 with z;injection z
   exact ((List.map_inj_right fun a b h=>by injection h).mp this).symm
  subst ep
  obtain ⟨q',ys,hq',hqy,LL⟩:=w8.get er
  rw [hq] at hq'
  cases hq'
  have nL:L≠q:=fun z=>(List.nodup_cons.mp w6).1 (z▸hqm)
  refine ⟨q,ys,_,rfl,rfl,hqy,by rw [LL.length];exact Nat.lt_of_lt_of_le hz (by decide),?_⟩
  obtain ⟨z1,z2,z3⟩:=w7 q hqm
  refine k σ H3 _ ⟨n3.st.aside z2 z3,n3.stp.aside z1,n3.own,n3.fx,L,ps',h1,w2,w3,w4,by rw [ao nL];exact k1,w6,w7,aW.set (LL.append (.cons r3 .nil)) w8 (List.nodup_cons.mp w6).2 hq⟩ (t1.stp.s0.trans t3.stp.s0)
end
theorem A7 {σ:L2.St} {own:Nat} {bd:Dm.FB} {g:TG} {is:List Nat} {Q:VK} {H00 Hb:Hp} {ρ1 ρ2:Dm.Env} {ds:List Dm.Dat} {J:It} (hb:BD is g bd) (hl:∀ i∈is,σ.length≤i)
  (st1:au H00 Hb σ ρ1) (jw:JW J H00 ds) (hsz:ds.length≤Dm.SZ) (e2:Dm.nMk bd ds (ρ1++List.replicate own .un)=some ρ2) (D:Addr) (hD:Hb D=none)
  (k:∀ H0' H' (ps:List Addr),au H0' H' σ (ρ2.take ρ1.length)→Stp (aj σ ρ1) H00 Hb H0' H'→(∀ a,aj σ (ρ2.take ρ1.length) a→aj σ ρ1 a)→H' D=some (.lst (ps.map V.ref))→H0' D=none→(D::ps).Nodup→(∀ p∈ps,Hb p=none∧H0' p=none) →
   aW H0' H' ps (List.replicate ds.length [])→Q (.ref D) H') :
  ∃ W:Nat→Nat→L2.St→Hp→Prop,(∃ m,W 0 m (σ++List.replicate own none) (upd Hb D (.lst [])))∧∀ i m σ' H',W i m σ' H' →
  (J.stop i H'∧Q (.ref D) H')∨(J.go i H'∧∀ x H2,J.yld i H' x H2→g x σ' H2 fun σ2 H3=>DK σ2 H3 fun b H4=>if b=true
   then Dr u6 σ2 H4 fun y H5=>∃ acc,H5 D=some (.lst acc)∧acc.length<sizeLine∧∃ m',m'<m∧W (i+1) m' σ2 (upd H5 D (.lst (acc++[y])))
   else ∃ m',m'<m∧W (i+1) m' σ2 H4):=by
 have noD:¬ aj σ ρ1 D:=st1.cC hD
 refine ⟨fun i m σ' H'=>∃ (H0c:Hp) (ρc:Dm.Env) (ps:List Addr),au H0c H' σ' ρc∧ak H00 H0c∧m=ds.length-i∧i≤ds.length∧Dm.nMk bd (ds.drop i) ρc=some ρ2 ∧
  H' D=some (.lst (ps.map V.ref))∧ps.length=i∧H0c D=none∧(D::ps).Nodup∧(∀ p∈ps,Hb p=none∧H0c p=none)∧aW H0c H' ps (List.replicate i [])∧Stp (aj σ ρ1) H00 Hb H0c H'∧(∀ j,j<σ.length→σ'[j]?=σ[j]?)∧(∀ a,aj σ' ρc a→aj σ ρ1 a),
  ⟨ds.length,H00,ρ1++List.replicate own .un,[],(st1.aside (st1.same.free hD) noD).ext own,ak.refl _,by simp,Nat.zero_le _,by simpa using e2,aq,rfl,st1.same.free hD,by simp,by simp,trivial,(Stp.refl _ _ _).aside hD,
   fun j hj=>List.getElem?_append_left hj,fun a z=>kK st1 z⟩,?_⟩
 rintro i m σ' H' ⟨H0c,ρc,ps,sc,s00,rfl,hi,ec,hDl,hpl,n0,nd,hps,hro,sp,hσ,ho⟩
 have nOc:¬ aj σ' ρc D:=fun z=>noD (ho D z)
 have nOp:∀ p∈ps,¬ aj σ' ρc p:=fun p hp z=>st1.cC (hps p hp).1 (ho p z)
 obtain ⟨js,jg⟩:=jw H0c H' s00 sc.same
 by_cases hlt:i<ds.length
 ·have hd:ds[i]?=some ds[i]:=by simp [hlt]
  obtain ⟨g1,g2⟩:=jg i ds[i] hd
  rw [List.drop_eq_getElem_cons hlt] at ec
  unfold Dm.nMk at ec
  refine .inr ⟨g1,fun y H2 yy=>?_⟩
  obtain ⟨H0',gr,rx⟩:=g2 y H2 yy
  split at ec
  ·cases ec
  rename_i ρ3 e3
  have t2:=ESt.grow sc gr
  obtain ⟨hD2,n02,no2⟩:=t2.dW hDl n0 nOc
  refine hb H0' H2 σ' ρc ρ3 y ds[i] _ t2.st rx e3 fun σ3 st3 o3 k3 d3 _=>?_
  unfold DK
  dsimp only
  rw [if_pos rfl]
  refine ⟨Nat.zero_le _,fun p hp=>?_⟩
  have hpD:p≠D:=fun z=>by rw [z,hD2] at hp;cases hp
  have noP:¬ aj σ3 ρ3 p:=st3.cC hp
  have LM:∀ q∈ps,q≠p:=fun q hq z=>by
   obtain ⟨o,h1⟩:=hro.some q hq
   have:=gr.s1 q o h1
   rw [z,hp] at this;cases this
  refine ⟨ps.map V.ref,by rw [ao (Ne.symm hpD)];exact hD2,?_,ds.length-(i+1),by omega,H0',ρ3,ps++[p],?_,s00.trans gr.s0,rfl,hlt,ec,?_,by simp [hpl],n02,?_,?_,?_,?_,?_,?_⟩
  ·rw [List.length_map,hpl]
   unfold Dm.SZ at hsz
   exact Nat.lt_of_lt_of_le (Nat.lt_of_lt_of_le hlt hsz) (by decide)
  ·have no3:¬ aj σ3 ρ3 D:=fun z=>no2 (o3 D z)
   exact (st3.aside (st3.same.free hp) noP).aside n02 no3
  ·rw [aq,List.map_append];rfl
  ·rw [← List.cons_append]
   refine List.nodup_append.mpr ⟨nd,by simp,fun a ha b hb=>?_⟩
   rw [List.mem_singleton.mp hb]
   rcases List.mem_cons.mp ha with rfl | ha
   ·exact Ne.symm hpD
   ·exact LM a ha
  ·intro q hq
   rcases List.mem_append.mp hq with hq | hq
   ·refine ⟨(hps q hq).1,?_⟩
    obtain ⟨o,h1⟩:=hro.some q hq
    exact (t2.dW h1 (hps q hq).2 (nOp q hq)).2.1
   ·rw [List.mem_singleton.mp hq]
    exact ⟨(sp.trans t2.stp fun a z=>.inl (ho a z)).gone hp,st3.same.free hp⟩
  ·have base:aW H0' (upd (upd H2 p (.lst [])) D (.lst (ps.map V.ref++[V.ref p]))) ps (List.replicate i []):=hro.mono gr.s0 fun q hq=>by
    have hqD:q≠D:=fun z=>(List.nodup_cons.mp nd).1 (z▸hq)
    obtain ⟨o,h1⟩:=hro.some q hq
    rw [ao hqD,ao (LM q hq),gr.s1 q o h1,h1]
   have app:∀ {H0 H:Hp} {ps:List Addr} {rs:List (List Dm.Dat)} {p:Addr},aW H0 H ps rs→H p=some (.lst [])→aW H0 H (ps++[p]) (rs++[[]]):=by
    intro H0 H ps rs p h1 h2
    induction ps generalizing rs with
    | nil=>cases rs with
     | nil=>exact ⟨⟨[],h2,.nil⟩,trivial⟩
     | cons _ _=>exact h1.elim
    | cons q ps ih=>cases rs with
     | nil=>exact h1.elim
     | cons r rs=>exact ⟨h1.1,ih h1.2⟩
   have:=app base (p:=p) (by rw [ao hpD,aq])
   rw [List.replicate_succ']
   exact this
  ·exact ((sp.trans t2.stp fun a z=>.inl (ho a z)).aside ((sp.trans t2.stp fun a z=>.inl (ho a z)).gone hp)).aside hD
  ·exact fun j hj=>(k3 j fun z=>Nat.not_lt.mpr (hl j z) hj).trans (hσ j hj)
  ·exact fun a z=>ho a (o3 a z)
 ·have e':i=ds.length:=by omega
  subst e'
  rw [List.drop_length] at ec
  cases ec
  refine .inl ⟨js _ (Nat.le_refl _),k H0c H' ps ?_ sp ?_ hDl n0 nd hps hro⟩
  all_goals
   have hlen:σ.length≤ρ2.length:=by
    rw [← sc.len]
    refine Nat.not_lt.mp fun z=>?_
    have q:=hσ σ'.length z
    rw [List.getElem?_eq_none (Nat.le_refl _),List.getElem?_eq_getElem z] at q
    cases q
   have tk:∀ {j:Nat} {c:Dm.Cell},(ρ2.take ρ1.length)[j]?=some c→j<σ.length∧ρ2[j]?=some c:=fun {j c} h=>by
    have hj:j<ρ1.length:=by
     have:=(List.getElem?_eq_some_iff.mp h).1
     rw [List.length_take] at this
     omega
    rw [List.getElem?_take_of_lt hj] at h
    exact ⟨by rw [st1.len];exact hj,h⟩
  ·refine ⟨sc.same,?_,fun j d h=>?_,fun j d h=>?_,fun j j' d d' a h1 h2 h3 h4=>?_⟩
   ·rw [List.length_take,← st1.len];omega
   ·obtain ⟨hj,h⟩:=tk h
    obtain ⟨v,q,r⟩:=sc.sh j d h
    exact ⟨v,(hσ j hj).symm.trans q,r⟩
   ·obtain ⟨hj,h⟩:=tk h
    obtain ⟨v,q,r⟩:=sc.ow j d h
    exact ⟨v,(hσ j hj).symm.trans q,r⟩
   ·obtain ⟨hj,h1⟩:=tk h1
    obtain ⟨hj',h2⟩:=tk h2
    exact sc.dis j j' d d' a h1 h2 ((hσ j hj).trans h3) ((hσ j' hj').trans h4)
  ·intro a ⟨j,d,h1,h2⟩
   obtain ⟨hj,h1⟩:=tk h1
   exact ho a ⟨j,d,h1,(hσ j hj).trans h2⟩
theorem qe {j own:Nat} {fi:Dm.FI} {bd:Dm.FB} {loop:Dm.FN} {ρ:Dm.Env} {z:Dm.Out} (q:Dm.nu j fi own bd loop ρ=some z):∃ ds ρ1 ρ2 ρ3 r3,j≠0∧fi ρ=some (ds,ρ1)∧ds.length≤Dm.SZ∧Dm.nMk bd ds (ρ1++List.replicate own .un)=some ρ2 ∧
  loop ((ρ2.take ρ1.length).set j .un) (List.replicate ds.length [])=some (ρ3,r3)∧z=.nx (ρ3.set j (.ow (.lst (r3.map .lst)))):=by
 unfold Dm.nu at q
 split at q
 ·cases q
 rename_i hj0
 split at q
 ·cases q
 rename_i ds ρ1 e1
 split at q
 case isFalse=>cases q
 rename_i hsz
 split at q
 ·cases q
 rename_i ρ2 e2
 split at q
 ·cases q
 rename_i ρ3 r3 e3
 cases q
 exact ⟨ds,ρ1,ρ2,ρ3,r3,hj0,e1,hsz,e2,e3,rfl⟩
theorem Eo {s u:Dm.FS} {ρ:Dm.Env} {o:Dm.Out} (hs:∀ z,s ρ=some z→∃ ρ',z=.nx ρ') (e:Dm.aD s u ρ=some o):∃ ρ1,s ρ=some (.nx ρ1)∧u ρ1=some o:=by
 cases q:s ρ with
 | none=>unfold Dm.aD at e;rw [q] at e;cases e
 | some z=>
  obtain ⟨ρ1,rfl⟩:=hs z q
  unfold Dm.aD at e
  rw [q] at e
  exact ⟨ρ1,rfl,e⟩
theorem ID {σ:L2.St} {H:Hp} {D:Ends} {j own:Nat} {fi:Dm.FI} {bd:Dm.FB} {g:TG} {is:List Nat} {loop:Dm.FN} {gs:Dm.FS} (hb:BD is g bd) (hl:∀ i∈is,σ.length≤i) (hj:j<σ.length) (h:tDS (Dm.aD (Dm.nu j fi own bd loop) gs) D σ H) :
  yl (uX (tLC (tDI fi) own g DK (Dr u6)) (jH j)) (yl (tDN j loop) (tDS gs)) D σ H:=by
 obtain ⟨H0,ρ,o,st,e,k⟩:=h
 obtain ⟨ρ9,e9,e⟩:=Eo (fun z q=>by obtain ⟨_,_,_,_,_,_,_,_,_,_,z⟩:=qe q;exact ⟨_,z⟩) e
 obtain ⟨ds,ρ1,ρ2,ρ3,r3,hj0,e1,hsz,e2,e3,z9⟩:=qe e9
 cases z9
 refine ⟨H0,ρ,ds,ρ1,st,e1,fun J H00 Hb t1 jw L hL=>A7 (Q:=fun x H1=>jH j x σ H1 (yl (tDN j loop) (tDS gs) D)) hb hl t1.st jw hsz e2 L hL fun H0' H' ps st' sp' ho' hDl n0 nd hps hro=>?_⟩
 have nL:¬ aj σ ρ1 L:=t1.st.cC hL
 have om:∀ a,aj (σ.set j (some (.ref L))) ((ρ2.take ρ1.length).set j .un) a→aj σ (ρ2.take ρ1.length) a:=fun a ⟨i,d,h1,h2⟩=>by
  rcases aQ h1 with ⟨_,z⟩ | ⟨hij,h1⟩
  ·cases z
  ·rw [List.getElem?_set_ne (Ne.symm hij)] at h2
   exact ⟨i,d,h1,h2⟩
 have st2:au H0' H' (σ.set j (some (.ref L))) ((ρ2.take ρ1.length).set j .un):={
  same:=st'.same
  len:=by rw [List.length_set,List.length_set];exact st'.len
  sh:=fun i d h=>by
   rcases aQ h with ⟨_,z⟩ | ⟨hij,h⟩
   ·cases z
   ·obtain ⟨v,q,r⟩:=st'.sh i d h
    exact ⟨v,by rw [List.getElem?_set_ne (Ne.symm hij)];exact q,r⟩
  ow:=fun i d h=>by
   rcases aQ h with ⟨_,z⟩ | ⟨hij,h⟩
   ·cases z
   ·obtain ⟨v,q,r⟩:=st'.ow i d h
    exact ⟨v,by rw [List.getElem?_set_ne (Ne.symm hij)];exact q,r⟩
  dis:=fun i i' d d' a h1 h2 h3 h4=>by
   rcases aQ h1 with ⟨_,z⟩ | ⟨q1,h1⟩
   ·cases z
   rcases aQ h2 with ⟨_,z⟩ | ⟨q2,h2⟩
   ·cases z
   rw [List.getElem?_set_ne (Ne.symm q1)] at h3
   rw [List.getElem?_set_ne (Ne.symm q2)] at h4
   exact st'.dis i i' d d' a h1 h2 h3 h4 }
 have sp:Stp (aj σ ρ) H0 H H0' H':=t1.stp.trans sp' fun a z=>.inl (t1.own a z)
 have n:NS j σ ρ H0 H (σ.set j (some (.ref L))) ((ρ2.take ρ1.length).set j .un) H0' H' (List.replicate ds.length []):=
  ⟨st2,sp,fun a z=>.inl (t1.own a (ho' a (om a z))),List.getElem?_set_ne hj0,L,ps,List.getElem?_set_self hj,t1.stp.gone hL,n0,fun z=>nL (ho' L (om L z)),hDl,nd,fun p hp=>⟨t1.stp.gone (hps p hp).1,(hps p hp).2,fun z=>t1.st.cC (hps p hp).1 (ho' p (om p z))⟩,hro⟩
 refine ⟨σ,ρ,H0,H,H0',_,_,ρ3,r3,n,e3,fun σ4 H4 Hd n4 _=>?_⟩
 obtain ⟨H5,t5⟩:=n4.done
 exact ⟨H5,_,o,t5.st,e,k.pre t5⟩
noncomputable abbrev DN (X:Cx) (j:Nat) (st:Stmt) (f:Dm.FN):Prop:=PS X st (tDN j f)
noncomputable abbrev DNs (X:Cx) (j:Nat) (st:List Stmt) (f:Dm.FN):Prop:=PSs X st (tDN j f)
section
variable {X:Cx} {st:Stmt} {rest:List Stmt} {fs gs:Dm.FN} {e c:Expr} {f:Dm.FE} {pos:Pos} {j:Nat}
theorem LN:DNs X j [] Dm.nNx:=PSs.weak wI fun _ _ _=>LJ
theorem IE (h1:DN X j st fs) (h2:DNs X j rest gs):DNs X j (st::rest) (Dm.yY fs gs):=PSs.weak (fW h1 h2) fun _ _ _=>IA
theorem F0 (h1:DN X j st fs):DNs X j [st] fs:=wJ h1
theorem Nv {t:Dm.FT} {x y:List Stmt} (ht:DT X c t) (ha:DNs X j x fs) (hb:DNs X j y gs):DN X j (.If c x y pos) (Dm.nIf t fs gs):=PS.weak (zG ht ha hb) fun _ _ _=>LK
theorem LO {tg it:Expr} {fi:Dm.FI} {is:List Nat} {bd:Dm.FB} {body:List Stmt} (hp:PassesOwn (model X.prog X.w) X.A X.env X.xe) (hc:X.calm=true) (hi:DI X tg it fi) (hg:TG' X tg is bd) (hb:DNs X j body fs) (hj:decide (j∈is)=false:=by rfl)
  (hs:∀ x,foldedSetIterable it X.env x=pure x:=by intro _;rfl):DN X j (.For tg it body [] pos) (Dm.vC fi bd fs):=by
 obtain ⟨g,h1,h2⟩:=hg.ex
 exact PS.weak (zO hp hc hi h1 hb hs) fun _ _ _=>IB h2 (of_decide_eq_false hj)
theorem F1 {x:Str} {i:Expr} {fi:Dm.FE} {px sp ap cp:Pos} (hi':DE X i fi) (he:DE X e f) (hi:X.N[j]?=some x:=by rfl) (hv:Vis X.env.scope x:=by first | exact Or.inl rfl | exact Or.inr (Or.inl rfl) | exact Or.inr (Or.inr rfl)) (hd:(x == ("__debug__" : Str))=false:=by decide)
  (hcd:(x == ("__classdict__" : Str))=false:=by decide) (hpl:qz i:=by intro _ _;rfl) (hbase:attributeBase (.Subscript (.Name x px) i sp) "append" X.env (eval (.Subscript (.Name x px) i sp) X.env)=eval (.Subscript (.Name x px) i sp) X.env:=by rfl)
  (hfew:((backTo cp (starEach [e] X.env)).all (fun x=>!x.1)&&(backToKw cp (keywordEach [] X.env)).all (fun x=>x.1.isSome)
   && decide ([e].length+([]:List Keyword).length+(if ([]:List Keyword).isEmpty then 0 else 1)<30))=true:=by rfl)
  (hline:(ap.endLine == cp.line)=true:=by rfl) (hs:starEach [e] X.env=(false,eval e X.env)::starEach [] X.env:=by rfl) (hplain:(backTo cp (starEach [] X.env)).any (·.1)=false:=by rfl)
  (hsw:swapsWith (.Call (.Attribute (.Subscript (.Name x px) i sp) "append" ap) [e] [] cp) none pos.line X.env=pure false:=by rfl) :
  DN X j (.Expr (.Call (.Attribute (.Subscript (.Name x px) i sp) "append" ap) [e] [] cp) pos) (Dm.vA fi f):=
 PS.weak (mh (zW PySem.F.plainAttrs_list PySem.F.slot_list_append PySem.F.type_list_append kD (Fx wR (iz hi hv hd hcd) hi' hpl) (aa he af hs) hbase hfew hline hs hplain) hsw) fun _ _ _=>IC
theorem IF (j:Nat) (nm own:List Str) {y:Str} {py spos IG:Pos} {tg iter:Expr} {scope:Scope} {is:List Nat} {bd:Dm.FB} {fi:Dm.FI} {loop:Dm.FN} {gs:Dm.FS} {lst:Stmt} (hN:X.N.Nodup) (hg:TGc X nm scope own tg is bd) (hi:DI X tg iter fi) (hlp:DN X j lst loop) (hre:DSs X rest gs)
  (hc:X.calm=true:=by rfl) (hk:scope.kind=.function:=by rfl) (hS:p7 X.env.scope X.N nm scope=true:=by rfl) (hl:(is.all fun i=>decide (X.N.length≤i))=true:=by rfl) (hj:X.N[j]?=some y:=by rfl) (hy:Loc X.env.scope y:=by first | exact Or.inl rfl | exact Or.inr rfl)
  (hsw:swapsWith (.ListComp (.List [] IG) [⟨tg,iter,[],0⟩] scope pos) (some (.Name y py)) spos.line X.env=pure true:=by rfl) (hs:∀ y,foldedSetIterable iter X.env y=pure y:=by intro _;rfl)
  (hf:X.fn y=true∨X.env.scope.names.lookup y=some .local:=by first | exact .inl rfl | exact .inr rfl | assumption) :
  DSs X (.Assign [.Name y py] (.ListComp (.List [] IG) [⟨tg,iter,[],0⟩] scope pos) spos::lst::rest) (Dm.aD (Dm.nu j fi own.length bd loop) gs):=by
 obtain ⟨g,h1,h2⟩:=hg.ex
 have h:=fW (lz hN hj hy hc (dX.of hS hk) hi h1 (fun cl C s H fp=>wZ) (fun cl C s H fp=>zV (pos:=IG) iA) hsw hs hf) (fW hlp hre)
 intro pins s σ H D I q
 exact h pins s σ H D I (ID h2 (fun i hi=>by rw [I.len];exact xq hl i hi) (by rw [I.len];exact (List.getElem?_eq_some_iff.mp hj).1) q)
end
theorem xE {H0:Hp} (i:Int):∀ {kvs:List (Key×V)} {ks:List Int} {ds:List Dm.Dat},kvs.map (·.1)=ks.map Sum.inl→aC H0 (kvs.map (·.2)) ds →
  (lg kvs (Sum.inl i)).map (·.1)=(Dm.fk ks ds i).map Sum.inl∧aC H0 ((lg kvs (Sum.inl i)).map (·.2)) (Dm.fm ks ds i)
 | [],[],ds,_,r=>by
  cases r
  exact ⟨rfl,.nil⟩
 | [],_::_,_,e,_=>by cases e
 | _::_,[],_,e,_=>by cases e
 | (k,v)::kvs,k'::ks,ds,e,r=>by
  rw [List.map_cons,List.map_cons] at e
  injection e with e1 e2
  cases r with
  | cons h t=>
   obtain ⟨i1,i2⟩:=xE i e2 t
   unfold lg at i1 i2 ⊢
   dsimp only at e1
   subst e1
   by_cases q:k'=i
   ·subst q
    rw [List.filter_cons_of_neg (by simp),Dm.fk,if_pos rfl,Dm.fm,if_pos rfl]
    exact ⟨i1,i2⟩
   ·have q':¬ (Sum.inl k':Key)=Sum.inl i:=qO q
    rw [List.filter_cons_of_pos (by simpa using q'),Dm.fk,if_neg q,Dm.fm,if_neg q]
    exact ⟨by rw [List.map_cons,List.map_cons,i1],by rw [List.map_cons];exact .cons h i2⟩
section
variable {σ:L2.St} {H:Hp} {Q:VK}
theorem II {i:Nat} {f:Dm.FE} (h:tD (Dm.nv i f) σ H Q):Ab (rZ i) (tD f) σ H Q:=by
 obtain ⟨H0,ρ,x,ρ',st,e,k⟩:=h
 unfold Dm.nv at e
 split at e
 case h_2=>cases e
 rename_i ks0 vs0 h0
 split at e
 case h_2=>cases e
 rename_i m ρ1 e1
 split at e
 case h_2=>cases e
 rename_i ks vs h1
 split at e
 case h_2=>cases e
 rename_i d hl
 cases e
 obtain ⟨a0,q0,n0,Ip,y0,_⟩:=st.ow i _ h0
 refine ⟨_,q0,a0,rfl,.inl ⟨Ip,.inl y0⟩,H0,ρ,_,ρ1,st,e1,fun u H1 Hb t1 r1=>?_⟩
 have hu:=Rep.isInt r1
 subst hu
 obtain ⟨a,q,n,w⟩:=t1.st.ow i _ h1
 rw [q0] at q
 cases q
 obtain ⟨kvs,y,ek,rs⟩:=w
 rcases gT m ek rs with ⟨d',v,l1,l2,r⟩ | ⟨l1,_⟩
 ·rw [hl] at l1
  cases l1
  obtain ⟨p1,p2⟩:=xE m ek rs
  have ow:aj σ ρ1 a0:=⟨i,_,h1,q0⟩
  have hil:i<ρ1.length:=(List.getElem?_eq_some_iff.mp h1).1
  refine ⟨kvs,Sum.inl m,v,y,rfl,l2,k v H1 _ ⟨t1.st.write h1 q0 ⟨_,aq,p1,p2⟩,t1.stp.trans (Stp.write ow) fun b z=>.inl (t1.own b z),fun b z=>t1.own b (c_ h1 z),fun j z=>trivial⟩ r⟩
 ·rw [hl] at l1;cases l1
end
theorem vE {X:Cx}:dw X (.type "dict") (fun xs H Q=>∃ a kvs,xs=[.ref a]∧H a=some (.dK kvs)∧∀ p,H p=none→Q (.ref p) (upd H p (.dK kvs))):=by
 intro pins s σ H xs us Q I r h
 obtain ⟨a,kvs,rfl,ha,k⟩:=h
 obtain ⟨u,rfl,rx⟩:=vals1 r
 cases rx
 exact Ae I (.inl ha) fun p s' hp I'=>⟨.ref p,_,I',rfl,k p hp⟩
theorem Ep:CallD (fun xs H Q=>∃ a kvs,xs=[.ref a]∧H a=some (.dK kvs)∧∀ p,H p=none→Q (.ref p) (upd H p (.dK kvs))) Dm.sW:=by
 intro H0 H vs ds z Q s rs e k
 unfold Dm.sW at e
 split at e
 ·cases e
  cases rs with
  | cons r rr=>
   cases rr
   obtain ⟨a,kvs,rfl,ha,ek,rs⟩:=dY s r
   refine ⟨a,kvs,rfl,ha,fun p hp=>k _ _ _ (aK.mU s hp) ⟨p,rfl,hp,s.free hp,kvs,aq,ek,rs⟩⟩
 ·cases e
theorem ny:∀ (its:List Value) (ns:List Int),its.length=ns.length→(∀ (i:Nat) (v:Value),its[i]?=some v→∃ n,ns[i]?=some n∧∃ t,v=Value.int n t)→IntsAre its ns
 | [],[],_,_=>.nil
 | [],_::_,h,_=>by cases h
 | _::_,[],h,_=>by cases h
 | v::its,n::ns,h,k=>by
  obtain ⟨m,h1,t,h2⟩:=k 0 v rfl
  simp at h1
  subst h1
  subst h2
  exact .cons n t (ny its ns (by simpa using h) fun i v e=>by
   obtain ⟨m,q1,q2⟩:=k (i+1) v (by simpa using e)
   exact ⟨m,by simpa using q1,q2⟩)
theorem xF:∀ {kvs:List (Key×V)} {vs:List (Key×Value)},KV kvs vs→vs.map (·.1)=kvs.map (·.1)
 | _,_,.nil=>rfl
 | _,_,.cons h t=>by rw [List.map_cons,List.map_cons,xF t,h.1]
theorem eL:∀ {its:List Value} {ns:List Int},IntsAre its ns→Vals (ns.map V.int) its
 | _,_,.nil=>.nil
 | _,_,.cons n t h=>.cons ⟨t,rfl⟩ (eL h)
noncomputable def A8:List V→Hp→VK→Prop:=fun xs H Q=>∃ (p:Addr) (kvs:List (Key×V)) (ns:List Int),xs=[.ref p]∧H p=some (.dK kvs)∧kvs.map (·.1)=ns.map Sum.inl∧ns.length≤63 ∧
 ∀ (ms:List Int) (l:Addr),ms.Perm ns→ms.Pairwise (·≤·)→H l=none→Q (.ref l) (upd H l (.lst (ms.map V.int)))
theorem vF {X:Cx} (hc:X.calm=true):dw X (.builtin "sorted") A8:=by
 intro pins s σ H xs us Q I r h
 obtain ⟨p,kvs,ns,rfl,hq,ek,hl,k⟩:=h
 obtain ⟨u,rfl,rx⟩:=vals1 r
 cases rx
 obtain ⟨z,hd,vs,rel,dd⟩:=wV I.hok hq
 obtain ⟨ep,hat⟩:=dd.dictAt
 have hlen:vs.length=ns.length:=by
  rw [← rel.length]
  have:=congrArg List.length ek
  simpa using this
 have hns:vs.length≤sizeLine:=by rw [← rel.length];exact z
 refine Calls.call_function_entry kind_sorted plain_sorted entry_sorted (args_sorted1 _) ?_
 unfold Builtin.«sorted»
 refine wpAny_bind (m:=checkCount "sorted" 1 1 _) (wpAny_pure ?_)
 refine wpAny_bind (PySem.W.kdu_collect (A:=X.A.in1) (PySem.W.kdl_dict (knd:=bh X.prog X.w) (kvs:=vs) (ep:=ep) hd) (I.ok.hd hc) hat hns fun h' tk acc hk hacc=>?_)
 have hsz:acc.toList.length=ns.length:=by rw [Array.length_toList,hacc.1,hlen]
 have hI:IntsAre acc.toList ns:=ny _ _ hsz fun i v e=>by
  obtain ⟨ky,x,h1,h2⟩:=hacc.2 i v (by rw [← Array.getElem?_toList];exact e)
  have hk1:(vs.map (·.1))[i]?=some ky:=by rw [List.getElem?_map,h1];rfl
  rw [xF rel,ek,List.getElem?_map] at hk1
  cases q:ns[i]? with
  | none=>rw [q] at hk1;cases hk1
  | some n=>
   rw [q] at hk1
   cases hk1
   exact ⟨n,rfl,(Value.isInt_shape (k:=n) (v:=v) h2)⟩
 have hn:acc.toList.length≤63:=by rw [hsz];exact hl
 refine wpAny_bind (wpAny_newList ?_ (Nat.le_trans hn (by decide)))
 have hL0:(h'.push (seqObj "list" acc.toList.toArray 0)).get? h'.objs.size=some (seqObj "list" acc.toList.toArray 0):=Heap.get?_push_size _ rfl
 have I1:=I.kept (t':=tk) hk
 refine wpAny_bind (wpAny_holding (wpAny_call_entry (s:={ s with heap:=h'.push (seqObj "list" acc.toList.toArray 0),toks:=tk }) slot_list_sort ⟨_,hL0,rfl⟩ entry_list_sort (list_sort_tree hL0 hI (by omega) fun out ms a1 a2 a3=>⟨_,rfl,?_⟩) (args_list_sort _)))
 obtain ⟨c,hc'⟩:=sortedHeap_at (out:=out) hL0
 have hz2:(ms.map V.int).length≤sizeLine:=by rw [List.length_map,a2.length_eq];exact Nat.le_trans hl (by decide)
 refine wpAny_pure ⟨_,rfl,.ref h'.objs.size,_,I1.laid (t':=tk) (fun b o e=>?_) (Nat.le_refl _) (show aT X.prog X.w _ _ _ (.lst (ms.map V.int)) from ⟨hz2,out.toList,c,eL a1,by simpa using hc'⟩),rfl,k ms _ a2 a3 (I1.hok.fresh (Nat.le_refl _))⟩
 have lt:=Heap.lt_size e
 rw [sortedHeap_old (Nat.ne_of_lt lt) (by rw [size_push'];exact Nat.lt_succ_of_lt lt)]
 exact Heap.get?_push_of_some _ e
theorem A9:CallD A8 Dm.kP:=by
 intro H0 H vs ds z Q s rs e k
 unfold Dm.kP at e
 split at e
 ·rename_i ks vs'
  split at e
  case isFalse=>cases e
  rename_i hl
  cases e
  cases rs with
  | cons r rr=>
   cases rr
   obtain ⟨a,kvs,rfl,ha,ek,rs⟩:=dY s r
   refine ⟨a,kvs,ks,rfl,ha,ek,hl,fun ms l pm so hp=>?_⟩
   have em:ms=Dm.fM (fun a b=>decide (a<b)) ks:=Dm.lE (lt:=fun a b=>decide (a<b)) (fun a b h1 h2=>by simp at h1 h2;omega) (pm.trans (Dm.ff _ ks).symm) (so.imp fun {a b} h=>by simp;omega)
    (Dm.fh (fun a b c h1 h2=>by simp at *;omega) (fun a b h=>by simp at *;omega) ks)
   exact k _ _ _ (aK.mU s hp) ⟨l,rfl,hp,s.free hp,_,aq,by rw [← em];exact p_ ms⟩
 ·cases e
theorem IJ {ρ ρ':Dm.Env} {x:Dm.Val} {d:Dm.Dat} (e:Dm.tkd ρ x=some (d,ρ')):Dm.tk ρ x=some (d,ρ')∨∃ i ks vs,x=.slot i∧ρ[i]?=some (.ow (.dct ks vs))∧d=.dct ks vs∧ρ'=ρ:=by
 cases x with
 | val d'=>exact .inl e
 | new d'=>exact .inl e
 | slot i=>
  unfold Dm.tkd at e
  dsimp only at e
  split at e
  ·rename_i ks vs h
   cases e
   exact .inr ⟨i,ks,vs,rfl,h,rfl,rfl⟩
  ·rename_i d' _ h
   left
   unfold Dm.tk
   dsimp only
   rw [h]
   exact e
  ·rename_i d' h
   left
   unfold Dm.tk
   dsimp only
   rw [h]
   exact e
  ·cases e
theorem A_ {ρ ρ':Dm.Env} {x:Dm.Val} {d:Dm.Dat} {i:Nat} {ks:List Int} {vs:List Dm.Dat} (e:Dm.tkd ρ x=some (d,ρ')) (h:ρ[i]?=some (.ow (.dct ks vs))):ρ'[i]?=some (.ow (.dct ks vs)):=by
 cases x with
 | val d'=>cases e;exact h
 | new d'=>cases e;exact h
 | slot j=>
  unfold Dm.tkd at e
  dsimp only at e
  split at e
  ·cases e;exact h
  ·rename_i d' hn hj
   cases e
   by_cases q:j=i
   ·subst q
    rw [h] at hj
    cases hj
    exact absurd rfl (hn ks vs)
   ·rw [List.getElem?_set_ne q];exact h
  ·cases e;exact h
  ·cases e
theorem qf {i:Nat} {ks:List Int} {vs:List Dm.Dat}:∀ {xs:List Dm.Val} {ρ ρ':Dm.Env} {ds:List Dm.Dat},Dm.vD ρ xs=some (ds,ρ')→ρ[i]?=some (.ow (.dct ks vs))→ρ'[i]?=some (.ow (.dct ks vs))
 | [],_,_,_,e,h=>by cases e;exact h
 | x::xs,ρ,ρ',ds,e,h=>by
  unfold Dm.vD at e
  split at e
  ·cases e
  rename_i d ρ1 e1
  split at e
  ·cases e
  rename_i ds' ρ2 e2
  cases e
  exact qf e2 (A_ e1 h)
noncomputable def Ny (H0:Hp) (σ:L2.St) (ρ:Dm.Env) (v:V) (d:Dm.Dat):Prop:=Rep H0 v d∨∃ (i:Nat) (b:Addr) (ks:List Int) (vs:List Dm.Dat),d=.dct ks vs∧v=.ref b∧ρ[i]?=some (.ow (.dct ks vs))∧σ[i]?=some (some (.ref b))
inductive sY (H0:Hp) (σ:L2.St) (ρ:Dm.Env):List V→List Dm.Dat→Prop
 | nil:sY H0 σ ρ [] []
 | cons {v:V} {d:Dm.Dat} {vs:List V} {ds:List Dm.Dat}:Ny H0 σ ρ v d→sY H0 σ ρ vs ds→sY H0 σ ρ (v::vs) (d::ds)
theorem vG {Hs H0s H0 H:Hp} {σ:L2.St} {ρs:Dm.Env}:∀ {xs:List Dm.Val} {vs:List V} {ρ ρ':Dm.Env} {ds:List Dm.Dat} {H0c:Hp},ESt σ ρs H0s Hs ρ H0c H→ak H0 H0c→dB Hs H0 H σ ρ vs xs→Dm.vD ρ xs=some (ds,ρ') →
  ∃ mV,ESt σ ρs H0s Hs ρ' mV H∧ak H0c mV∧sY mV σ ρ' vs ds
 | [],_,ρ,ρ',ds,H0c,t,b,r,e=>by
  cases r
  cases e
  exact ⟨H0c,t,ak.refl _,.nil⟩
 | x::xs,_,ρ,ρ',ds,H0c,t,b,r,e=>by
  cases r with
  | cons h r=>
   unfold Dm.vD at e
   split at e
   ·cases e
   ·rename_i d ρ1 e1
    split at e
    ·cases e
    ·rename_i ds' ρ2 e2
     cases e
     rcases IJ e1 with e1' | ⟨i,ks,vs,rfl,hi,rfl,rfl⟩
     ·obtain ⟨H1,t1,b1,r1,o1,d1⟩:=take1 t b h e1'
      obtain ⟨H2,t2,b2,r2⟩:=vG t1 (b.trans b1) (r.rho o1 d1) e2
      exact ⟨H2,t2,b1.trans b2,.cons (.inl (r1.mono b2)) r2⟩
     ·obtain ⟨H2,t2,b2,r2⟩:=vG t b r e2
      obtain ⟨q,_⟩:=h
      obtain ⟨a,z,_⟩:=t.st.ow i _ hi
      rw [q] at z
      cases z
      exact ⟨H2,t2,b2,.cons (.inr ⟨i,a,ks,vs,rfl,rfl,qf e2 hi,q⟩) r2⟩
mutual
theorem Rep.noD {H H':Hp} (hk:∀ a o,H a=some o→H' a=some o∨∃ kvs,o=.dK kvs):∀ {v:V} {d:Dm.Dat},Rep H v d→Dm.bQ d=true→Rep H' v d
 | _,_,.non,_=>.non
 | _,_,.bl b,_=>.bl b
 | _,_,.int i,_=>.int i
 | _,_,.str x,_=>.str x
 | _,_,.tup h r,n=>.tup (by
   rcases hk _ _ h with z | ⟨_,z⟩
   ·exact z
   ·cases z) (aC.noD hk r (by unfold Dm.bQ at n;exact n))
 | _,_,.lst h r,n=>.lst (by
   rcases h with h | ⟨o,h⟩
   ·rcases hk _ _ h with z | ⟨_,z⟩
    ·exact .inl z
    ·cases z
   ·rcases hk _ _ h with z | ⟨_,z⟩
    ·exact .inr ⟨o,z⟩
    ·cases z) (aC.noD hk r (by unfold Dm.bQ at n;exact n))
 | _,_,.dct _ _ _,n=>by unfold Dm.bQ at n;cases n
 | _,_,.exc _,n=>by unfold Dm.bQ at n;cases n
 | _,_,.fn a,_=>.fn a
theorem aC.noD {H H':Hp} (hk:∀ a o,H a=some o→H' a=some o∨∃ kvs,o=.dK kvs):∀ {vs:List V} {ds:List Dm.Dat},aC H vs ds→Dm.gp ds=true→aC H' vs ds
 | _,_,.nil,_=>.nil
 | _,_,.cons h r,n=>by
  unfold Dm.gp at n
  rw [Bool.and_eq_true] at n
  exact .cons (Rep.noD hk h n.1) (aC.noD hk r n.2)
end
open Classical in
theorem Ba {σ:L2.St} {H:Hp} {Q:VK} {f:List Dm.Dat→Option Dm.RV} {fs:List Dm.FE} {E:XK} (h:tD (Dm.eFd f fs) σ H Q):pR (spD f) [] E (tDA fs) σ H Q:=by
 obtain ⟨H0,ρ,x,ρ',st,e,k⟩:=h
 unfold Dm.eFd at e
 split at e
 ·cases e
 rename_i xs ρ1 e1
 split at e
 ·cases e
 rename_i ds ρ2 e2
 split at e
 ·cases e
 rename_i z fz
 split at e
 case isFalse=>cases e
 rename_i hno
 injection e with e
 injection e with ea eb
 subst ea
 subst eb
 refine ⟨H0,ρ,xs,ρ1,st,e1,fun vs H1 Hb t1 r1=>?_⟩
 dsimp only
 rw [List.append_nil]
 obtain ⟨H2,t2,b2,r2⟩:=vG t1 (ak.refl _) r1 e2
 let B:Addr→Prop:=fun b=>∃ (i:Nat) (ks:List Int) (vs:List Dm.Dat),ρ2[i]?=some (.ow (.dct ks vs))∧σ[i]?=some (some (.ref b))
 have hB:∀ b,B b→H2 b=none∧∃ kvs,Hb b=some (.dK kvs):=fun b ⟨i,ks,vs,h1,h2⟩=>by
  obtain ⟨a,q,n,kvs,w,_⟩:=t2.st.ow i _ h1
  rw [h2] at q
  cases q
  exact ⟨n,kvs,w⟩
 let H2':Hp:=fun b=>if B b then Hb b else H2 b
 have in':∀ b,B b→H2' b=Hb b:=fun b h=>if_pos h
 have out':∀ b,¬ B b→H2' b=H2 b:=fun b h=>if_neg h
 have s2:ak H2 H2':=fun b o e=>by
  by_cases q:B b
  ·rw [(hB b q).1] at e;cases e
  ·rw [out' b q];exact e
 have s2b:ak H2' Hb:=fun b o e=>by
  by_cases q:B b
  ·rw [in' b q] at e;exact e
  ·rw [out' b q] at e;exact t2.st.same _ _ e
 have rr:∀ {vs:List V} {ds:List Dm.Dat},sY H2 σ ρ2 vs ds→aC H2' vs ds:=fun {vs ds} r=>by
  induction r with
  | nil=>exact .nil
  | cons h _ ih=>
   refine .cons ?_ ih
   rcases h with h | ⟨i,b,ks,vs',rfl,rfl,h1,h2⟩
   ·exact h.mono s2
   ·obtain ⟨a,q,n,kvs,w,ek,rs⟩:=t2.st.ow i _ h1
    rw [h2] at q
    cases q
    exact .dct (by rw [in' _ ⟨i,ks,vs',h1,h2⟩];exact w) ek (rs.mono s2)
 refine ⟨H2',ds,z,s2b,rr r2,fz,fun w H3 Hd g3 r3=>?_⟩
 let H3':Hp:=fun b=>if B b then none else H3 b
 have in3:∀ b,B b→H3' b=none:=fun b h=>if_pos h
 have Bb:∀ b,¬ B b→H3' b=H3 b:=fun b h=>if_neg h
 have gr:aK H2 Hb H3' Hd:=⟨fun b o e=>by
   by_cases q:B b
   ·rw [(hB b q).1] at e;cases e
   ·rw [Bb b q];exact g3.s0 _ _ (s2 _ _ e),g3.s1,fun b o e=>by
   by_cases q:B b
   ·rw [in3 b q] at e;cases e
   ·rw [Bb b q] at e
    rcases g3.s2 b o e with y | y
    ·exact .inl y
    ·rw [out' b q] at y;exact .inr y,fun b o e=>by
   by_cases q:B b
   ·rw [in3 b q] at e;cases e
   ·rw [Bb b q] at e;exact g3.s3 _ _ e⟩
 have hk:∀ a o,H3 a=some o→H3' a=some o∨∃ kvs,o=.dK kvs:=fun a o e=>by
  by_cases q:B a
  ·obtain ⟨_,kvs,y⟩:=hB a q
   have:=g3.s0 a _ ((in' a q).trans y)
   rw [e] at this
   exact .inr ⟨kvs,Option.some.inj this⟩
  ·exact .inl (by rw [Bb a q];exact e)
 have r3':sC Hb H3' Hd w z:=by
  cases z with
  | val d=>exact Rep.noD hk r3 hno
  | new d=>
   obtain ⟨a,ea,n,n0,w'⟩:=r3
   refine ⟨a,ea,n,?_,?_⟩
   ·by_cases q:B a
    ·exact in3 a q
    ·rw [Bb a q];exact n0
   ·cases d with
    | lst ds'=>obtain ⟨ys,y1,y2⟩:=w';exact ⟨ys,y1,aC.noD hk y2 (by have:Dm.bQ (.lst ds')=true:=hno;unfold Dm.bQ at this;exact this)⟩
    | dct ks ds'=>have:Dm.bQ (.dct ks ds')=true:=hno;unfold Dm.bQ at this;cases this
    | _=>exact w'.elim
 exact k w H3' Hd (t2.trans (.grow t2.st gr)) ((r3'.toV t2.st).early fun a n=>t2.stp.gone n)
section
variable {X:Cx} {e b:Expr} {es:List Expr} {fs:List Dm.FE} {fb:Dm.FE} {p pos:Pos}
theorem nA {k:Nat} {F:Addr} {fd:FuncData} {ps:List Str} {g:List Dm.Dat→Option Dm.RV} {x:Str} (G:aR X.prog X.w X.K X.mg X.base CX0 k F fd ps (spD g)) (hr:bB k X.A) (hg:Gl X x) (hm:X.mg x=some (.ref F)) (hk:PySem.W.keepIn X.K (.ref F)=true) (hb:Binds X.K fd ps [])
  (ha:DA X (e::es) fs) (hdb:(x == ("__debug__" : Str))=false:=by decide) (he:starEach (e::es) X.env=(false,eval e X.env)::starEach es X.env:=by rfl) (hpl:(backTo pos (starEach es X.env)).any (·.1)=false:=by rfl) :
  DE X (.Call (.Name x p) (e::es) [] pos) (Dm.eFd g fs):=PE.weak (jK G hr hg hm hk hb .nil (se (X:=X)) ha hdb he hpl) fun _ _ _=>Ba
theorem IK (hg:Gl X "dict") (hm:X.mg "dict" = none) (ha:DA X [e] fs) (he:starEach [e] X.env=[(false,eval e X.env)]:=by rfl) (hpl:(backTo pos (starEach [] X.env)).any (·.1)=false:=by rfl):DE X (.Call (.Name "dict" p) [e] [] pos) (Dm.eB Dm.sW fs):=DY vE Ep (by rfl) hg hm ha (he:=he) (hpl:=hpl)
theorem Er (hc:X.calm=true) (hg:Gl X "sorted") (hm:X.mg "sorted" = none) (ha:DA X [e] fs) (he:starEach [e] X.env=[(false,eval e X.env)]:=by rfl) (hpl:(backTo pos (starEach [] X.env)).any (·.1)=false:=by rfl):DE X (.Call (.Name "sorted" p) [e] [] pos) (Dm.eB Dm.kP fs):=Ay (vF hc) A9 (by rfl) hg hm ha (he:=he) (hpl:=hpl)
theorem Bc (i:Nat) {x:Str} {px apos cpos:Pos} (hb:DE X b fb) (hi:X.N[i]?=some x:=by rfl) (hv:Vis X.env.scope x:=by first | exact Or.inl rfl | exact Or.inr (Or.inl rfl) | exact Or.inr (Or.inr rfl)) (hd:(x == ("__debug__" : Str))=false:=by decide)
  (hcd:(x == ("__classdict__" : Str))=false:=by decide) (m:M1 X (.Name x px) "pop" apos b cpos:=by exact ⟨rfl,rfl,rfl,rfl⟩):DE X (.Call (.Attribute (.Name x px) "pop" apos) [b] [] cpos) (Dm.nv i fb):=PE.weak (Ad (iz hi hv hd hcd) hb m) fun _ _ _=>II
end
section
variable {X:Cx} {a b c e:Expr} {fa fb fc:Dm.FE} {p pos:Pos}
theorem bits_le {i:Int} (h:i.natAbs.log2<1000000):Builtin.Int.intBits i≤2 ^ 20:=by
 have:Builtin.Int.intBits i≤i.natAbs.log2+1:=by
  unfold Builtin.Int.intBits
  first | omega | (split<;>omega) | simp
 omega
noncomputable def F2 (i j:Int):Prop:=i.natAbs.log2<1000000∧j.natAbs.log2<1000000
theorem Es:OpR X (binaryOp .Mult) (rI F2 fun i j=>.int (i*j)):=opI fun _ _ _ _ _ _ _ hc q=>mul_int q (.of_bits (bits_le hc.1) (bits_le hc.2))
theorem Et:OpD (rI F2 fun i j=>.int (i*j)) Dm.jW:=by
 intro H0 H x y dx dy z Q s rx ry e k
 unfold Dm.jW at e
 split at e
 ·split at e
  case isFalse=>cases e
  rename_i hb
  cases e
  cases aA rx
  cases aA ry
  exact ⟨_,_,rfl,rfl,hb,k _ H0 H (aK.refl s) (.int _)⟩
 ·cases e
theorem qV (ha:DE X a fa) (hb:DE X b fb):DE X (.BinOp a .Mult b pos) (Dm.e2 Dm.jW fa fb):=sG Es Et ha hb
end
section
variable {X:Cx} {tg:Expr}
end
theorem qg {Hs H0 H:Hp} {σ:L2.St} {ρ:Dm.Env}:∀ {xs:List Dm.Val} {vs:List V} {ds:List Dm.Dat},dB Hs H0 H σ ρ vs xs→Dm.kQ xs=some ds→aC H0 vs ds
 | [],_,_,.nil,e=>by cases e;exact .nil
 | .val d::xs,_,ds,.cons h r,e=>by
  unfold Dm.kQ at e
  cases q:Dm.kQ xs with
  | none=>rw [q] at e;cases e
  | some es=>rw [q] at e;cases e;exact .cons h (qg r q)
 | .new _::_,_,_,_,e=>by cases e
 | .slot _::_,_,_,_,e=>by cases e
theorem Eu {σ:L2.St} {H:Hp} {Q:VK} {f:List Dm.Dat→Option (Dm.RV×Dm.Dat)} {f0:Dm.FE} {fs:List Dm.FE} {E:XK} (h:tD (Dm.eFn f f0 fs) σ H Q):pR (spM f) [] E (tDA (f0::fs)) σ H Q:=by
 obtain ⟨H0,ρ,x,ρ',st,e,k⟩:=h
 unfold Dm.eFn at e
 split at e
 case h_2=>cases e
 rename_i d xs ρ1 e1
 split at e
 ·cases e
 rename_i ds e2
 split at e
 ·cases e
 rename_i z d' fz
 cases e
 refine ⟨H0,ρ,_,_,st,e1,fun vs H1 Hb t1 r1=>?_⟩
 dsimp only
 rw [List.append_nil]
 cases r1 with
 | cons r0 rr=>
  obtain ⟨a,rfl,n,no,n0,w⟩:=r0
  obtain ⟨oa,ha⟩:=w.some
  refine ⟨H1,a,_,d,ds,z,d',rfl,t1.st.same,n0,w,qg rr e2,fz,fun v H3 Hd s3 ss n3 w3 r3=>?_⟩
  have st3:au H3 Hd σ ρ':=t1.st.off s3.s0 ss no (fun b o y nb=>s3.s1 b o y nb) fun i d4 b y1 y2=>by
   obtain ⟨b',q',nb',w'⟩:=t1.st.ow i d4 y1
   rw [y2] at q'
   cases q'
   cases y:H3 b with
   | none=>rfl
   | some o=>
    obtain ⟨o',z'⟩:=w'.some
    rcases s3.s2 b o y with y3 | y3 | y3
    ·rw [y3] at z';cases z'
    ·rw [nb'] at y3;cases y3
    ·exact absurd ⟨i,d4,y1,y3▸y2⟩ no
  exact k v H3 Hd ⟨st3,t1.stp.trans s3 fun b y=>.inr (by rw [y];exact n),t1.own,t1.dfn⟩ ((r3.toV t1.st).early fun b y=>t1.stp.gone y)
theorem Ew {X:Cx} {e0:Expr} {es:List Expr} {p pos:Pos} {k:Nat} {F:Addr} {fd:FuncData} {ps:List Str} {g:List Dm.Dat→Option (Dm.RV×Dm.Dat)} {x:Str} {f0:Dm.FE} {fs:List Dm.FE} (G:aR X.prog X.w X.K X.mg X.base CX0 k F fd ps (spM g)) (hr:bB k X.A) (hg:Gl X x) (hm:X.mg x=some (.ref F)) (hk:PySem.W.keepIn X.K (.ref F)=true) (hb:Binds X.K fd ps [])
  (ha:DA X (e0::es) (f0::fs)) (hdb:(x == ("__debug__" : Str))=false:=by decide) (he:starEach (e0::es) X.env=(false,eval e0 X.env)::starEach es X.env:=by rfl) (hpl:(backTo pos (starEach es X.env)).any (·.1)=false:=by rfl) :
  DE X (.Call (.Name x p) (e0::es) [] pos) (Dm.eFn g f0 fs):=PE.weak (jK G hr hg hm hk hb .nil (se (X:=X)) ha hdb he hpl) fun _ _ _=>Eu
open PySem
variable {C:List Value→Prop} {us:List Value}
theorem len0 (h:us.length=0) (c:C []):C us:=by rw [List.eq_nil_of_length_eq_zero h];exact c
theorem y9 {n:Nat} {C:List Value→Prop} {us:List Value} (h:us.length=n+1) (c:∀ a us,us.length=n→C (a::us)):C us:=by
 cases us with
 | nil=>cases h
 | cons a us=>exact c a us (by simpa using h)
theorem LP (h:us.length=1) (c:∀ a,C [a]):C us:=y9 h fun a _ h=>len0 h (C:=fun us=>C (a::us)) (c a)
theorem AR (h:us.length=2) (c:∀ a b,C [a,b]):C us:=y9 h fun a _ h=>LP h (C:=fun us=>C (a::us)) (c a)
theorem IL (h:us.length=3) (c:∀ a b d,C [a,b,d]):C us:=y9 h fun a _ h=>AR h (C:=fun us=>C (a::us)) (c a)
theorem Nz (h:us.length=4) (c:∀ a b d e,C [a,b,d,e]):C us:=y9 h fun a _ h=>IL h (C:=fun us=>C (a::us)) (c a)
theorem IM (h:us.length=5) (c:∀ a b d e f,C [a,b,d,e,f]):C us:=y9 h fun a _ h=>Nz h (C:=fun us=>C (a::us)) (c a)
theorem NB (h:us.length=6) (c:∀ a b d e f g,C [a,b,d,e,f,g]):C us:=y9 h fun a _ h=>IM h (C:=fun us=>C (a::us)) (c a)
end Br
namespace L2
open PySem
variable {K:PySem.W.Frag} {x qual:Str} {st:Stmt} {f:Addr} {fd:FuncData} {ps:List Str}
theorem Fun.eK (F:Fun K x qual st f fd) (hp:ps.length=1) (h:∀ (kV doc pm:Value) (an:Option Addr) (cdv ct:Value) (a:Value),bindArgs (PySem.W.fnOf x qual (aL st) (aH st) (ah st) .none kV doc pm an cdv ct) ⟨[a],[]⟩=pure (ps.zip [a])):Binds K fd ps []:=
 F.binds fun kV doc pm an cdv ct us hl=>Br.LP (C:=fun us=>bindArgs (PySem.W.fnOf x qual (aL st) (aH st) (ah st) .none kV doc pm an cdv ct) ⟨us,[]⟩=pure (ps.zip us)) (hl.trans hp) (h kV doc pm an cdv ct)
theorem Fun.cD (F:Fun K x qual st f fd) (hp:ps.length=2) (h:∀ (kV doc pm:Value) (an:Option Addr) (cdv ct:Value) (a b:Value),bindArgs (PySem.W.fnOf x qual (aL st) (aH st) (ah st) .none kV doc pm an cdv ct) ⟨[a,b],[]⟩=pure (ps.zip [a,b])):Binds K fd ps []:=
 F.binds fun kV doc pm an cdv ct us hl=>Br.AR (C:=fun us=>bindArgs (PySem.W.fnOf x qual (aL st) (aH st) (ah st) .none kV doc pm an cdv ct) ⟨us,[]⟩=pure (ps.zip us)) (hl.trans hp) (h kV doc pm an cdv ct)
theorem Fun.gu (F:Fun K x qual st f fd) (hp:ps.length=3) (h:∀ (kV doc pm:Value) (an:Option Addr) (cdv ct:Value) (a b d:Value),bindArgs (PySem.W.fnOf x qual (aL st) (aH st) (ah st) .none kV doc pm an cdv ct) ⟨[a,b,d],[]⟩=pure (ps.zip [a,b,d])):Binds K fd ps []:=
 F.binds fun kV doc pm an cdv ct us hl=>Br.IL (C:=fun us=>bindArgs (PySem.W.fnOf x qual (aL st) (aH st) (ah st) .none kV doc pm an cdv ct) ⟨us,[]⟩=pure (ps.zip us)) (hl.trans hp) (h kV doc pm an cdv ct)
theorem Fun.Bd (F:Fun K x qual st f fd) (hp:ps.length=5) (h:∀ (kV doc pm:Value) (an:Option Addr) (cdv ct:Value) (a b d e g:Value),bindArgs (PySem.W.fnOf x qual (aL st) (aH st) (ah st) .none kV doc pm an cdv ct) ⟨[a,b,d,e,g],[]⟩=pure (ps.zip [a,b,d,e,g])):Binds K fd ps []:=
 F.binds fun kV doc pm an cdv ct us hl=>Br.IM (C:=fun us=>bindArgs (PySem.W.fnOf x qual (aL st) (aH st) (ah st) .none kV doc pm an cdv ct) ⟨us,[]⟩=pure (ps.zip us)) (hl.trans hp) (h kV doc pm an cdv ct)
theorem Fun.IP (F:Fun K x qual st f fd) (hp:ps.length=6) (h:∀ (kV doc pm:Value) (an:Option Addr) (cdv ct:Value) (a b d e g i:Value),bindArgs (PySem.W.fnOf x qual (aL st) (aH st) (ah st) .none kV doc pm an cdv ct) ⟨[a,b,d,e,g,i],[]⟩=pure (ps.zip [a,b,d,e,g,i])):Binds K fd ps []:=
 F.binds fun kV doc pm an cdv ct us hl=>Br.NB (C:=fun us=>bindArgs (PySem.W.fnOf x qual (aL st) (aH st) (ah st) .none kV doc pm an cdv ct) ⟨us,[]⟩=pure (ps.zip us)) (hl.trans hp) (h kV doc pm an cdv ct)
end L2
namespace Dm
end Dm
namespace Br
open PySem L2
section
variable {X:Cx} {e:Expr} {es:List Expr} {fs:List Dm.FE} {p pos:Pos}
end
end Br
namespace Dm
end Dm
namespace Br
open PySem PySem.Spec PyProof.Rows L2
section
variable {X:Cx} {e:Expr} {es:List Expr} {fs:List Dm.FE} {p pos:Pos}
end
section
variable {X:Cx} {e1 e2 e3:Expr} {f1 f2 f3:Dm.FE} {p pos kpos:Pos}
end
end Br
namespace Dm
end Dm
namespace Br
open PySem PySem.Spec PyProof.Rows L2
open Classical in
section
variable {X:Cx} {e:Expr} {es:List Expr} {fs:List Dm.FE} {p pos:Pos}
end
end Br
namespace Dm
end Dm
namespace Br
open PySem PySem.Spec PyProof.Rows L2
section
variable {X:Cx}
end
section
variable {X:Cx} {e:Expr} {fs:List Dm.FE} {p pos:Pos}
end
end Br
namespace Dm
end Dm
namespace Br
open PySem PySem.Spec PyProof.Rows L2
section
variable {X:Cx} {l a b:Expr} {tl:TE} {ta:TA} {fa fb:Dm.FE} {p pos p0 pJ:Pos}
end
end Br
namespace Dm
end Dm
namespace Br
open PySem PySem.Spec PyProof.Rows L2
section
variable {prog:Program} {w:World} {A:Around} {E:Value→Shared→Prop} {s:Shared}
end
section
variable {prog:Program} {w:World} {A:Around} {s:Shared}
end
section
variable {X:Cx}
end
section
variable {X:Cx} {e:Expr} {fs:List Dm.FE} {p pos:Pos} {k:Nat}
end
end Br
namespace Dm
end Dm
namespace Br
open PySem PySem.Spec PyProof.Rows L2
section
variable {X:Cx} {tg c e:Expr} {bd:Dm.FB} {is:List Nat} {t:Dm.FT} {f:Dm.FE} {x:Str} {px rp ip pos:Pos}
end
end Br
namespace Dm
end Dm
namespace Br
open PySem PySem.Spec PyProof.Rows L2
section
variable {X:Cx}
end
section
variable {X:Cx} {e:Expr} {fs:List Dm.FE} {p pos:Pos}
end
end Br
namespace Dm
end Dm
namespace Br
open PySem PySem.Spec PyProof.Rows L2
section
variable {X:Cx} {a b c:Expr} {fa fb fc:Dm.FE} {apos cpos:Pos} {k:Nat}
end
end Br
namespace Dk
open PySem PyProof.Rows
open Sem (wp)
section
variable {prog:Program} {w:World} {A:Around} {E:Value→Shared→Prop} {s:Shared}
end
section
variable {prog:Program} {w:World} {K:Type} [DecidableEq K] {knd:PySem.KeyKind prog w K} {A:Around} {E:Value→Shared→Prop} {s:Shared}
end
end Dk
namespace Dm
end Dm
namespace Br
open PySem PySem.Spec PyProof.Rows L2
section
variable {X:Cx} {e:Expr} {fs:List Dm.FE} {p pos:Pos}
end
end Br
namespace Dm
end Dm
namespace Br
open PySem PySem.Spec PyProof.Rows L2
section
variable {N N':Addr→Prop} {H0 H H0' H':Hp}
end
section
variable {σ:L2.St} {H:Hp} {Q:VK}
end
section
variable {X:Cx} {e:Expr} {es:List Expr} {f:Dm.FE} {pos:Pos}
end
section
variable {D:Ends} {σ:L2.St} {H:Hp}
end
section
variable {X:Cx} {e:Expr} {st:Stmt} {rest:List Stmt} {fs:Dm.FS} {pos:Pos}
end
section
variable {j:Nat} {σs:L2.St} {ρs:Dm.Env} {H0s Hs:Hp} {σ:L2.St} {ρ ρ':Dm.Env} {H0 H H0' H':Hp}
end
section
variable {D:Ends} {σ:L2.St} {H:Hp} {j:Nat}
end
section
variable {X:Cx} {e c:Expr} {rest:List Stmt} {fs gs:Dm.FS} {pos:Pos} {j:Nat}
end
end Br
namespace Dm
end Dm
namespace Br
open PySem PySem.Spec PyProof.Rows L2
section
variable {X:Cx} {e elt iter tg:Expr} {es:List Expr} {fs:List Dm.FE} {fi:Dm.FI} {bd:Dm.FB} {is:List Nat} {scope:Scope} {pos p:Pos}
end
section
variable {j:Nat} {σs:L2.St} {ρs:Dm.Env} {H0s Hs:Hp} {σ:L2.St} {ρ ρ':Dm.Env} {H0 H H0' H':Hp}
end
section
variable {D:Ends} {σ:L2.St} {H:Hp} {j:Nat}
end
section
variable {X:Cx} {st:Stmt} {rest:List Stmt} {e c:Expr} {f:Dm.FE} {pos:Pos} {j:Nat}
end
end Br
namespace Dm
end Dm
namespace Br
open PySem PySem.Spec PyProof.Rows L2
section
variable {σ:L2.St} {H:Hp} {Q:VK}
end
section
variable {D:Ends} {σ:L2.St} {H:Hp} {j:Nat}
end
section
variable {D:Ends} {σ:L2.St} {H:Hp} {j:Nat}
end
section
variable {X:Cx} {e c:Expr} {es:List Expr} {rest:List Stmt} {fs:List Dm.FE} {f:Dm.FE} {pos p:Pos} {j:Nat}
end
section
variable {X:Cx} {e:Expr} {es:List Expr} {fs:List Dm.FE} {pos p:Pos}
end
end Br
namespace Sx
open PySem PySem.SetTable
open PySem PySem.SetTable PySem.W
section
variable {prog:Program} {w:World} {A:Around} {E:Value→Shared→Prop} {s:Shared} {a it:Addr} {es:Array (Int×Value)} {ep i:Nat} {t:SetTable}
end
section
variable {prog:Program} {w:World} {A:Around} {E:Value→Shared→Prop} {s:Shared} {a it:Addr} {es:Array (Int×Value)} {ep i:Nat} {t:SetTable}
end
open PySem PySem.SetTable PySem.W PyProof.Rows
section
variable {prog:Program} {w:World} {A:Around} {E:Value→Shared→Prop} {s:Shared} {a:Addr} {ns:List Int} {k:Int} {tk:Tok}
end
section
variable {prog:Program} {w:World} {A:Around} {E:Value→Shared→Prop} {s:Shared}
set_option maxHeartbeats 3200000 in
end
end Sx
namespace Dm
end Dm
namespace Br
open PySem PySem.Spec PyProof.Rows L2
section
variable {X:Cx} {e:Expr} {f:Dm.FE} {p p0 pos pJ:Pos}
end
section
variable {X:Cx} {pins:List (Addr×Obj)} {σ:L2.St} {H:Hp} {s:Shared} {a:Addr} {kvs:List (Key×V)} {k:Key} {u:Value} {A:Around} {E:Value→Shared→Prop}
end
section
variable {j:Nat} {σs:L2.St} {ρs:Dm.Env} {H0s Hs:Hp} {σ:L2.St} {ρ ρ':Dm.Env} {H0 H H0' H':Hp} {ks:List Int} {rows:List (List Dm.Dat)}
end
section
variable {D:Ends} {σ:L2.St} {H:Hp} {j kx vx:Nat}
end
section
variable {X:Cx} {rest:List Stmt} {j kx vx:Nat} {pos:Pos}
end
section
variable {X:Cx} {tg:Expr} {x:Str} {px ap cp:Pos} {j:Nat}
end
end Br
namespace Sx
open PySem PySem.SetTable
section
variable {prog:Program} {w:World} {A:Around} {E:Value→Shared→Prop} {s:Shared} {ks:List Int} {a:Addr}
end
section
variable {prog:Program} {w:World} {A:Around} {E:Value→Shared→Prop} {s:Shared} {ks:List Int} {a b:Addr} {es:Array (Int×Value)} {ep:Nat} {t:SetTable}
end
section
variable {prog:Program} {w:World} {A:Around} {E:Value→Shared→Prop} {s:Shared} {ks:List Int} {a b:Addr} {P:List (List Int×Addr)}
end
open PySem PySem.SetTable PySem.W PyProof.Rows
section
variable {prog:Program} {w:World} {A:Around} {E:Value→Shared→Prop} {s:Shared}
end
end Sx
namespace Br
open PySem PySem.Spec PyProof.Rows L2
end Br
namespace Dm
end Dm
namespace Br
open PySem PySem.Spec PyProof.Rows L2
section
variable {X:Cx} {e:Expr} {f:Dm.FE} {p p0 pos pJ:Pos}
end
end Br
namespace Dm
end Dm
namespace Br
open PySem PySem.Spec PyProof.Rows L2
section
variable {X:Cx} {pos p2:Pos} {e:Expr} {f:Dm.FE}
end
section
variable {X:Cx} {pos p2:Pos} {e:Expr} {f:Dm.FE}
end
section
variable {X:Cx} {nm:List Str} {elt tg iter:Expr} {ifs:List Expr} {scope:Scope} {pos:Pos} {own:List Str} {wi:TI} {g:TG} {tt:TT} {te:TE}
end
section
variable {X:Cx} {elt:Expr} {ifs:List Expr} {scope:Scope} {pos px py:Pos} {t:Dm.FT} {f:Dm.FE} {x:Str}
end
end Br
namespace Dm
noncomputable def sZ:Dat→Dat→Option RV
 | .tup xs,.tup (y::ys)=>if xs.length+(y::ys).length≤SZ then some (.val (.tup (xs++(y::ys)))) else none
 | _,_=>none
end Dm
namespace Br
open PySem PySem.Spec PyProof.Rows L2
noncomputable def F3:R2:=fun x y H Q=>∃ l b xs zs,x=.ref l∧y=.ref b∧H l=some (.tup xs)∧H b=some (.tup zs)∧zs≠[]∧xs.length+zs.length≤sizeLine∧(xs=[]→Q (.ref b) H)∧(xs≠[]→∀ p,H p=none→Q (.ref p) (upd H p (.tup (xs++zs))))
theorem Ex {X:Cx}:OpR X (binaryOp .Add) F3:=by
 intro pins s σ H x y v u Q I rx ry h
 obtain ⟨l,b,xs,zs,rfl,rfl,hH,hB,n2,hz,q0,q⟩:=h
 cases rx
 cases ry
 obtain ⟨z1,its,r1,⟨⟨cls,dd,data,sl⟩,ho,hc,n,hd⟩⟩:=(show aT X.prog X.w H s.heap l (.tup xs) from I.hok l _ hH)
 obtain ⟨z2,its2,r2,⟨⟨N5,dd2,data2,sl2⟩,ho2,hc2,n',hd2⟩⟩:=(show aT X.prog X.w H s.heap b (.tup zs) from I.hok b _ hB)
 simp only at hc hd hc2 hd2
 subst hc hd hc2 hd2
 have e:its.toArray++its2.toArray=(its++its2).toArray:=by simp
 have hl:=r1.length
 have hl2:=r2.length
 have m2:its2≠[]:=fun y=>n2 (List.length_eq_zero_iff.mp (by rw [hl2,y];rfl))
 by_cases n1:xs=[]
 ·have m1:its=[]:=List.length_eq_zero_iff.mp (by rw [← hl,n1];rfl)
  exact concat_meets ⟨_,ho,rfl⟩ ⟨_,ho2,rfl⟩ noFill_tuple_add seq_tuple_add PySem.F.slot_tuple_add PySem.F.entry_tuple_add (PySem.F.args_tuple_add_2 _ _)
   (tuple_addW0 l b its.toArray its2.toArray n n' dd dd2 sl sl2 (by simp [m1])) ⟨ho,ho2,.ref b,H,I,rfl,q0 n1⟩
 ·have m1:its≠[]:=fun y=>n1 (List.length_eq_zero_iff.mp (by rw [hl,y];rfl))
  refine concat_meets ⟨_,ho,rfl⟩ ⟨_,ho2,rfl⟩ noFill_tuple_add seq_tuple_add PySem.F.slot_tuple_add PySem.F.entry_tuple_add (PySem.F.args_tuple_add_2 _ _)
   (tuple_addW2 l b its.toArray its2.toArray n n' dd dd2 sl sl2 (by simpa using m1) (by simpa using m2) (by rw [List.size_toArray,List.size_toArray];omega)) ⟨ho,ho2,?_⟩
  rw [e]
  refine ⟨.ref _,_,I.laid (t':=s.toks) (fun _ _ q=>Heap.get?_push_of_some _ q) (Nat.le_refl _) (show aT X.prog X.w _ _ _ (.tup (xs++zs)) from ⟨by rw [List.length_append];exact hz,its++its2,r1.append r2,⟨_,Heap.get?_push_size _ rfl,rfl,0,rfl⟩⟩),rfl,q n1 _ I.fresh⟩
theorem Ey:OpD F3 Dm.sZ:=by
 intro H0 H x y dx dy z Q s rx ry e k
 unfold Dm.sZ at e
 split at e
 ·rename_i xs y1 ys
  split at e
  case isFalse=>cases e
  rename_i hz
  cases e
  have r0:Rep H0 y (.tup (y1::ys)):=by
   rcases ry with r | ⟨a,_,w⟩
   ·exact r
   ·exact False.elim w
  obtain ⟨a,us,rfl,qa,ra⟩:=eT s rx
  obtain ⟨b,ws,rfl,qb,rb⟩:=eT s ry
  have la:=ra.length
  have lb:=rb.length
  refine ⟨a,b,us,ws,rfl,rfl,qa,qb,fun q=>(by rw [q] at lb;cases lb),by rw [la,lb];exact jQ hz,fun q=>?_,fun _ p hp=>?_⟩
  ·subst q
   cases ra
   exact k _ _ _ (aK.refl s) r0
  ·have g:=aK.yM (o:=.tup (us++ws)) s hp
   exact k _ _ _ g (.tup aq ((ra.append rb).mono g.s0))
 ·cases e
section
variable {X:Cx} {pos:Pos}
theorem IQ {a b:Expr} {fa fb:Dm.FE} (ha:DE X a fa) (hb:DE X b fb):DE X (.BinOp a .Add b pos) (Dm.e2 Dm.sZ fa fb):=sG Ex Ey ha hb
end
end Br
namespace Dm
end Dm
namespace Br
open PySem PySem.Spec PyProof.Rows L2
section
variable {X:Cx} {e:Expr} {f:Dm.FE}
end
open PySem L2
structure bH (K:PySem.W.Frag) (x:Str) (st:Stmt) (a:Addr) (fd:FuncData):Prop where
 e:PySem.W.nsIn K mainGlobals x=some (some (.ref a))
 F:Fun K x x st a fd
variable {K:PySem.W.Frag} {x:Str} {st:Stmt} {a:Addr} {fd:FuncData} {hp:Heap} {mg:Str→Option Value}
theorem aJ {oc:Value} {od an:Option Addr} {osl:Array (Option Value)} {kV doc pm cdv ct:Value} (e:PySem.W.nsIn K mainGlobals x=some (some (.ref a)))
  (l:K.lookup a=some ⟨oc,od,.func (PySem.W.fnOf x x (aL st) (aH st) (ah st) .none kV doc pm an cdv ct),osl⟩) (c:PySem.W.codeIn K cdv x=true) (k:PySem.W.keepIn K (.ref a)=true) :
  bH K x st a (PySem.W.fnOf x x (aL st) (aH st) (ah st) .none kV doc pm an cdv ct):=⟨e,Hx l c k⟩
theorem mgo {v:Value} (X:K.In hp) (G:hp.Ns mainGlobals mg) (e:PySem.W.nsIn K mainGlobals x=some (some v)):mg x=some v:=PySem.W.mg_of X G e
theorem mno (X:K.In hp) (G:hp.Ns mainGlobals mg) (e:PySem.W.nsIn K mainGlobals x=some none):mg x=none:=PySem.W.mg_none_of X G e
theorem bH.m (h:bH K x st a fd) (X:K.In hp) (G:hp.Ns mainGlobals mg):mg x=some (.ref a):=PySem.W.mg_of X G h.e
theorem bH.NC {y:Str} (h:bH K x st a fd) (hb:∀ (kV doc pm:Value) (an:Option Addr) (cdv ct v:Value),bindArgs (PySem.W.fnOf x x (aL st) (aH st) (ah st) .none kV doc pm an cdv ct) ⟨[v],[]⟩=pure [(y,v)]) (s:Shared) (v:Value):BindsTo s fd ⟨[v],[]⟩ [(y,v)]:=by
 obtain ⟨oc,od,kV,doc,pm,an,cdv,ct,osl,rfl,lk,hcd⟩:=h.F.ex
 exact .of_eq (hb kV doc pm an cdv ct v)
theorem hm {j k:Nat} {A:Around} (r:bB k A) (h:j≤k:=by decide):bB j A:=r.mono h
theorem fsc {N P:List Str} {sc:Scope} (h1:sc.kind=.function) (h2:sc.isCoroutine=false) (h3:sc.isGenerator=false) (h4:N.take P.length=P) (h:N.Nodup∧(∀ x∈P,sc.names.lookup x=some .local∨sc.names.lookup x=some .cell)∧∀ y∈sc.names,y.2≠.free):ay N P sc:=⟨h1,h2,h3,h.1,h4,h.2.1,h.2.2⟩
end Br
namespace Dm
noncomputable def s_ (s:FS) (R:Env→Option Env) (ρ:Env):Option Env:=match s ρ with
 | some (.nx ρ1)=>R ρ1
 | _=>none
noncomputable def sUn (f g:FS):FS:=fun ρ=>match f ρ with
 | some x=>some x
 | none=>g ρ
noncomputable def jX (R:Env→Option Env) (C ie:Nat) (h:FS):FS:=fun ρ=>match R ρ with
 | none=>none
 | some ρ1=>if ie=0 then none else match h (ρ1.set ie (.sh (.exc C))) with
  | some (.nx ρ')=>some (.nx (ρ'.set ie .un))
  | some (.ret r ρ')=>some (.ret r (ρ'.set ie .un))
  | _=>none
noncomputable def pM:List Nat→List Bool→Nat→Option Bool
 | C::cs,b::bs,D=>if D=C then some b else pM cs bs D
 | _,_,_=>none
noncomputable def cL (cs:List Nat) (bs:List Bool):Dat→Option RV
 | .exc C=>(pM cs bs C).bind vB
 | _=>none
end Dm
namespace Br
open PySem PySem.Spec PyProof.Rows L2
section
variable {X:Cx} {C:Addr} {E:L2.St→XK} {R S:Dm.Env→Option Dm.Env} {sts rest:List Stmt} {st:Stmt}
theorem LQ {f g:Dm.FS} (h1:DS X st f) (h2:DS X st g):DS X st (Dm.sUn f g):=fun pins s σ H D I q=>by
 obtain ⟨H0,ρ,o,rs,e,k⟩:=q
 unfold Dm.sUn at e
 split at e
 ·rename_i y hy
  exact h1 pins s σ H D I ⟨H0,ρ,o,rs,hy.trans e,k⟩
 ·exact h2 pins s σ H D I ⟨H0,ρ,o,rs,e,k⟩
noncomputable def tY (C:Addr) (E:L2.St→XK) (R:Dm.Env→Option Dm.Env) (σ:L2.St) (H:Hp):Prop:=∃ H0 ρ ρ',au H0 H σ ρ∧R ρ=some ρ'∧∀ σ' a H0' H',SSt σ ρ H0 H σ' ρ' H0' H'→E σ' (.ref C) (some a) H'
noncomputable abbrev YS (X:Cx) (C:Addr) (E:L2.St→XK) (st:Stmt) (R:Dm.Env→Option Dm.Env):Prop:=PS X st (fun _ σ H=>tY C E R σ H)
noncomputable abbrev YB (X:Cx) (C:Addr) (E:L2.St→XK) (sts:List Stmt) (R:Dm.Env→Option Dm.Env):Prop:=PSs X sts (fun _ σ H=>tY C E R σ H)
theorem tY.x {σ:L2.St} {H:Hp} (h:tY C E R σ H):tX C E R σ H:=by
 obtain ⟨H0,ρ,ρ',st,e,k⟩:=h
 exact ⟨H0,ρ,ρ',st,e,fun a H0' H' t=>k σ a H0' H' t.sst⟩
theorem y_x (h:XS X C E st R):YS X C E st R:=PS.weak h fun _ _ _ q=>q.x
theorem fN (h:YS X C E st R):YB X C E (st::rest) R:=by
 have:=AZ (rest:=rest) h
 exact fun pins s σ H D I q=>this pins s σ H D I q
theorem LR {s:Dm.FS} (h1:DS X st s) (h2:YB X C E rest R):YB X C E (st::rest) (Dm.s_ s R):=PSs.weak (fW h1 h2) fun D σ H q=>by
 obtain ⟨H0,ρ,ρ',rs,e,k⟩:=q
 unfold Dm.s_ at e
 split at e
 case h_2=>cases e
 rename_i ρ1 hs
 exact ⟨H0,ρ,_,rs,hs,fun σ' H0' H' t=>⟨H0',ρ1,ρ',t.st,e,fun σ'' a qJ H'' u=>k σ'' a qJ H'' (t.trans u)⟩⟩
theorem LS {σ:L2.St} {H:Hp} {t:Dm.FT} (h:tY C E (Dm.rIf t R S) σ H):tDT t σ H fun b H1=>if b=true then tY C E R σ H1 else tY C E S σ H1:=by
 obtain ⟨H0,ρ,ρ',rs,e,k⟩:=h
 unfold Dm.rIf at e
 split at e
 ·cases e
 ·rename_i ρ1 ht
  exact ⟨H0,ρ,true,ρ1,rs,ht,fun H0' H' u=>by show (if true=true then _ else _);rw [if_pos rfl];exact ⟨H0',ρ1,ρ',u.st,e,fun σ'' a qJ H'' w=>k σ'' a qJ H'' (u.sst.trans w)⟩⟩
 ·rename_i ρ1 ht
  exact ⟨H0,ρ,false,ρ1,rs,ht,fun H0' H' u=>by show (if false=true then _ else _);rw [if_neg (by decide)];exact ⟨H0',ρ1,ρ',u.st,e,fun σ'' a qJ H'' w=>k σ'' a qJ H'' (u.sst.trans w)⟩⟩
theorem Ez {c:Expr} {a b:List Stmt} {t:Dm.FT} {pos:Pos} (hc:DT X c t) (ha:YB X C E a R) (hb:YB X C E b S):YS X C E (.If c a b pos) (Dm.rIf t R S):=PS.weak (zG hc ha hb) fun _ _ _ q=>LS q
theorem IS:YB X C E sts Dm.rNo:=fun pins s σ H D I h=>by
 obtain ⟨_,_,_,_,e,_⟩:=h
 cases e
end
theorem IT {X:Cx} {body:List Stmt} {h0:ExceptHandler} {hs:List ExceptHandler} {q:Dm.FS} {pos:Pos} (hb:∀ (pn:List (Addr×Obj)) (xe:Value→Shared→Prop),DSs (Cx.in' X pn xe) body q):DS X (.Try body (h0::hs) [] [] pos) q:=by
 intro pins s σ H D I hq
 refine wpAny_Try_except ?_
 refine wpAny_mono (hb pins _ [] s σ H D (A4 I) hq) (fun f s1 z=>?_) fun _ _ z=>z
 cases f with
 | next=>obtain ⟨σ',H',J,k⟩:=z;exact wpAny_execs_nil ⟨σ',H',gW J,k⟩
 | ret v=>obtain ⟨u,σ',H',J,r,k⟩:=z;exact ⟨u,σ',H',gW J,r,k⟩
 | brk=>obtain ⟨σ',H',J,k⟩:=z;exact ⟨σ',H',gW J,k⟩
 | cont=>obtain ⟨σ',H',J,k⟩:=z;exact ⟨σ',H',gW J,k⟩
section
variable {X:Cx} {pins pn:List (Addr×Obj)} {σ:L2.St} {H:Hp} {s:Shared} {xe:Value→Shared→Prop}
theorem Be {x n:Str} {np hpos pos:Pos} {body suite:List Stmt} {b₀:Stmt} {R:Dm.Env→Option Dm.Env} {h:Dm.FS} {C CP:Addr} {ie:Nat}
  (hst:X.stack=X.env::X.outer) (hfr:X.env.frame=some X.env.locals) (hex:X.ex=[]) (hN:X.N.Nodup) (hi:X.N[ie]?=some n) (hk:X.env.kindOf n=some .local) (hg:Gl X x) (hm:X.mg x=some (.ref CP)) (Z:PySem.W.mq X.K C CP)
  (hb:∀ (pn:List (Addr×Obj)) (xe:Value→Shared→Prop) (E:L2.St→XK),sO C (Cx.in' X pn xe) E→YB (Cx.in' X pn xe) C E body R)
  (hh:∀ (A':Around) (xe:Value→Shared→Prop),DSs (Cx.sub' X A' xe) (b₀::suite) h) (hdb:(x == ("__debug__" : Str))=false:=by decide) :
  DS X (.Try body [.ExceptHandler (some (.Name x np)) (some n) (b₀::suite) hpos] [] [] pos) (Dm.jX R C ie h):=by
 intro pins s σ H D I hq
 obtain ⟨H0,ρ,o,st,e,ok⟩:=hq
 unfold Dm.jX at e
 split at e
 ·cases e
 rename_i ρ1 hR
 split at e
 ·cases e
 rename_i h0
 refine wpAny_Try_except ?_
 refine wpAny_mono (hb pins (fun e s₁=>wpAny (model X.prog X.w) X.A (noteFrame e X.env) (fun _ s₂=>wpAny (model X.prog X.w) X.A (setFlight e none) (fun _ s₃=>wpAny (model X.prog X.w) X.A (handleBy e X.env [.ExceptHandler (some (.Name x np)) (some n) (b₀::suite) hpos]) (SP X pins D) X.xe s₃) X.xe s₂) X.xe s₁)
  (fun σ' _ _ H'=>∃ H0',SSt σ ρ H0 H σ' ρ1 H0' H') ?pass [] s σ H DF (A4 I) ⟨H0,ρ,ρ1,st,hR,fun σ' a H0' H' t=>⟨H0',t⟩⟩) ?q fun _ _ z=>z
 case q=>
  intro f s1 z
  cases f with
  | next=>obtain ⟨_,_,_,q⟩:=z;exact False.elim q
  | ret v=>obtain ⟨_,_,_,_,_,q⟩:=z;exact False.elim q
  | brk=>obtain ⟨_,_,_,q⟩:=z;exact False.elim q
  | cont=>obtain ⟨_,_,_,q⟩:=z;exact False.elim q
 case pass=>
  intro NZ σ1 H1 s1 e s' I1 hq
  obtain ⟨ea,a0,B,H',rfl,os,bare,un,hok,fl,hB,H0',t1⟩:=hq
  obtain ⟨hh',g,d,t,os'⟩:=s'
  obtain rfl:os'=s1.os:=os
  have J:Inv X pins σ1 H' ⟨hh',g,d,t,s1.os⟩:=gW (I1.call (h':=hh') (g':=g) (d':=d) (t':=t) (ch:=[]) un hok bare (fun b z=>absurd z (by simp)))
  have J1:Inv X pins σ1 H1 s1:=gW I1
  have IU:∀ b o,X.s₀.heap.get? b=some o→∃ o1,s1.heap.get? b=some o1:=fun b o e=>J1.base.there b o e (by rw [hex];exact fun z=>nomatch z)
  have hB':∀ b o,hh'.get? b=some o→b∉frs X.stack→((X.s₀.heap.get? b).isSome=true∨(H' b).isSome=true∨∃ p∈X.pn++pins,p.1=b)→B.get? b=some o:=fun b o e nb hc=>by
   refine hB b o e ?_ nb
   rcases hc with hc | hc | ⟨p,hp,rfl⟩
   ·obtain ⟨o0,e0⟩:=Option.isSome_iff_exists.mp hc
    obtain ⟨o1,e1⟩:=IU b o0 e0
    exact .inl (by rw [e1];rfl)
   ·exact .inr hc
   ·exact .inl (by rw [(J1.pin p hp).1];rfl)
  have hfs:X.A.frames=some (X.env::X.outer):=by rw [J.ok.frames,hst]
  have fl':Heap.FlyingW B (X.env::X.outer) ea (.ref C) a0 hh':=by rw [← hst];exact fl
  show wpAny (model X.prog X.w) X.A (noteFrame (.ref ea) X.env) _ _ _
  refine wpAny_looks_onW (base:=B) (L:=X.env.locals) hfs hfr fl' fun h4 held sl4=>?_
  refine wpAny_landsW held fun h5 fl5 sl5=>?_
  have J5:Inv X pins σ1 H' ⟨h5,g,d,t,s1.os⟩:=J.fly (t':=t) hex hB' fl5.1 (sl4.trans sl5)
  obtain ⟨oe,vs,he,hc,hd,_⟩:=fl'.first
  have neF:ea∉frs X.stack:=fun z=>by
   rw [hst] at z
   obtain ⟨_,o',ho',hd'⟩:=fl'.2.2.1.mem z
   rw [he] at ho';cases ho'
   exact hd' vs hd
  have noB:B.get? ea=none:=fl'.2.1
  have nH:H' ea=none:=by
   cases q:H' ea with
   | none=>rfl
   | some u=>have:=hB' ea oe he neF (.inr (.inl (by rw [q];rfl)));rw [noB] at this;cases this
  have n0:X.s₀.heap.get? ea=none:=by
   cases q:X.s₀.heap.get? ea with
   | none=>rfl
   | some u=>have:=hB' ea oe he neF (.inl (by rw [q];rfl));rw [noB] at this;cases this
  have nl:ea≠X.env.locals:=fun z=>by
   obtain ⟨m,⟨o,es,ep,ho,hd',_⟩,_⟩:=J.loc
   rw [← z,he] at ho;cases ho
   rw [hd] at hd';cases hd'
  have nc:∀ y c,X.env.cells.lookup y=some c→c≠ea:=fun y c e z=>by
   obtain ⟨v,o,ho,hd'⟩:=J.cell y c e
   rw [z,he] at ho;cases ho
   rw [hd] at hd';cases hd'
  have np:∀ p∈X.pn++pins,p.1≠ea:=fun p hp z=>by
   have:=hB' ea oe he neF (.inr (.inr ⟨p,hp,z⟩));rw [noB] at this;cases this
  have hB5:∀ b o,h5.get? b=some o→b∉frs X.stack→((X.s₀.heap.get? b).isSome=true∨(H' b).isSome=true∨∃ p∈X.pn++pins,p.1=b)→B.get? b=some o:=fun b o e nb hcd=>by
   have:∃ o',hh'.get? b=some o':=by
    rcases hcd with hc | hc | ⟨p,hp,rfl⟩
    ·obtain ⟨o0,e0⟩:=Option.isSome_iff_exists.mp hc
     exact J.base.there b o0 e0 (by rw [hex];exact fun z=>nomatch z)
    ·obtain ⟨u,e0⟩:=Option.isSome_iff_exists.mp hc
     exact (J.hok b u e0).there
    ·exact ⟨_,(J.pin p hp).1⟩
   obtain ⟨o',e'⟩:=this
   have q:=hB' b o' e' nb hcd
   have q2:=fl5.1 b o' q
   rw [e] at q2;cases q2
   exact q
  obtain ⟨oe5,he5,hc5⟩:=fl5.there
  refine wpAny_handleBy_cons (codeAny_handlers_test ?_) (by intro q;cases q)
  refine gS (X:=Cx.sub' X (X.A.mark (some (.ref ea))) X.xe) (xA rfl J5) hg hm ?_ hdb
  refine PySem.W.sQ Z J5.kIn ⟨oe5,he5,hc5⟩ ?_
  refine codeAny_handlers_suite_as ?_
  refine lands_againW fl5 fun h6 fl6 sl6=>?_
  have J6:Inv X pins σ1 H' ⟨h6,g,d,t,s1.os⟩:=J5.fly (t':=t) hex hB5 fl6.1 sl6
  obtain ⟨oe6,he6,hc6⟩:=fl6.there
  have J7:=J6.LC (o:=φX ea C) nH (φX_ok he6 hc6) n0 nl nc np
  refine kC J7 hN hi (.inl hk) (v:=.ref ea) rfl (fun s8 J8 _=>?_) (.inr hk)
  have t12:SSt σ ρ H0 H σ1 ρ1 (upd H0' ea (φX ea C)) (upd H' ea (φX ea C)):=t1.trans (ESt.grow t1.st (aK.yM t1.st.same nH)).sst
  have rep:Rep (upd H0' ea (φX ea C)) (V.ref ea) (.exc C):=.exc aq
  have EA:SSt σ1 ρ1 (upd H0' ea (φX ea C)) (upd H' ea (φX ea C)) (σ1.set ie (some (.ref ea))) (ρ1.set ie (.sh (.exc C))) (upd H0' ea (φX ea C)) (upd H' ea (φX ea C)):=
   ⟨t12.st.qG rep,Stp.refl _ _ _,fun a z=>.inl (dI z),List.getElem?_set_ne h0⟩
  have fin:∀ (oh:Dm.Out),h (ρ1.set ie (.sh (.exc C)))=some oh→(∀ (D':Ends),(∀ σ' H3,(∃ ρ' H03,oh=.nx ρ'∧SSt (σ1.set ie (some (.ref ea))) (ρ1.set ie (.sh (.exc C))) (upd H0' ea (φX ea C)) (upd H' ea (φX ea C)) σ' ρ' H03 H3)→D'.nx σ' H3)→(∀ v H3,(∃ z ρ' σ' H03,oh=.ret z ρ'∧SSt (σ1.set ie (some (.ref ea))) (ρ1.set ie (.sh (.exc C))) (upd H0' ea (φX ea C)) (upd H' ea (φX ea C)) σ' ρ' H03 H3∧Ai (σ1.set ie (some (.ref ea))) (ρ1.set ie (.sh (.exc C))) (upd H' ea (φX ea C)) H03 H3 v z∧∀ d a,z=.new d→v=.ref a→¬ aj σ' ρ' a)→D'.rt v H3)→(∀ ρ',oh≠.bk ρ')→(∀ ρ',oh≠.ct ρ')→mX D' (σ1.set ie (some (.ref ea))) (ρ1.set ie (.sh (.exc C))) (upd H0' ea (φX ea C)) (upd H' ea (φX ea C)) oh):=fun oh _ D' hn hr hb hc=>by
   cases oh with
   | nx ρ'=>exact fun σ' H03 H3 tt=>hn σ' H3 ⟨ρ',H03,rfl,tt⟩
   | bk ρ'=>exact absurd rfl (hb ρ')
   | ct ρ'=>exact absurd rfl (hc ρ')
   | ret z ρ'=>exact fun σ' v H03 H3 tt rr no=>hr v H3 ⟨z,ρ',σ',H03,rfl,tt,rr,no⟩
  cases hoh:h (ρ1.set ie (.sh (.exc C))) with
  | none=>rw [hoh] at e;cases e
  | some oh=>
  rw [hoh] at e
  have nb:∀ ρ',oh≠.bk ρ':=fun ρ' z=>by rw [z] at e;cases e
  have nc':∀ ρ',oh≠.ct ρ':=fun ρ' z=>by rw [z] at e;cases e
  refine wpAny_mono (hh (X.A.mark (some (.ref ea))) _ pins s8 _ _ { nx:=fun σ' H3=>∃ ρ' H03,oh=.nx ρ'∧SSt (σ1.set ie (some (.ref ea))) (ρ1.set ie (.sh (.exc C))) (upd H0' ea (φX ea C)) (upd H' ea (φX ea C)) σ' ρ' H03 H3,rt:=fun v H3=>∃ z ρ' σ' H03,oh=.ret z ρ'∧SSt (σ1.set ie (some (.ref ea))) (ρ1.set ie (.sh (.exc C))) (upd H0' ea (φX ea C)) (upd H' ea (φX ea C)) σ' ρ' H03 H3∧Ai (σ1.set ie (some (.ref ea))) (ρ1.set ie (.sh (.exc C))) (upd H' ea (φX ea C)) H03 H3 v z∧∀ d a,z=.new d→v=.ref a→¬ aj σ' ρ' a,bk:=fun _ _=>False,ct:=fun _ _=>False } (xA rfl J8)
   ⟨_,_,_,EA.st,hoh,fin oh hoh _ (fun _ _ z=>z) (fun _ _ z=>z) nb nc'⟩) (fun f s4 z=>?_) fun _ _ z=>z
  cases f with
  | next=>
   obtain ⟨σ',H3,I4,ρ',H03,rfl,tt⟩:=z
   cases e
   refine name_goes (qc J.ok I4) hN hi hk fun s9 J9=>?_
   exact ⟨σ'.set ie none,H3,J9,ok _ _ _ (t12.trans (EA.trans (tt.trans (SSt.drop tt.st h0))))⟩
  | ret v=>
   obtain ⟨u,σ0,H3,I4,rl,z,ρ',σ',H03,rfl,tt,rr,no⟩:=z
   cases e
   refine name_goes (qc J.ok I4) hN hi hk fun s9 J9=>?_
   refine ⟨u,σ0.set ie none,H3,J9,rl,ok _ _ _ _ (t12.trans (EA.trans (tt.trans (SSt.drop tt.st h0)))) ?_ ?_⟩
   ·cases z with
    | val d=>exact rr
    | new d=>
     obtain ⟨a,ea',n,n0',w⟩:=rr
     refine ⟨a,ea',?_,n0',w⟩
     have tp:=t12.trans EA
     rcases n with n | n
     ·exact .inl (tp.stp.gone n)
     ·exact (tp.own a n).symm
   ·intro d a hz hv ho
    obtain ⟨j,d',h1,h2⟩:=ho
    refine no d a hz hv ?_
    by_cases hj:ie=j
    ·subst hj
     rw [List.getElem?_set] at h1
     simp only [if_true] at h1
     split at h1<;>cases h1
    ·rw [List.getElem?_set_ne hj] at h1 h2
     exact ⟨j,d',h1,h2⟩
  | brk=>obtain ⟨_,_,_,q⟩:=z;exact False.elim q
  | cont=>obtain ⟨_,_,_,q⟩:=z;exact False.elim q
end
section
variable {X:Cx} {C:Addr} {E:L2.St→XK} {k:Nat} {F:Addr} {fd:FuncData} {ps:List Str} {x:Str} {p pos:Pos} {e:Expr} {es:List Expr} {fs:List Dm.FE} {bad:List Dm.Dat→Bool} {c:Int} {tk:Tok}
theorem EB {vs:List V} {H:Hp} {Q:VK} {E:XK} (h:spX C (fun ds=>bad (ds++[.int c])) vs H Q E):spX C bad (vs++[.int c]) H Q E:=by
 obtain ⟨H0,ds,s,r,e,k⟩:=h
 exact ⟨H0,ds++[.int c],s,r.append (.cons (.int _) .nil),e,k⟩
theorem qW (G:aR X.prog X.w X.K X.mg X.base (CXE X.prog X.w C) k F fd ps (spX C bad)) (hr:bB k X.A) (hg:Gl X x) (hm:X.mg x=some (.ref F)) (hk:PySem.W.keepIn X.K (.ref F)=true) (hb:Binds X.K fd ps [.int c tk]) (hx:sO C X E)
  (ha:DA X (e::es) fs) (hdb:(x == ("__debug__" : Str))=false:=by decide) (he:starEach (e::es) X.env=(false,eval e X.env)::starEach es X.env:=by rfl) (hpl:(backTo pos (starEach es X.env)).any (·.1)=false:=by rfl) :
  XE X C E (.Call (.Name x p) (e::es) [] pos) (Dm.cz (fun ds=>bad (ds++[.int c])) fs):=by
 intro pins s σ H Q I h
 refine wpAny_Call_Name_kw (gS I hg hm ?_ hdb)
 refine PySem.W.callWith_K (h₀:=X.base) I.ok.mod.kin hk (thn (ha pos pins s σ H _ I (xy h Q)) fun us s1 ⟨vs,H1,I1,r,q⟩=>⟨I1.kIn,?_⟩) he hpl
 have q':=EB q
 have r':Vals (vs++[V.int c]) (us++[Value.int c tk]):=r.append (.cons (show RelV (V.int c) (Value.int c tk) from ⟨tk,rfl⟩) .nil)
 have hl:(us++[Value.int c tk]).length=ps.length:=by rw [← r'.length];exact G.len _ _ _ _ q'
 refine wpAny_call (codeAny_mono (G.run X.A X.stack s1 H1 ⟨us,[]⟩ (us++[Value.int c tk]) (vs++[V.int c]) Q (E σ) hr I1.Hj (hb s1 us I1.kIn hl) r' q') fun r s' hq=>?_)
 cases r with
 | error e=>exact hx pins σ H1 s1 e s' I1 hq
 | ok fl=>
  cases fl with
  | ret u=>exact I1.after hq
  | next=>exact False.elim hq
  | brk=>exact False.elim hq
  | cont=>exact False.elim hq
end
theorem F4 {C:Addr} {N:List Str} {n m:Nat} {R:Dm.Env→Option Dm.Env} {vs:List V} {H:Hp} {Q:VK} {E:XK} (hm:N.length=n+m) (h:spX C (Dm.fnX n m R) vs H Q E):tY C (fun _=>E) R (start N vs) H:=by
 have hvn:=qQ h
 obtain ⟨H0,ds,s,rs,e,k⟩:=h
 unfold Dm.fnX at e
 rw [Bool.and_eq_true] at e
 obtain ⟨st,no⟩:=A1 hm hvn s rs
 obtain ⟨ρ',hR⟩:=Option.isSome_iff_exists.mp e.2
 exact ⟨H0,_,ρ',st,hR,fun σ' a H0' H' t=>k a H0' H' ⟨t.stp.s0,fun a o e=>t.stp.s1 a o e (no a),fun a o e=>(t.stp.s2 a o e).imp id fun q=>q.elim id fun z=>absurd z (no a),t.st.same⟩⟩
theorem okY {P:Program} {w:World} {K:PySem.W.Frag} {mg:Str→Option Value} {base:Heap} {x qual:Str} {st:Stmt} {f C:Addr} {fd:FuncData} {N ps:List Str} {k n m:Nat} {R:Dm.Env→Option Dm.Env} (F:Fun K x qual st f fd) (S:ay N ps (ah st)) (hn:ps.length=n) (hm:N.length=n+m)
  (hbody:∀ (cdv:Value) (A:Around) (outer:List Env) (s:Shared) (H:Hp) (E:XK),bB k (A.deeper (envOfC qual (ah st) s.heap.objs.size f cdv))→YB (e8 (CXE P w C) P w K mg base N qual (ah st) f cdv A outer s H E) C (fun _=>E) (aH st) R) :
  aR P w K mg base (CXE P w C) (k+1) f fd ps (spX C (Dm.fnX n m R)):=by
 obtain ⟨oc,od,kV,doc,pm,an,cdv,ct,osl,rfl,lk,hcd⟩:=F.ex
 refine wN lk hcd S (fun vs H Q E h=>(qQ h).trans hn.symm) fun A outer s H vs Q E hr hsp=>?_
 exact ⟨_,hbody cdv A outer s H E hr,F4 hm hsp⟩
theorem IV {P:Program} {w:World} {K:PySem.W.Frag} {mg:Str→Option Value} {base:Heap} {x qual:Str} {st:Stmt} {f C:Addr} {fd:FuncData} {N ps:List Str} {k n m:Nat} {R:Dm.Env→Option Dm.Env} (F:yX K x qual st f fd) (S:ay N ps (ah st)) (hn:ps.length=n) (hm:N.length=n+m)
  (hbody:∀ (cdv:Value) (A:Around) (outer:List Env) (s:Shared) (H:Hp) (E:XK),bB k (A.deeper (envOfC qual (ah st) s.heap.objs.size f cdv))→YB (e8 (CXE P w C) P w K mg base N qual (ah st) f cdv A outer s H E) C (fun _=>E) (aH st) R) :
  aR P w K mg base (CXE P w C) (k+1) f fd ps (spX C (Dm.fnX n m R)):=by
 obtain ⟨oc,od,dV,kV,doc,pm,an,cdv,ct,osl,rfl,lk,hcd⟩:=F.ex
 refine wN lk hcd S (fun vs H Q E h=>(qQ h).trans hn.symm) fun A outer s H vs Q E hr hsp=>?_
 exact ⟨_,hbody cdv A outer s H E hr,F4 hm hsp⟩
section
variable {X:Cx} {C:Nat} {b:Bool} {cs:List Nat} {bs:List Bool} {e:Expr} {f:Dm.FE}
theorem dD (h1:DE X e (Dm.e1 (Dm.qP C b) f)) (h2:DE X e (Dm.e1 (Dm.cL cs bs) f)):DE X e (Dm.e1 (Dm.cL (C::cs) (b::bs)) f):=fun pins s σ H Q I q=>by
 obtain ⟨H0,ρ,x,ρ',st,e0,k⟩:=q
 have e:=e0
 unfold Dm.e1 at e
 split at e
 ·cases e
 rename_i x1 ρ1 e1
 split at e
 ·cases e
 rename_i dx p1
 cases dx with
 | exc D=>
  by_cases hD:D=C
  ·refine h1 pins s σ H Q I ⟨H0,ρ,x,ρ',st,?_,k⟩
   unfold Dm.e1
   rw [e1];dsimp only;rw [p1];dsimp only
   rw [← e]
   unfold Dm.qP Dm.cL Dm.pM
   dsimp only
   rw [if_pos hD,if_pos hD]
   rfl
  ·refine h2 pins s σ H Q I ⟨H0,ρ,x,ρ',st,?_,k⟩
   unfold Dm.e1
   rw [e1];dsimp only;rw [p1];dsimp only
   rw [← e]
   unfold Dm.cL
   dsimp only
   rw [Dm.pM.eq_def (C::cs)]
   dsimp only
   rw [if_neg hD]
 | _=>cases e
theorem lI:DE X e (Dm.e1 (Dm.cL [] []) f):=fun pins s σ H Q I q=>by
 obtain ⟨H0,ρ,x,ρ',st,e,k⟩:=q
 unfold Dm.e1 at e
 split at e
 ·cases e
 split at e
 ·cases e
 rename_i dx p1
 cases dx<;>cases e
end
end Br
namespace Dm
noncomputable def We (e:FE) (ρ:Env) (Q:Val→Env→Prop):Prop:=∃ v ρ',e ρ=some (v,ρ')∧Q v ρ'
noncomputable def Wt (t:FT) (ρ:Env) (Q:Bool→Env→Prop):Prop:=∃ v ρ',t ρ=some (v,ρ')∧Q v ρ'
noncomputable def Was (as:List FE) (ρ:Env) (Q:List Val→Env→Prop):Prop:=∃ v ρ',eAs as ρ=some (v,ρ')∧Q v ρ'
noncomputable def Wi (it:FI) (ρ:Env) (Q:List Dat→Env→Prop):Prop:=∃ v ρ',it ρ=some (v,ρ')∧Q v ρ'
noncomputable def KO (N:Env→Prop) (R:RV→Env→Prop) (B C:Env→Prop):Out→Prop
 | .nx ρ=>N ρ
 | .ret r ρ=>R r ρ
 | .bk ρ=>B ρ
 | .ct ρ=>C ρ
noncomputable def Ws (s:FS) (ρ:Env) (N:Env→Prop) (R:RV→Env→Prop) (B C:Env→Prop):Prop:=∃ o,s ρ=some o∧KO N R B C o
noncomputable def Wr (o:Option RV) (P:RV→Prop):Prop:=∃ r,o=some r∧P r
noncomputable def Wif (c:Bool) (X Y:Prop):Prop:=(c=true→X)∧(c=false→Y)
noncomputable def Wg1 (g:Dat→Option RV) (o:Option Dat) (K:RV→Prop):Prop:=∃ d v,o=some d∧g d=some v∧K v
noncomputable def Wg2 (g:Dat→Dat→Option RV) (o p:Option Dat) (K:RV→Prop):Prop:=∃ d e v,o=some d∧p=some e∧g d e=some v∧K v
noncomputable def WB (g:List Dat→Option RV) (o:Option (List Dat)) (K:RV→Prop):Prop:=∃ ds v,o=some ds∧g ds=some v∧K v
noncomputable def WT (o:Option (List Dat×Env)) (K:List Dat→Env→Prop):Prop:=∃ ds ρ,o=some (ds,ρ)∧ds.length≤SZ∧K ds ρ
noncomputable def WF (f:List Dat→Option RV) (ρ:Env) (xs:List Val) (Q:Val→Env→Prop):Prop:=∃ ds v,pks ρ xs=some ds∧f ds=some v∧(if fH v.dat then ∃ ds' ρ2,tks ρ xs=some (ds',ρ2)∧Q v.bG ρ2 else Q v.bG ρ)
noncomputable def Wk (ρ:Env) (x:Val) (K:Dat→Env→Prop):Prop:=∃ d ρ',tk ρ x=some (d,ρ')∧K d ρ'
theorem Wif.t {X Y:Prop} (x:X):Wif true X Y:=⟨fun _=>x,fun h=>by cases h⟩
theorem Wif.f {X Y:Prop} (y:Y):Wif false X Y:=⟨fun h=>(by cases h),fun _=>y⟩
theorem Wif.yes {c:Bool} {X Y:Prop} (h:c=true) (x:X):Wif c X Y:=⟨fun _=>x,fun h'=>by rw [h] at h';cases h'⟩
theorem Wif.no {c:Bool} {X Y:Prop} (h:c=false) (y:Y):Wif c X Y:=⟨fun h'=>(by rw [h] at h';cases h'),fun _=>y⟩
theorem Wif.dec {p:Prop} [Decidable p] {X Y:Prop} (x:p→X) (y:¬ p→Y):Wif (decide p) X Y:=⟨fun h=>x (of_decide_eq_true h),fun h=>y (of_decide_eq_false h)⟩
theorem We.v {i:Nat} {ρ:Env} {d:Dat} {Q:Val→Env→Prop} (h:ρ[i]?=some (.sh d)) (q:Q (.val d) ρ):We (eV i) ρ Q:=⟨_,_,by unfold eV;rw [h],q⟩
theorem We.w {i:Nat} {ρ:Env} {d:Dat} {Q:Val→Env→Prop} (h:ρ[i]?=some (.ow d)) (q:Q (.slot i) ρ):We (eV i) ρ Q:=⟨_,_,by unfold eV;rw [h],q⟩
theorem We.c {d:Dat} {ρ:Env} {Q:Val→Env→Prop} (q:Q (.val d) ρ):We (eC d) ρ Q:=⟨_,_,rfl,q⟩
theorem We.e1 {g:Dat→Option RV} {a:FE} {ρ:Env} {Q:Val→Env→Prop} (h:We a ρ fun x ρ1=>Wg1 g (pk ρ1 x) fun v=>Q v.bG ρ1):We (e1 g a) ρ Q:=by
 obtain ⟨x,ρ1,h1,d,v,h2,h3,q⟩:=h
 exact ⟨_,_,by unfold Dm.e1;rw [h1];dsimp only;rw [h2];dsimp only;rw [h3],q⟩
theorem We.e2 {g:Dat→Dat→Option RV} {a b:FE} {ρ:Env} {Q:Val→Env→Prop} (h:We a ρ fun x ρ1=>We b ρ1 fun y ρ2=>Wg2 g (pk ρ2 x) (pk ρ2 y) fun v=>Q v.bG ρ2):We (e2 g a b) ρ Q:=by
 obtain ⟨x,ρ1,h1,y,ρ2,h2,d,e,v,h3,h4,h5,q⟩:=h
 exact ⟨_,_,by unfold Dm.e2;rw [h1];dsimp only;rw [h2];dsimp only;rw [h3];dsimp only;rw [h4];dsimp only;rw [h5],q⟩
theorem Was.nil {ρ:Env} {Q:List Val→Env→Prop} (q:Q [] ρ):Was [] ρ Q:=⟨_,_,rfl,q⟩
theorem Was.cons {a:FE} {r:List FE} {ρ:Env} {Q:List Val→Env→Prop} (h:We a ρ fun x ρ1=>Was r ρ1 fun xs ρ2=>Q (x::xs) ρ2):Was (a::r) ρ Q:=by
 obtain ⟨x,ρ1,h1,xs,ρ2,h2,q⟩:=h
 exact ⟨_,_,by unfold eAs;rw [h1];dsimp only;rw [h2],q⟩
theorem We.B {g:List Dat→Option RV} {as:List FE} {ρ:Env} {Q:Val→Env→Prop} (h:Was as ρ fun xs ρ1=>WB g (pks ρ1 xs) fun v=>Q v.bG ρ1):We (eB g as) ρ Q:=by
 obtain ⟨x,ρ1,h1,d,v,h2,h3,q⟩:=h
 exact ⟨_,_,by unfold eB;rw [h1];dsimp only;rw [h2];dsimp only;rw [h3],q⟩
theorem We.T {as:List FE} {ρ:Env} {Q:Val→Env→Prop} (h:Was as ρ fun xs ρ1=>WT (tks ρ1 xs) fun ds ρ2=>Q (.val (.tup ds)) ρ2):We (bE as) ρ Q:=by
 obtain ⟨x,ρ1,h1,ds,ρ2,h2,h3,q⟩:=h
 exact ⟨_,_,by unfold bE;rw [h1];dsimp only;rw [h2];dsimp only;rw [if_pos h3],q⟩
theorem We.L {as:List FE} {ρ:Env} {Q:Val→Env→Prop} (h:Was as ρ fun xs ρ1=>WT (tks ρ1 xs) fun ds ρ2=>Q (.new (.lst ds)) ρ2):We (bF as) ρ Q:=by
 obtain ⟨x,ρ1,h1,ds,ρ2,h2,h3,q⟩:=h
 exact ⟨_,_,by unfold bF;rw [h1];dsimp only;rw [h2];dsimp only;rw [if_pos h3],q⟩
theorem WT.mk {ρ:Env} {xs:List Val} {ds:List Dat} {ρ2 ρ3:Env} {K:List Dat→Env→Prop} (k:K ds ρ3) (h:tks ρ xs=some (ds,ρ2)) (hn:ρ2=ρ3) (hl:ds.length≤SZ):WT (tks ρ xs) K:=⟨_,_,hn▸h,hl,k⟩
theorem We.F {f:List Dat→Option RV} {as:List FE} {ρ:Env} {Q:Val→Env→Prop} (h:Was as ρ fun xs ρ1=>WF f ρ1 xs Q):We (eF f as) ρ Q:=by
 obtain ⟨x,ρ1,h1,ds,v,h2,h3,h4⟩:=h
 by_cases hb:fH v.dat=true
 ·rw [if_pos hb] at h4
  obtain ⟨ds',ρ2,h5,q⟩:=h4
  exact ⟨_,_,by unfold eF;rw [h1];dsimp only;rw [h2];dsimp only;rw [h3];dsimp only;rw [if_pos hb,h5],q⟩
 ·rw [if_neg hb] at h4
  exact ⟨_,_,by unfold eF;rw [h1];dsimp only;rw [h2];dsimp only;rw [h3];dsimp only;rw [if_neg hb],h4⟩
theorem WF.box {f:List Dat→Option RV} {ρ ρ2 ρ3:Env} {xs:List Val} {ds ds':List Dat} {v:RV} {Q:Val→Env→Prop} (h2:f ds=some v) (q:Q v.bG ρ3) (h1:pks ρ xs=some ds) (h3:fH v.dat=true) (h4:tks ρ xs=some (ds',ρ2)) (hn:ρ2=ρ3):WF f ρ xs Q:=
 ⟨_,_,h1,h2,by rw [if_pos h3];exact ⟨_,_,h4,hn▸q⟩⟩
theorem WF.val {f:List Dat→Option RV} {ρ:Env} {xs:List Val} {ds:List Dat} {v:RV} {Q:Val→Env→Prop} (h2:f ds=some v) (q:Q v.bG ρ) (h1:pks ρ xs=some ds) (h3:fH v.dat=false):WF f ρ xs Q:=
 ⟨_,_,h1,h2,by rw [if_neg (by rw [h3];decide)];exact q⟩
theorem We.If {t:FT} {a b:FE} {ρ:Env} {Q:Val→Env→Prop} (h:Wt t ρ fun c ρ1=>Wif c (We a ρ1 Q) (We b ρ1 Q)):We (eIf t a b) ρ Q:=by
 obtain ⟨c,ρ1,h1,h2,h3⟩:=h
 cases c with
 | true=>obtain ⟨v,ρ2,h4,q⟩:=h2 rfl;exact ⟨_,_,by unfold eIf;rw [h1];exact h4,q⟩
 | false=>obtain ⟨v,ρ2,h4,q⟩:=h3 rfl;exact ⟨_,_,by unfold eIf;rw [h1];exact h4,q⟩
noncomputable def Wb (v:Val) (K:Bool→Prop):Prop:=∃ c,v=.val (.bl c)∧K c
theorem Wb.mk {c:Bool} {K:Bool→Prop} (k:K c):Wb (.val (.bl c)) K:=⟨c,rfl,k⟩
theorem We.And {a b:FE} {ρ:Env} {Q:Val→Env→Prop} (h:We a ρ fun v ρ1=>Wb v fun c=>Wif c (We b ρ1 Q) (Q (.val (.bl false)) ρ1)):We (jN a b) ρ Q:=by
 obtain ⟨v,ρ1,h1,c,rfl,h2,h3⟩:=h
 cases c with
 | true=>obtain ⟨v,ρ2,h4,q⟩:=h2 rfl;exact ⟨_,_,by unfold jN;rw [h1];exact h4,q⟩
 | false=>exact ⟨_,_,by unfold jN;rw [h1],h3 rfl⟩
theorem We.Or {a b:FE} {ρ:Env} {Q:Val→Env→Prop} (h:We a ρ fun v ρ1=>Wb v fun c=>Wif c (Q (.val (.bl true)) ρ1) (We b ρ1 Q)):We (eOr a b) ρ Q:=by
 obtain ⟨v,ρ1,h1,c,rfl,h2,h3⟩:=h
 cases c with
 | false=>obtain ⟨v,ρ2,h4,q⟩:=h3 rfl;exact ⟨_,_,by unfold eOr;rw [h1];exact h4,q⟩
 | true=>exact ⟨_,_,by unfold eOr;rw [h1],h2 rfl⟩
theorem We.Not {a:FE} {ρ:Env} {Q:Val→Env→Prop} (h:We a ρ fun v ρ1=>Wb v fun c=>Q (.val (.bl (!c))) ρ1):We (yK a) ρ Q:=by
 obtain ⟨v,ρ1,h1,c,rfl,h2⟩:=h
 exact ⟨_,_,by unfold yK;rw [h1],h2⟩
theorem Wt.V {a:FE} {ρ:Env} {Q:Bool→Env→Prop} (h:We a ρ fun v ρ1=>Wb v fun c=>Q c ρ1):Wt (tV a) ρ Q:=by
 obtain ⟨v,ρ1,h1,c,rfl,h2⟩:=h
 exact ⟨_,_,by unfold tV;rw [h1],h2⟩
theorem Wt.Not {t:FT} {ρ:Env} {Q:Bool→Env→Prop} (h:Wt t ρ fun c ρ1=>Q (!c) ρ1):Wt (d8 t) ρ Q:=by
 obtain ⟨v,ρ1,h1,h2⟩:=h
 exact ⟨_,_,by unfold d8;rw [h1],h2⟩
theorem Wt.And {t u:FT} {ρ:Env} {Q:Bool→Env→Prop} (h:Wt t ρ fun c ρ1=>Wif c (Wt u ρ1 Q) (Q false ρ1)):Wt (pC t u) ρ Q:=by
 obtain ⟨c,ρ1,h1,h2,h3⟩:=h
 cases c with
 | true=>obtain ⟨v,ρ2,h4,q⟩:=h2 rfl;exact ⟨_,_,by unfold pC;rw [h1];exact h4,q⟩
 | false=>exact ⟨_,_,by unfold pC;rw [h1],h3 rfl⟩
theorem Wt.Or {t u:FT} {ρ:Env} {Q:Bool→Env→Prop} (h:Wt t ρ fun c ρ1=>Wif c (Q true ρ1) (Wt u ρ1 Q)):Wt (tOr t u) ρ Q:=by
 obtain ⟨c,ρ1,h1,h2,h3⟩:=h
 cases c with
 | false=>obtain ⟨v,ρ2,h4,q⟩:=h3 rfl;exact ⟨_,_,by unfold tOr;rw [h1];exact h4,q⟩
 | true=>exact ⟨_,_,by unfold tOr;rw [h1],h2 rfl⟩
theorem Wt.Tr {a:FE} {ρ:Env} {Q:Bool→Env→Prop} (h:We a ρ fun x ρ1=>∃ d c,pk ρ1 x=some d∧truth d=some c∧Q c ρ1):Wt (tTr a) ρ Q:=by
 obtain ⟨x,ρ1,h1,d,c,h2,h3,q⟩:=h
 exact ⟨_,_,by unfold tTr;rw [h1];dsimp only;rw [h2];dsimp only;rw [h3],q⟩
theorem Wt.T {ρ:Env} {Q:Bool→Env→Prop} (q:Q true ρ):Wt fJ ρ Q:=⟨_,_,rfl,q⟩
theorem Wk.val {ρ:Env} {d:Dat} {K:Dat→Env→Prop} (k:K d ρ):Wk ρ (.val d) K:=⟨_,_,rfl,k⟩
theorem Wk.new {ρ:Env} {d:Dat} {K:Dat→Env→Prop} (k:K d ρ):Wk ρ (.new d) K:=⟨_,_,rfl,k⟩
theorem Wk.slot {ρ ρ':Env} {i:Nat} {d:Dat} {K:Dat→Env→Prop} (k:K d ρ') (h:ρ[i]?=some (.ow d)) (hs:ρ.set i (.sh d)=ρ'):Wk ρ (.slot i) K:=⟨_,_,by unfold tk;dsimp only;rw [h];dsimp only;rw [hs],k⟩
noncomputable def Bf:Dat→Option (List Dat)
 | .lst ds=>some ds
 | .tup ds=>some ds
 | _=>none
theorem Wi.S {a:FE} {ρ:Env} {Q:List Dat→Env→Prop} (h:We a ρ fun x ρ1=>Wk ρ1 x fun d ρ2=>∃ ds,Bf d=some ds∧Q ds ρ2):Wi (iS a) ρ Q:=by
 obtain ⟨x,ρ1,h1,d,ρ2,h2,ds,hd,q⟩:=h
 cases d with
 | lst xs=>cases hd;exact ⟨_,_,by unfold iS;rw [h1];dsimp only;rw [h2],q⟩
 | tup xs=>cases hd;exact ⟨_,_,by unfold iS;rw [h1];dsimp only;rw [h2],q⟩
 | _=>cases hd
noncomputable def dJ (v:Val) (K:Int→Prop):Prop:=∃ i,v=.val (.int i)∧K i
theorem dJ.mk {i:Int} {K:Int→Prop} (k:K i):dJ (.val (.int i)) K:=⟨i,rfl,k⟩
theorem Wi.R1 {a:FE} {ρ:Env} {Q:List Dat→Env→Prop} (h:We a ρ fun v ρ1=>dJ v fun j=>Q (ups 0 j.toNat) ρ1∧j≤BIG∧-BIG≤j):Wi (iR1 a) ρ Q:=by
 obtain ⟨v,ρ1,h1,j,rfl,q,h2⟩:=h
 exact ⟨_,_,by unfold iR1;rw [h1];dsimp only;rw [if_pos h2],q⟩
theorem Wi.R2 {a b:FE} {ρ:Env} {Q:List Dat→Env→Prop} (h:We a ρ fun v ρ1=>dJ v fun i=>We b ρ1 fun w ρ2=>dJ w fun j=>Q (ups i (j-i).toNat) ρ2∧j≤BIG∧-BIG≤j∧i≤BIG∧-BIG≤i):Wi (iR2 a b) ρ Q:=by
 obtain ⟨v,ρ1,h1,i,rfl,w,ρ2,h2,j,rfl,q,h3⟩:=h
 exact ⟨_,_,by unfold iR2;rw [h1];dsimp only;rw [h2];dsimp only;rw [if_pos h3],q⟩
theorem Wi.Rev {a:FE} {ρ:Env} {Q:List Dat→Env→Prop} (h:We a ρ fun x ρ1=>Wk ρ1 x fun d ρ2=>∃ ds,d=.lst ds∧Q ds.reverse ρ2):Wi (yT a) ρ Q:=by
 obtain ⟨x,ρ1,h1,d,ρ2,h2,ds,rfl,q⟩:=h
 exact ⟨_,_,by unfold yT;rw [h1];dsimp only;rw [h2],q⟩
theorem Wi.En {a:FE} {ρ:Env} {Q:List Dat→Env→Prop} (h:We a ρ fun x ρ1=>Wk ρ1 x fun d ρ2=>∃ ds,d=.lst ds∧Q (jV 0 ds) ρ2):Wi (iEn a) ρ Q:=by
 obtain ⟨x,ρ1,h1,d,ρ2,h2,ds,rfl,q⟩:=h
 exact ⟨_,_,by unfold iEn;rw [h1];dsimp only;rw [h2],q⟩
theorem Ws.nx {ρ:Env} {N:Env→Prop} {R:RV→Env→Prop} {B C:Env→Prop} (n:N ρ):Ws sNx ρ N R B C:=⟨_,rfl,n⟩
theorem Ws.seq {s u:FS} {ρ:Env} {N:Env→Prop} {R:RV→Env→Prop} {B C:Env→Prop} (h:Ws s ρ (fun ρ1=>Ws u ρ1 N R B C) R B C):Ws (aD s u) ρ N R B C:=by
 obtain ⟨o,h1,h2⟩:=h
 cases o with
 | nx ρ1=>obtain ⟨o,h3,h4⟩:=h2;exact ⟨o,by unfold aD;rw [h1];exact h3,h4⟩
 | ret r ρ1=>exact ⟨.ret r ρ1,by unfold aD;rw [h1],h2⟩
 | bk ρ1=>exact ⟨.bk ρ1,by unfold aD;rw [h1],h2⟩
 | ct ρ1=>exact ⟨.ct ρ1,by unfold aD;rw [h1],h2⟩
noncomputable def WA (i:Nat) (v:Val) (ρ:Env) (N:Env→Prop):Prop:=match v with
 | .new d=>N (ρ.set i (.ow d))
 | x=>Wk ρ x fun d ρ2=>N (ρ2.set i (.sh d))
theorem Ws.A {i:Nat} {e:FE} {ρ:Env} {N:Env→Prop} {R:RV→Env→Prop} {B C:Env→Prop} (h:We e ρ fun v ρ1=>WA i v ρ1 N) (hi:i≠0):Ws (sA i e) ρ N R B C:=by
 obtain ⟨v,ρ1,h1,h2⟩:=h
 cases v with
 | new d=>exact ⟨.nx _,by unfold sA;rw [if_neg hi,h1],h2⟩
 | val d=>obtain ⟨d',ρ2,h3,h4⟩:=h2;exact ⟨.nx _,by unfold sA;rw [if_neg hi,h1];dsimp only;rw [h3],h4⟩
 | slot j=>obtain ⟨d',ρ2,h3,h4⟩:=h2;exact ⟨.nx _,by unfold sA;rw [if_neg hi,h1];dsimp only;rw [h3],h4⟩
theorem WA.new {i:Nat} {d:Dat} {ρ ρ2:Env} {N:Env→Prop} (n:N ρ2) (hs:ρ.set i (.ow d)=ρ2):WA i (.new d) ρ N:=by unfold WA;dsimp only;rw [hs];exact n
theorem WA.val {i:Nat} {d:Dat} {ρ ρ2:Env} {N:Env→Prop} (n:N ρ2) (hs:ρ.set i (.sh d)=ρ2):WA i (.val d) ρ N:=⟨_,_,rfl,by show N _;rw [hs];exact n⟩
theorem Ws.U {is:List Nat} {e:FE} {ρ:Env} {N:Env→Prop} {R:RV→Env→Prop} {B C:Env→Prop} (h:We e ρ fun x ρ1=>Wk ρ1 x fun d ρ2=>∃ ds ρ3,d=.tup ds∧sets is ds ρ2=some ρ3∧N ρ3):Ws (sU is e) ρ N R B C:=by
 obtain ⟨x,ρ1,h1,d,ρ2,h2,ds,ρ3,rfl,h3,n⟩:=h
 exact ⟨.nx _,by unfold sU;rw [h1];dsimp only;rw [h2];dsimp only;rw [h3],n⟩
theorem Ws.E {e:FE} {ρ:Env} {N:Env→Prop} {R:RV→Env→Prop} {B C:Env→Prop} (h:We e ρ fun _ ρ1=>N ρ1):Ws (sE e) ρ N R B C:=by
 obtain ⟨x,ρ1,h1,n⟩:=h
 exact ⟨.nx _,by unfold sE;rw [h1],n⟩
noncomputable def WR (v:Val) (ρ:Env) (R:RV→Env→Prop):Prop:=match v with
 | .new d=>R (.new d) ρ
 | .val d=>R (.val d) ρ
 | .slot i=>(∃ d,ρ[i]?=some (.ow d)∧R (.new d) (ρ.set i .un))
theorem Ws.R {e:FE} {ρ:Env} {N:Env→Prop} {R:RV→Env→Prop} {B C:Env→Prop} (h:We e ρ fun v ρ1=>WR v ρ1 R):Ws (sR e) ρ N R B C:=by
 obtain ⟨v,ρ1,h1,h2⟩:=h
 cases v with
 | new d=>exact ⟨.ret _ _,by unfold sR;rw [h1],h2⟩
 | val d=>exact ⟨.ret _ _,by unfold sR;rw [h1],h2⟩
 | slot i=>obtain ⟨d,h3,h4⟩:=h2;exact ⟨.ret _ _,by unfold sR;rw [h1];dsimp only;rw [h3],h4⟩
theorem WR.new {d:Dat} {ρ:Env} {R:RV→Env→Prop} (r:R (.new d) ρ):WR (.new d) ρ R:=r
theorem WR.val {d:Dat} {ρ:Env} {R:RV→Env→Prop} (r:R (.val d) ρ):WR (.val d) ρ R:=r
theorem WR.slot {d:Dat} {ρ:Env} {i:Nat} {R:RV→Env→Prop} (r:R (.new d) (ρ.set i .un)) (h:ρ[i]?=some (.ow d)):WR (.slot i) ρ R:=⟨d,h,r⟩
theorem Ws.If {t:FT} {a b:FS} {ρ:Env} {N:Env→Prop} {R:RV→Env→Prop} {B C:Env→Prop} (h:Wt t ρ fun c ρ1=>Wif c (Ws a ρ1 N R B C) (Ws b ρ1 N R B C)):Ws (sIf t a b) ρ N R B C:=by
 obtain ⟨c,ρ1,h1,h2,h3⟩:=h
 cases c with
 | true=>obtain ⟨o,h4,q⟩:=h2 rfl;exact ⟨_,by unfold sIf;rw [h1];exact h4,q⟩
 | false=>obtain ⟨o,h4,q⟩:=h3 rfl;exact ⟨_,by unfold sIf;rw [h1];exact h4,q⟩
theorem Ws.App {i:Nat} {e:FE} {ρ:Env} {N:Env→Prop} {R:RV→Env→Prop} {B C:Env→Prop} {ds0:List Dat} (h:We e ρ fun x ρ1=>Wk ρ1 x fun d ρ2=>∃ ds ρ3,ρ2[i]?=some (.ow (.lst ds))∧ρ2.set i (.ow (.lst (ds++[d])))=ρ3∧N ρ3∧ds.length<SZ) (h0:ρ[i]?=some (.ow (.lst ds0))):Ws (qE i e) ρ N R B C:=by
 obtain ⟨x,ρ1,h1,d,ρ2,h2,ds,ρ3,h3,h5,n,h4⟩:=h
 exact ⟨.nx _,by unfold qE;rw [h0];dsimp only;rw [h1];dsimp only;rw [h2];dsimp only;rw [h3];dsimp only;rw [if_pos h4,h5],n⟩
theorem nB {i:Nat} {d:Dat} {ds:List Dat} {ρ2 ρ3:Env} {N:Env→Prop} (n:N ρ3) (h:ρ2[i]?=some (.ow (.lst ds))) (hs:ρ2.set i (.ow (.lst (ds++[d])))=ρ3) (hl:ds.length<SZ):∃ ds ρ3,ρ2[i]?=some (.ow (.lst ds))∧ρ2.set i (.ow (.lst (ds++[d])))=ρ3∧N ρ3∧ds.length<SZ:=⟨_,_,h,hs,n,hl⟩
theorem Ws.Set {i:Nat} {j e:FE} {ρ:Env} {N:Env→Prop} {R:RV→Env→Prop} {B C:Env→Prop} (h:We e ρ fun x ρ1=>Wk ρ1 x fun d ρ2=>(∃ d0,ρ2[i]?=some (.ow d0))∧We j ρ2 fun y ρ3=>dJ y fun k=>∃ ds m ρ4,ρ3[i]?=some (.ow (.lst ds))∧ixN ds.length k=some m∧ρ3.set i (.ow (.lst (ds.set m d)))=ρ4∧N ρ4):Ws (u_ i j e) ρ N R B C:=by
 obtain ⟨x,ρ1,h1,d,ρ2,h2,⟨d0,h0⟩,y,ρ3,h3,k,rfl,ds,m,ρ4,h4,h5,h6,n⟩:=h
 exact ⟨.nx _,by unfold u_;rw [h1];dsimp only;rw [h2];dsimp only;rw [h0];dsimp only;rw [h3];dsimp only;rw [h4];dsimp only;rw [h5];dsimp only;rw [h6],n⟩
theorem Ws.IW {i:Nat} {j e:FE} {ρ:Env} {N:Env→Prop} {R:RV→Env→Prop} {B C:Env→Prop} (h:We e ρ fun x ρ1=>Wk ρ1 x fun d ρ2=>(∃ d0,ρ2[i]?=some (.ow d0))∧We j ρ2 fun y ρ3=>dJ y fun k=>∃ ks vs ρ4,ρ3[i]?=some (.ow (.dct ks vs))∧ρ3.set i (.ow (.dct (lB ks k) (lC ks vs k d)))=ρ4∧N ρ4∧ks.length<SZ):Ws (nh i j e) ρ N R B C:=by
 obtain ⟨x,ρ1,h1,d,ρ2,h2,⟨d0,h0⟩,y,ρ3,h3,k,rfl,ks,vs,ρ4,h4,h5,n,h6⟩:=h
 exact ⟨.nx _,by unfold nh;rw [h1];dsimp only;rw [h2];dsimp only;rw [h0];dsimp only;rw [h3];dsimp only;rw [h4];dsimp only;rw [if_pos h6,h5],n⟩
theorem qX {i:Nat} {k:Int} {d:Dat} {ks:List Int} {vs:List Dat} {ρ3 ρ4:Env} {N:Env→Prop} (n:N ρ4) (h:ρ3[i]?=some (.ow (.dct ks vs))) (hs:ρ3.set i (.ow (.dct (lB ks k) (lC ks vs k d)))=ρ4) (hl:ks.length<SZ):∃ ks vs ρ4,ρ3[i]?=some (.ow (.dct ks vs))∧ρ3.set i (.ow (.dct (lB ks k) (lC ks vs k d)))=ρ4∧N ρ4∧ks.length<SZ:=⟨_,_,_,h,hs,n,hl⟩
theorem Ws.For {it:FI} {bd:FB} {body:FS} {ρ:Env} {N:Env→Prop} {R:RV→Env→Prop} {B C:Env→Prop} (h:Wi it ρ fun ds ρ1=>Ws (kG bd body ds) ρ1 N R B C):Ws (g8 it bd body) ρ N R B C:=by
 obtain ⟨ds,ρ1,h1,o,h2,h3⟩:=h
 exact ⟨o,by unfold g8;rw [h1];exact h2,h3⟩
theorem Ws.inv {α:Type} (enc:α→Dat) (bd:FB) (body:FS) (xs:List α) (ρ:Env) (N:Env→Prop) (R:RV→Env→Prop) (B C:Env→Prop) (I:List α→List α→Env→Prop)
  (h0:I [] xs ρ) (hs:∀ p x q ρ,xs=p++x::q→I p (x::q) ρ→∃ ρ1,bd (enc x) ρ=some ρ1∧Ws body ρ1 (fun ρ2=>I (p++[x]) q ρ2) R N (fun ρ2=>I (p++[x]) q ρ2)) (he:∀ ρ,I xs [] ρ→N ρ):Ws (kG bd body (xs.map enc)) ρ N R B C:=by
 have go:∀ (q p:List α) (ρ:Env),xs=p++q→I p q ρ→Ws (kG bd body (q.map enc)) ρ N R B C:=fun q=>by
  induction q with
  | nil=>intro p ρ e i;rw [List.append_nil] at e;exact ⟨.nx _,rfl,he ρ (e▸i)⟩
  | cons x q ih=>
   intro p ρ e i
   obtain ⟨ρ1,h1,o,h2,h3⟩:=hs p x q ρ e i
   have e':xs=(p++[x])++q:=by rw [List.append_assoc];exact e
   cases o with
   | nx ρ2=>obtain ⟨o,h4,h5⟩:=ih _ _ e' h3;exact ⟨o,by rw [List.map_cons,kG,h1];dsimp only;rw [h2];exact h4,h5⟩
   | ct ρ2=>obtain ⟨o,h4,h5⟩:=ih _ _ e' h3;exact ⟨o,by rw [List.map_cons,kG,h1];dsimp only;rw [h2];exact h4,h5⟩
   | bk ρ2=>exact ⟨.nx _,by rw [List.map_cons,kG,h1];dsimp only;rw [h2],h3⟩
   | ret r ρ2=>exact ⟨.ret _ _,by rw [List.map_cons,kG,h1];dsimp only;rw [h2],h3⟩
 exact go xs [] ρ rfl h0
theorem Wr.fn {n m:Nat} {body:FS} {ds:List Dat} {ρ:Env} {P:RV→Prop} (b:Ws body ρ (fun _=>P (.val .non)) (fun r _=>P r) (fun _=>False) (fun _=>False)) (hρ:ds.map Cell.sh++List.replicate m .un=ρ) (h:ds.length=n):Wr (fn n m body ds) P:=by
 obtain ⟨o,h1,h2⟩:=b
 cases o with
 | nx ρ1=>exact ⟨_,by unfold Dm.fn;rw [if_pos h,hρ,h1],h2⟩
 | ret r ρ1=>exact ⟨_,by unfold Dm.fn;rw [if_pos h,hρ,h1],h2⟩
 | bk ρ1=>exact h2.elim
 | ct ρ1=>exact h2.elim
theorem Wr.eq {o:Option RV} {r:RV} (h:Wr o fun x=>x=r):o=some r:=by obtain ⟨x,h1,rfl⟩:=h;exact h1
theorem Bg {α:Type} (enc:α→Dat) (p:α→Bool) (v:α→Dat) (bd:FB) (t:FT) (el:FE) (mk:Cell→Env) (hb:∀ d c,bd d (mk c)=some (mk (.sh d))):∀ (xs:List α) (c:Cell) (acc:List Dat),
  (∀ x∈xs,t (mk (.sh (enc x)))=some (p x,mk (.sh (enc x))))→(∀ x∈xs,p x=true→We el (mk (.sh (enc x))) fun w ρ'=>Wk ρ' w fun d ρ''=>d=v x∧ρ''=mk (.sh (enc x))) →
  ∃ c',d9 bd t el (xs.map enc) (mk c) acc=some (acc++(xs.filter p).map v,mk c')
 | [],c,acc,_,_=>⟨c,by simp [d9]⟩
 | x::xs,c,acc,ht,he=>by
  rw [List.map_cons,d9,hb]
  dsimp only
  rw [ht x List.mem_cons_self]
  have ht':=fun y hy=>ht y (List.mem_cons_of_mem _ hy)
  have he':=fun y hy=>he y (List.mem_cons_of_mem _ hy)
  by_cases h:p x=true
  ·obtain ⟨w,ρ',h1,d,ρ'',h2,rfl,rfl⟩:=he x List.mem_cons_self h
   rw [h]
   dsimp only
   rw [h1]
   dsimp only
   rw [h2]
   obtain ⟨c',e⟩:=Bg enc p v bd t el mk hb xs (.sh (enc x)) (acc++[v x]) ht' he'
   exact ⟨c',by dsimp only;rw [e,List.filter_cons_of_pos h];simp⟩
  ·rw [Bool.not_eq_true] at h
   rw [h]
   obtain ⟨c',e⟩:=Bg enc p v bd t el mk hb xs (.sh (enc x)) acc ht' he'
   exact ⟨c',by dsimp only;rw [e,List.filter_cons_of_neg (by rw [h];decide)]⟩
theorem Wt.get {t:FT} {ρ:Env} {c:Bool} (h:Wt t ρ fun c' ρ'=>c'=c∧ρ'=ρ):t ρ=some (c,ρ):=by
 obtain ⟨_,_,h1,rfl,rfl⟩:=h;exact h1
theorem We.Comp {α:Type} (enc:α→Dat) (xs:List α) (p:α→Bool) (v:α→Dat) {it:FI} {k:Nat} {t:FT} {el:FE} {ρ ρ1:Env} {Q:Val→Env→Prop}
  (q:Q (.new (.lst ((xs.filter p).map v))) ρ1) (hit:it ρ=some (xs.map enc,ρ1)) (hk:ρ1.length=k) (hk0:k≠0) (hl:xs.length≤SZ)
  (ht:∀ x∈xs,Wt t (ρ1++[.sh (enc x)]) fun c ρ'=>c=p x∧ρ'=ρ1++[.sh (enc x)])
  (he:∀ x∈xs,p x=true→We el (ρ1++[.sh (enc x)]) fun w ρ'=>Wk ρ' w fun d ρ''=>d=v x∧ρ''=ρ1++[.sh (enc x)]):We (cK it 1 (bN k) t el) ρ Q:=by
 have bd:∀ (d:Dat) (c:Cell),bN k d (ρ1++[c])=some (ρ1++[.sh d]):=fun d c=>by
  unfold bN
  rw [if_neg hk0,List.set_append_right _ _ (by omega)]
  simp [hk]
 obtain ⟨c',e⟩:=Bg enc p v (bN k) t el (fun c=>ρ1++[c]) bd xs .un [] (fun x hx=>Wt.get (ht x hx)) he
 refine ⟨_,_,?_,q⟩
 unfold cK
 rw [hit]
 dsimp only
 rw [if_pos (by rw [List.length_map];exact hl)]
 show (match d9 _ _ _ _ (ρ1++[.un]) [] with | none=>none | some (ys,ρ2)=>some (Val.new (.lst ys),ρ2.take ρ1.length))=_
 rw [e]
 dsimp only
 rw [List.nil_append,List.take_left]
theorem We.F5 {α:Type} (enc:α→Dat) (xs:List α) (p:α→Bool) (v:α→Dat) {i:Nat} {k:Nat} {t:FT} {el:FE} {ρ:Env} {Q:Val→Env→Prop} {d:Dat}
  (q:Q (.new (.lst ((xs.filter p).map v))) ρ) (hi:ρ[i]?=some (.sh d)) (hd:Bf d=some (xs.map enc)) (hk:ρ.length=k) (hk0:k≠0) (hl:xs.length≤SZ)
  (ht:∀ x∈xs,Wt t (ρ++[.sh (enc x)]) fun c ρ'=>c=p x∧ρ'=ρ++[.sh (enc x)])
  (he:∀ x∈xs,p x=true→We el (ρ++[.sh (enc x)]) fun w ρ'=>Wk ρ' w fun d ρ''=>d=v x∧ρ''=ρ++[.sh (enc x)]):We (bZ i 1 (bN k) t el) ρ Q:=by
 have hit:iS (eV i) ρ=some (xs.map enc,ρ):=by
  unfold iS eV
  rw [hi]
  cases d with
  | lst ys=>cases hd;rfl
  | tup ys=>cases hd;rfl
  | _=>cases hd
 obtain ⟨a,ρ',h1,h2⟩:=We.Comp enc xs p v (Q:=Q) q hit hk hk0 hl ht he
 refine ⟨a,ρ',?_,h2⟩
 unfold bZ
 rw [hi]
 exact h1
theorem We.Map {α β:Type} (enc:α→Dat) (xs:List α) (f:α→β) (iJ:β→Dat) {it:FI} {k:Nat} {el:FE} {ρ ρ1:Env} {Q:Val→Env→Prop}
  (q:Q (.new (.lst ((xs.map f).map iJ))) ρ1) (hit:it ρ=some (xs.map enc,ρ1)) (hk:ρ1.length=k) (hk0:k≠0) (hl:xs.length≤SZ)
  (he:∀ x∈xs,We el (ρ1++[.sh (enc x)]) fun w ρ'=>Wk ρ' w fun d ρ''=>d=iJ (f x)∧ρ''=ρ1++[.sh (enc x)]):We (cK it 1 (bN k) fJ el) ρ Q:=
 We.Comp enc xs (fun _=>true) (fun x=>iJ (f x)) (by rw [List.filter_eq_self.mpr (fun _ _=>rfl)];rw [List.map_map] at q;exact q) hit hk hk0 hl (fun _ _=>Wt.T ⟨rfl,rfl⟩) fun x hx _=>he x hx
theorem We.y_ {α β:Type} (enc:α→Dat) (xs:List α) (f:α→β) (iJ:β→Dat) {i:Nat} {k:Nat} {el:FE} {ρ:Env} {Q:Val→Env→Prop} {d:Dat}
  (q:Q (.new (.lst ((xs.map f).map iJ))) ρ) (hi:ρ[i]?=some (.sh d)) (hd:Bf d=some (xs.map enc)) (hk:ρ.length=k) (hk0:k≠0) (hl:xs.length≤SZ)
  (he:∀ x∈xs,We el (ρ++[.sh (enc x)]) fun w ρ'=>Wk ρ' w fun d ρ''=>d=iJ (f x)∧ρ''=ρ++[.sh (enc x)]):We (bZ i 1 (bN k) fJ el) ρ Q:=
 We.F5 enc xs (fun _=>true) (fun x=>iJ (f x)) (by rw [List.filter_eq_self.mpr (fun _ _=>rfl)];rw [List.map_map] at q;exact q) hi hd hk hk0 hl (fun _ _=>Wt.T ⟨rfl,rfl⟩) fun x hx _=>he x hx
theorem We.LU {α β:Type} (enc:α→Dat) (xs:List α) (p:α→Bool) (f:α→β) (iJ:β→Dat) {i:Nat} {k:Nat} {t:FT} {el:FE} {ρ:Env} {Q:Val→Env→Prop} {d:Dat}
  (q:Q (.new (.lst (((xs.filter p).map f).map iJ))) ρ) (hi:ρ[i]?=some (.sh d)) (hd:Bf d=some (xs.map enc)) (hk:ρ.length=k) (hk0:k≠0) (hl:xs.length≤SZ)
  (ht:∀ x∈xs,Wt t (ρ++[.sh (enc x)]) fun c ρ'=>c=p x∧ρ'=ρ++[.sh (enc x)])
  (he:∀ x∈xs,p x=true→We el (ρ++[.sh (enc x)]) fun w ρ'=>Wk ρ' w fun d ρ''=>d=iJ (f x)∧ρ''=ρ++[.sh (enc x)]):We (bZ i 1 (bN k) t el) ρ Q:=
 We.F5 enc xs p (fun x=>iJ (f x)) (by rw [List.map_map] at q;exact q) hi hd hk hk0 hl ht he
theorem xG (i j:Int):gEq (.int i) (.int j)=vB (decide (i=j)):=by
 have:(i == j)=decide (i=j):=by by_cases h:i=j<;>simp [h]
 show vB (i == j)=_
 rw [this]
theorem qY (i j:Int):gNe (.int i) (.int j)=vB (!decide (i=j)):=by
 have:(i == j)=decide (i=j):=by by_cases h:i=j<;>simp [h]
 show vB (!(i == j))=_
 rw [this]
theorem Wg2.eq {i j:Int} {o p:Option Dat} {K:RV→Prop} (k:K (.val (.bl (decide (i=j))))) (ho:o=some (.int i)) (hp:p=some (.int j)):Wg2 gEq o p K:=⟨_,_,_,ho,hp,xG i j,k⟩
theorem Wg2.ne {i j:Int} {o p:Option Dat} {K:RV→Prop} (k:K (.val (.bl (!decide (i=j))))) (ho:o=some (.int i)) (hp:p=some (.int j)):Wg2 gNe o p K:=⟨_,_,_,ho,hp,qY i j,k⟩
theorem Wg2.lt {i j:Int} {o p:Option Dat} {K:RV→Prop} (k:K (.val (.bl (decide (i<j))))) (ho:o=some (.int i)) (hp:p=some (.int j)):Wg2 gLt o p K:=⟨_,_,_,ho,hp,rfl,k⟩
theorem Wg2.le {i j:Int} {o p:Option Dat} {K:RV→Prop} (k:K (.val (.bl (decide (i≤j))))) (ho:o=some (.int i)) (hp:p=some (.int j)):Wg2 gLe o p K:=⟨_,_,_,ho,hp,rfl,k⟩
theorem Wg2.gt {i j:Int} {o p:Option Dat} {K:RV→Prop} (k:K (.val (.bl (decide (j<i))))) (ho:o=some (.int i)) (hp:p=some (.int j)):Wg2 gGt o p K:=⟨_,_,_,ho,hp,rfl,k⟩
theorem Wg2.ge {i j:Int} {o p:Option Dat} {K:RV→Prop} (k:K (.val (.bl (decide (j≤i))))) (ho:o=some (.int i)) (hp:p=some (.int j)):Wg2 gGe o p K:=⟨_,_,_,ho,hp,rfl,k⟩
theorem Wg2.add {i j:Int} {o p:Option Dat} {K:RV→Prop} (k:K (.val (.int (i+j)))) (ho:o=some (.int i)) (hp:p=some (.int j)):Wg2 cZ o p K:=⟨_,_,_,ho,hp,rfl,k⟩
theorem Wg2.EC {xs ys:List Dat} {o p:Option Dat} {K:RV→Prop} (k:K (.new (.lst (xs++ys)))) (ho:o=some (.lst xs)) (hp:p=some (.lst ys)) (h:xs.length+ys.length≤SZ):Wg2 cZ o p K:=⟨_,_,_,ho,hp,by unfold cZ;dsimp only;rw [if_pos h],k⟩
theorem Wg2.sub {i j:Int} {o p:Option Dat} {K:RV→Prop} (k:K (.val (.int (i-j)))) (ho:o=some (.int i)) (hp:p=some (.int j)):Wg2 fR o p K:=⟨_,_,_,ho,hp,rfl,k⟩
theorem Wg2.mul {i j:Int} {o p:Option Dat} {K:RV→Prop} (k:K (.val (.int (i*j)))) (ho:o=some (.int i)) (hp:p=some (.int j)) (h:(-B64<i∧i<B64)∨(-B64<j∧j<B64)):Wg2 iC o p K:=⟨_,_,_,ho,hp,by unfold iC;dsimp only;rw [if_pos h],k⟩
theorem Wg2.div {i j:Int} {o p:Option Dat} {K:RV→Prop} (k:K (.val (.int (i / j)))) (ho:o=some (.int i)) (hp:p=some (.int j)) (h:0<j∧j<iD):Wg2 yL o p K:=⟨_,_,_,ho,hp,by unfold yL;dsimp only;rw [if_pos h],k⟩
theorem Wg2.mod {i j:Int} {o p:Option Dat} {K:RV→Prop} (k:K (.val (.int (i % j)))) (ho:o=some (.int i)) (hp:p=some (.int j)) (h:0<j):Wg2 iE o p K:=⟨_,_,_,ho,hp,by unfold iE;dsimp only;rw [if_pos h],k⟩
theorem Wg2.pow {i j z:Int} {o p:Option Dat} {K:RV→Prop} (k:K (.val (.int z))) (ho:o=some (.int i)) (hp:p=some (.int j)) (h:0≤j∧j≤1000000∧i.natAbs<1000000) (hz:i ^ j.toNat=z):Wg2 fZ o p K:=⟨_,_,_,ho,hp,by unfold fZ;dsimp only;rw [if_pos h,hz],k⟩
theorem Wg2.ix {d e:Dat} {v:Dat} {o p:Option Dat} {K:RV→Prop} (k:K (.val v)) (ho:o=some d) (hp:p=some e) (h:gIx d e=some (.val v)):Wg2 gIx o p K:=⟨_,_,_,ho,hp,h,k⟩
theorem jY {α:Type} (enc:α→Dat) (xs:List α) (i:Int) (h0:0≤i) (h1:i<xs.length):atI (xs.map enc) i=some (enc (xs[i.toNat]'(by omega))):=by
 unfold atI ixN
 rw [List.length_map,if_pos h0,if_pos h1]
 show (xs.map enc)[i.toNat]?=_
 rw [List.getElem?_map,List.getElem?_eq_getElem (by omega)]
 rfl
theorem Wg2.ixL {α:Type} {enc:α→Dat} {xs:List α} {i:Int} {o p:Option Dat} {K:RV→Prop} (h0:0≤i) (h1:i<xs.length) (k:K (.val (enc (xs[i.toNat]'(by omega))))) (ho:o=some (.lst (xs.map enc))) (hp:p=some (.int i)):Wg2 gIx o p K:=
 ⟨_,_,_,ho,hp,by unfold gIx;dsimp only;rw [jY enc xs i h0 h1];rfl,k⟩
theorem ED (i:Int) (xs:List Int):inD (.int i) (xs.map Dat.int)=decide (i∈xs):=by
 induction xs with
 | nil=>rfl
 | cons x xs ih=>
  have ih':(xs.map Dat.int).any (fun y=>eqD y (.int i))=decide (i∈xs):=ih
  unfold inD
  rw [List.map_cons,List.any_cons,ih']
  show ((x == i)||_)=_
  by_cases h:x=i
  ·simp [h]
  ·have h':¬ i=x:=fun z=>h z.symm
   simp [h,h']
theorem IX (xs:List Int):(xs.map Dat.int).all (okD 7)=true:=by
 rw [List.all_eq_true]
 intro d hd
 obtain ⟨x,_,rfl⟩:=List.mem_map.mp hd
 rfl
theorem Wg2.LV {i:Int} {xs:List Int} {o p:Option Dat} {K:RV→Prop} (k:K (.val (.bl (!decide (i∈xs))))) (ho:o=some (.int i)) (hp:p=some (.lst (xs.map Dat.int))):Wg2 kH o p K:=
 ⟨_,_,_,ho,hp,by unfold kH;dsimp only;rw [show okD 8 (.int i)=true from rfl,IX,ED];rfl,k⟩
theorem Wg2.din {i:Int} {ks:List Int} {vs:List Dat} {o p:Option Dat} {K:RV→Prop} (k:K (.val (.bl (bO ks vs i).isSome))) (ho:o=some (.int i)) (hp:p=some (.dct ks vs)):Wg2 yV o p K:=⟨_,_,_,ho,hp,rfl,k⟩
theorem Wg2.LW {i:Int} {ks:List Int} {vs:List Dat} {o p:Option Dat} {K:RV→Prop} (k:K (.val (.bl (!(bO ks vs i).isSome)))) (ho:o=some (.int i)) (hp:p=some (.dct ks vs)):Wg2 sN o p K:=⟨_,_,_,ho,hp,rfl,k⟩
theorem Wg2.dx {i:Int} {ks:List Int} {vs:List Dat} {d:Dat} {o p:Option Dat} {K:RV→Prop} (h:bO ks vs i=some d) (k:K (.val d)) (ho:o=some (.dct ks vs)) (hp:p=some (.int i)):Wg2 gDx o p K:=⟨_,_,_,ho,hp,by unfold gDx;dsimp only;rw [h];rfl,k⟩
theorem WB.len {xs:List Dat} {o:Option (List Dat)} {K:RV→Prop} (k:K (.val (.int xs.length))) (ho:o=some [.lst xs]):WB f9 o K:=⟨_,_,ho,rfl,k⟩
theorem WB.vH {xs:List Dat} {o:Option (List Dat)} {K:RV→Prop} (k:K (.val (.int xs.length))) (ho:o=some [.tup xs]):WB f9 o K:=⟨_,_,ho,rfl,k⟩
theorem WB.min2 {i j:Int} {o:Option (List Dat)} {K:RV→Prop} (k:K (.val (.int (if j<i then j else i)))) (ho:o=some [.int i,.int j]):WB mT o K:=⟨_,_,ho,rfl,k⟩
theorem WB.max2 {i j:Int} {o:Option (List Dat)} {K:RV→Prop} (k:K (.val (.int (if j>i then j else i)))) (ho:o=some [.int i,.int j]):WB pY o K:=⟨_,_,ho,rfl,k⟩
theorem WB.int {b:Bool} {o:Option (List Dat)} {K:RV→Prop} (k:K (.val (.int (b2i b)))) (ho:o=some [.bl b]):WB Af o K:=⟨_,_,ho,rfl,k⟩
theorem Wg1.mk {g:Dat→Option RV} {d:Dat} {v:RV} {o:Option Dat} {K:RV→Prop} (k:K v) (ho:o=some d) (h:g d=some v):Wg1 g o K:=⟨_,_,ho,h,k⟩
theorem jZ {xs:List Dat} {Q:List Dat→Prop} (q:Q xs):∃ ds,Bf (.lst xs)=some ds∧Q ds:=⟨_,rfl,q⟩
theorem ndT {p:Prop} [Decidable p] (h:(!decide p)=true):¬ p:=by intro z;rw [decide_eq_true z] at h;cases h
theorem ndF {p:Prop} [Decidable p] (h:(!decide p)=false):p:=Decidable.byContradiction fun z=>by rw [decide_eq_false z] at h;cases h
theorem WB.IY {α:Type} {enc:α→Dat} {xs:List α} {o:Option (List Dat)} {K:RV→Prop} (k:K (.val (.int xs.length))) (ho:o=some [.lst (xs.map enc)]):WB f9 o K:=⟨_,_,ho,by unfold f9;dsimp only;rw [List.length_map],k⟩
theorem Ws.mono {s:FS} {ρ:Env} {N N':Env→Prop} {R:RV→Env→Prop} {B C:Env→Prop} (h:Ws s ρ N' R B C) (k:∀ ρ',N' ρ'→N ρ'):Ws s ρ N R B C:=by
 obtain ⟨o,h1,h2⟩:=h
 cases o with
 | nx ρ1=>exact ⟨.nx ρ1,h1,k _ h2⟩
 | ret r ρ1=>exact ⟨.ret r ρ1,h1,h2⟩
 | bk ρ1=>exact ⟨.bk ρ1,h1,h2⟩
 | ct ρ1=>exact ⟨.ct ρ1,h1,h2⟩
theorem vJ {ρ:Env} {i:Nat} {d:Dat} {W:Prop} (h:ρ[i]?=some (.ow d)) (w:W):(∃ d0,ρ[i]?=some (.ow d0))∧W:=⟨⟨d,h⟩,w⟩
theorem We.Dn {ρ:Env} {Q:Val→Env→Prop} (q:Q (.new (.dct [] [])) ρ):We eDn ρ Q:=⟨_,_,rfl,q⟩
theorem We.D1 {a b:FE} {ρ:Env} {Q:Val→Env→Prop} (h:We a ρ fun v ρ1=>dJ v fun i=>We b ρ1 fun x ρ2=>Wk ρ2 x fun d ρ3=>Q (.new (.dct [i] [d])) ρ3):We (eD1 a b) ρ Q:=by
 obtain ⟨v,ρ1,h1,i,rfl,x,ρ2,h2,d,ρ3,h3,q⟩:=h
 exact ⟨_,_,by unfold eD1;rw [h1];dsimp only;rw [h2];dsimp only;rw [h3],q⟩
theorem cE {bd:FB} {d:Dat} {ρ ρ1 ρ2:Env} {W:Env→Prop} (h:bd d ρ=some ρ1) (hn:ρ1=ρ2) (w:W ρ2):∃ ρ1,bd d ρ=some ρ1∧W ρ1:=⟨ρ1,h,hn▸w⟩
theorem Bj {α:Type} (enc:α→Dat) (p:α→Bool) (v:α→Dat) (bd:FB) (t:FT) (el:FE) (e0:Env) (env:α→Env) (h0:∀ x,bd (enc x) e0=some (env x)) (h1:∀ x y,bd (enc x) (env y)=some (env x)):∀ (xs:List α) (acc:List Dat) (e:Env),(e=e0∨∃ y,e=env y) →
  (∀ x∈xs,t (env x)=some (p x,env x))→(∀ x∈xs,p x=true→We el (env x) fun w ρ'=>Wk ρ' w fun d ρ''=>d=v x∧ρ''=env x) →
  ∃ e',(e'=e0∨∃ y,e'=env y)∧d9 bd t el (xs.map enc) e acc=some (acc++(xs.filter p).map v,e')
 | [],acc,e,he,_,_=>⟨e,he,by simp [d9]⟩
 | x::xs,acc,e,he,ht,hel=>by
  have hb:bd (enc x) e=some (env x):=by
   rcases he with rfl | ⟨y,rfl⟩
   ·exact h0 x
   ·exact h1 x y
  rw [List.map_cons,d9,hb]
  dsimp only
  rw [ht x List.mem_cons_self]
  have ht':=fun y hy=>ht y (List.mem_cons_of_mem _ hy)
  have he':=fun y hy=>hel y (List.mem_cons_of_mem _ hy)
  by_cases h:p x=true
  ·obtain ⟨w,ρ',g1,d,ρ'',g2,rfl,rfl⟩:=hel x List.mem_cons_self h
   rw [h]
   dsimp only
   rw [g1]
   dsimp only
   rw [g2]
   obtain ⟨e',q,z⟩:=Bj enc p v bd t el e0 env h0 h1 xs (acc++[v x]) _ (.inr ⟨x,rfl⟩) ht' he'
   exact ⟨e',q,by dsimp only;rw [z,List.filter_cons_of_pos h];simp⟩
  ·rw [Bool.not_eq_true] at h
   rw [h]
   obtain ⟨e',q,z⟩:=Bj enc p v bd t el e0 env h0 h1 xs acc _ (.inr ⟨x,rfl⟩) ht' he'
   exact ⟨e',q,by dsimp only;rw [z,List.filter_cons_of_neg (by rw [h];decide)]⟩
theorem We.LX {α β:Type} (enc:α→Dat) (xs:List α) (p:α→Bool) (f:α→β) (iJ:β→Dat) (env:α→Env) {it:FI} {own:Nat} {bd:FB} {t:FT} {el:FE} {ρ ρ1:Env} {Q:Val→Env→Prop}
  (q:Q (.new (.lst (((xs.filter p).map f).map iJ))) ρ1) (hit:it ρ=some (xs.map enc,ρ1)) (h0:∀ x,bd (enc x) (ρ1++List.replicate own .un)=some (env x)) (h1:∀ x y,bd (enc x) (env y)=some (env x)) (h2:∀ x,(env x).take ρ1.length=ρ1) (hl:xs.length≤SZ)
  (ht:∀ x∈xs,Wt t (env x) fun c ρ'=>c=p x∧ρ'=env x)
  (he:∀ x∈xs,p x=true→We el (env x) fun w ρ'=>Wk ρ' w fun d ρ''=>d=iJ (f x)∧ρ''=env x):We (cK it own bd t el) ρ Q:=by
 obtain ⟨e',q',e⟩:=Bj enc p (fun x=>iJ (f x)) bd t el _ env h0 h1 xs [] _ (.inl rfl) (fun x hx=>Wt.get (ht x hx)) he
 refine ⟨_,_,?_,q⟩
 unfold cK
 rw [hit]
 dsimp only
 rw [if_pos (by rw [List.length_map];exact hl),e]
 dsimp only
 rw [List.nil_append,List.map_map]
 have:e'.take ρ1.length=ρ1:=by
  rcases q' with rfl | ⟨y,rfl⟩
  ·exact List.take_left
  ·exact h2 y
 rw [this]
 rfl
theorem WB.tuple {xs:List Dat} {o:Option (List Dat)} {K:RV→Prop} (k:K (.val (.tup xs))) (ho:o=some [.lst xs]):WB kI o K:=⟨_,_,ho,rfl,k⟩
noncomputable def ltI (a b:Int):Bool:=decide (a<b)
theorem pN (ns:List Int):(fM ltI ns).Pairwise (fun a b=>ltI b a=false):=fh (fun a b c h1 h2=>by simp [ltI] at *;omega) (fun a b h=>by simp [ltI] at *;omega) ns
theorem Ws.wh {t:FT} {body:FS} {N:Env→Prop} {R:RV→Env→Prop} {B C:Env→Prop} (I:Nat→Env→Prop)
  (hs:∀ k ρ,I k ρ→Wt t ρ fun c ρ1=>Wif c (Ws body ρ1 (fun ρ2=>∃ k',k'<k∧I k' ρ2) R N (fun ρ2=>∃ k',k'<k∧I k' ρ2)) (N ρ1)):∀ (n k:Nat) (ρ:Env),k<n→I k ρ→Ws (whD t body n) ρ N R B C
 | 0,k,_,h,_=>absurd h (Nat.not_lt_zero k)
 | n+1,k,ρ,h,i=>by
  obtain ⟨c,ρ1,h1,h2,h3⟩:=hs k ρ i
  cases c with
  | false=>exact ⟨.nx _,by rw [whD,h1],h3 rfl⟩
  | true=>
   obtain ⟨o,h4,h5⟩:=h2 rfl
   cases o with
   | nx ρ2=>
    obtain ⟨k',hk,i'⟩:=h5
    obtain ⟨o,h6,h7⟩:=Ws.wh (N:=N) (R:=R) (B:=B) (C:=C) I hs n k' ρ2 (by omega) i'
    exact ⟨o,by rw [whD,h1];dsimp only;rw [h4];exact h6,h7⟩
   | ct ρ2=>
    obtain ⟨k',hk,i'⟩:=h5
    obtain ⟨o,h6,h7⟩:=Ws.wh (N:=N) (R:=R) (B:=B) (C:=C) I hs n k' ρ2 (by omega) i'
    exact ⟨o,by rw [whD,h1];dsimp only;rw [h4];exact h6,h7⟩
   | bk ρ2=>exact ⟨.nx _,by rw [whD,h1];dsimp only;rw [h4],h5⟩
   | ret r ρ2=>exact ⟨.ret _ _,by rw [whD,h1];dsimp only;rw [h4],h5⟩
theorem za {α:Type} (p:α→Bool) (xs:List α):bools (xs.map fun x=>Dat.bl (p x))=some (xs.map p):=by
 induction xs with
 | nil=>rfl
 | cons x xs ih=>rw [List.map_cons,bools,ih];rfl
theorem WB.all {α:Type} (p:α→Bool) {xs:List α} {o:Option (List Dat)} {K:RV→Prop} (k:K (.val (.bl (xs.all p)))) (ho:o=some [.lst (xs.map fun x=>Dat.bl (p x))]):WB vc o K:=⟨_,_,ho,by
 unfold vc
 dsimp only
 rw [za]
 have:(xs.map p).all id=xs.all p:=by rw [List.all_map];rfl
 dsimp only
 rw [this],k⟩
theorem We.ND {a b:FE} {ρ:Env} {Q:Val→Env→Prop} (h:We a ρ fun x ρ1=>(∃ ks vs,pk ρ1 x=some (.dct ks vs))∧We b ρ1 fun y ρ2=>∃ ks vs i,pk ρ2 x=some (.dct ks vs)∧pk ρ2 y=some (.int i)∧Q (.val ((bO ks vs i).getD .non)) ρ2):We (lD a b) ρ Q:=by
 obtain ⟨x,ρ1,h1,⟨ks,vs,h2⟩,y,ρ2,h3,ks',vs',i,h4,h5,q⟩:=h
 exact ⟨_,_,by unfold lD;rw [h1];dsimp only;rw [h2];dsimp only;rw [h3];dsimp only;rw [h4];dsimp only;rw [h5],q⟩
theorem Wg2.isN {d:Dat} {o p:Option Dat} {K:RV→Prop} (k:K (.val (.bl (Dm.isN d)))) (ho:o=some d) (hp:p=some .non):Wg2 AY o p K:=⟨_,_,_,ho,hp,by cases d<;>rfl,k⟩
theorem WB.NF {j:Int} {o:Option (List Dat)} {K:RV→Prop} (k:K (.new (.lst (ups 0 j.toNat)))) (ho:o=some [.int j]) (h:j≤1000000∧-1000000≤j):WB p8 o K:=⟨_,_,ho,by unfold p8;dsimp only;rw [if_pos h],k⟩
theorem Ws.cut {s u:FS} {ρ:Env} {N:Env→Prop} {R:RV→Env→Prop} {B C:Env→Prop} (J:Env→Prop) (h1:Ws s ρ J R B C) (h2:∀ ρ',J ρ'→Ws u ρ' N R B C):Ws (aD s u) ρ N R B C:=Ws.seq (Ws.mono h1 h2)
noncomputable def WrM (o:Option (RV×Dat)) (P:RV→Dat→Prop):Prop:=∃ z d,o=some (z,d)∧P z d
theorem WrM.fn {n m:Nat} {body:FS} {d:Dat} {r:List Dat} {ρ:Env} {P:RV→Dat→Prop} (b:Ws body ρ (fun ρ'=>∃ d',ρ'[0]?=some (.ow d')∧P (.val .non) d') (fun z ρ'=>∃ d',ρ'[0]?=some (.ow d')∧P z d') (fun _=>False) (fun _=>False)) (hρ:Cell.ow d::(r.map Cell.sh++List.replicate m .un)=ρ) (h:(d::r).length=n):WrM (fnM n m body (d::r)) P:=by
 obtain ⟨o,h1,h2⟩:=b
 cases o with
 | nx ρ1=>obtain ⟨d',h3,h4⟩:=h2;exact ⟨_,_,by unfold fnM;rw [if_pos h];dsimp only;rw [hρ,h1];dsimp only;rw [h3],h4⟩
 | ret z ρ1=>obtain ⟨d',h3,h4⟩:=h2;exact ⟨_,_,by unfold fnM;rw [if_pos h];dsimp only;rw [hρ,h1];dsimp only;rw [h3],h4⟩
 | bk ρ1=>exact h2.elim
 | ct ρ1=>exact h2.elim
noncomputable def WFm (f:List Dat→Option (RV×Dat)) (j:Nat) (ρ1:Env) (xs:List Val) (Q:Val→Env→Prop):Prop:=
 ∃ d1 ds ρ2 d v d',ρ1[j]?=some (.ow d1)∧tks ρ1 xs=some (ds,ρ2)∧ρ2[j]?=some (.ow d)∧f (d::ds)=some (v,d')∧(if (flat v.dat&&vt d')=true then Q v.bG (ρ1.set j (.ow d')) else Q v.bG (ρ2.set j (.ow d')))
theorem We.Fm {f:List Dat→Option (RV×Dat)} {j:Nat} {as:List FE} {ρ:Env} {d0:Dat} {Q:Val→Env→Prop} (h:Was as ρ fun xs ρ1=>WFm f j ρ1 xs Q) (h0:ρ[j]?=some (.ow d0)):We (eFm f j as) ρ Q:=by
 obtain ⟨xs,ρ1,h1,d1,ds,ρ2,d,v,d',h2,h3,h4,h5,q⟩:=h
 by_cases c:(flat v.dat&&vt d')=true
 ·rw [if_pos c] at q
  exact ⟨_,_,by unfold eFm;rw [h0];dsimp only;rw [h1];dsimp only;rw [h2];dsimp only;rw [h3];dsimp only;rw [h4];dsimp only;rw [h5];dsimp only;rw [if_pos c],q⟩
 ·rw [if_neg c] at q
  exact ⟨_,_,by unfold eFm;rw [h0];dsimp only;rw [h1];dsimp only;rw [h2];dsimp only;rw [h3];dsimp only;rw [h4];dsimp only;rw [h5];dsimp only;rw [if_neg c],q⟩
theorem WFm.any {f:List Dat→Option (RV×Dat)} {j:Nat} {ρ1 ρ3:Env} {xs:List Val} {d d':Dat} {ds:List Dat} {v:RV} {Q:Val→Env→Prop} (h5:f (d::ds)=some (v,d')) (q:Q v.bG ρ3) (h2:ρ1[j]?=some (.ow d)) (h3:tks ρ1 xs=some (ds,ρ1)) (hn:ρ1.set j (.ow d')=ρ3):WFm f j ρ1 xs Q:=
 ⟨_,_,_,_,_,_,h2,h3,h2,h5,by rw [hn];split<;>exact q⟩
theorem We.Fd {f:List Dat→Option RV} {as:List FE} {ρ:Env} {Q:Val→Env→Prop} (h:Was as ρ fun xs ρ1=>∃ ds ρ2 v,vD ρ1 xs=some (ds,ρ2)∧f ds=some v∧bQ v.dat=true∧Q v.bG ρ2):We (eFd f as) ρ Q:=by
 obtain ⟨xs,ρ1,h1,ds,ρ2,v,h2,h3,h4,q⟩:=h
 exact ⟨_,_,by unfold eFd;rw [h1];dsimp only;rw [h2];dsimp only;rw [h3];dsimp only;rw [if_pos h4],q⟩
theorem kR:∀ (xs:List Dat),(∀ x∈xs,bQ x=true)→gp xs=true
 | [],_=>by unfold gp;rfl
 | x::xs,h=>by
  unfold gp
  rw [h x List.mem_cons_self,kR xs fun y hy=>h y (List.mem_cons_of_mem _ hy)]
  rfl
theorem gX {α:Type} (enc:α→Dat) (xs:List α) (h:∀ x,bQ (enc x)=true):bQ (.lst (xs.map enc))=true:=by
 unfold bQ
 exact kR _ fun d hd=>by obtain ⟨x,_,rfl⟩:=List.mem_map.mp hd;exact h x
theorem qh (i:Int):bQ (.int i)=true:=by unfold bQ;rfl
theorem vK (xs:List Int):bQ (.lst (xs.map Dat.int))=true:=gX _ _ qh
theorem WB.dict {ks:List Int} {vs:List Dat} {o:Option (List Dat)} {K:RV→Prop} (k:K (.new (.dct ks vs))) (ho:o=some [.dct ks vs]):WB sW o K:=⟨_,_,ho,rfl,k⟩
theorem WB.LY {ks:List Int} {vs:List Dat} {o:Option (List Dat)} {K:RV→Prop} (k:K (.new (.lst ((fM ltI ks).map Dat.int)))) (ho:o=some [.dct ks vs]) (h:ks.length≤63):WB kP o K:=⟨_,_,ho,by
 unfold kP
 dsimp only
 rw [if_pos h]
 rfl,k⟩
theorem We.LZ {i:Nat} {e:FE} {ρ ρ2:Env} {k:Int} {ks:List Int} {vs:List Dat} {d:Dat} {Q:Val→Env→Prop} (hl:bO ks vs k=some d) (q:Q (.val d) ρ2) (h:ρ[i]?=some (.ow (.dct ks vs))) (he:e ρ=some (.val (.int k),ρ)) (hs:ρ.set i (.ow (.dct (fk ks vs k) (fm ks vs k)))=ρ2):We (nv i e) ρ Q:=⟨_,_,by
 unfold nv
 rw [h]
 dsimp only
 rw [he]
 dsimp only
 rw [h]
 dsimp only
 rw [hl]
 dsimp only
 rw [hs],q⟩
theorem Wi.get {it:FI} {ρ ρ1:Env} {ds:List Dat} (h:Wi it ρ fun x y=>x=ds∧y=ρ1):it ρ=some (ds,ρ1):=by
 obtain ⟨_,_,h1,rfl,rfl⟩:=h;exact h1
theorem We.get {e:FE} {ρ ρ':Env} {v:Val} (h:We e ρ fun x y=>x=v∧y=ρ'):e ρ=some (v,ρ'):=by
 obtain ⟨_,_,h1,rfl,rfl⟩:=h;exact h1
theorem We.Fn {f:List Dat→Option (RV×Dat)} {e0:FE} {as:List FE} {ρ:Env} {Q:Val→Env→Prop} (h:Was (e0::as) ρ fun xs ρ1=>∃ d ys ds v d',xs=.new d::ys∧kQ ys=some ds∧f (d::ds)=some (v,d')∧Q v.bG ρ1):We (eFn f e0 as) ρ Q:=by
 obtain ⟨xs,ρ1,h1,d,ys,ds,v,d',rfl,h2,h3,q⟩:=h
 refine ⟨_,_,?_,q⟩
 unfold eFn
 rw [h1]
 dsimp only
 rw [h2]
 dsimp only
 rw [h3]
section
variable {N:Env→Prop} {R:RV→Env→Prop} {B C:Env→Prop} {ρ:Env} {p:Dp}
end
section
variable {ρ:Env} {P:Dp→Prop}
end
section
variable {N:Env→Dp→Prop} {R:Dat→Env→Prop} {ρ ρ':Env} {p:Dp}
end
section
variable {N:Env→Prop} {R:RV→Env→Prop} {B C:Env→Prop} {ρ:Env} {p:Dp}
end
section
variable {N:Env→Dp→Prop} {R:Dat→Env→Prop} {ρ ρ':Env} {p:Dp}
end
section
variable {ρ:Env} {P:Dp→Prop} {Q:Dp→Env→Prop}
end
end Dm
namespace Fl
structure Tie where
 m:Int
 a:Int
 b:Int
deriving Inhabited
noncomputable def one (b:Bool):Int:=if b then 1 else 0
noncomputable def Ends (t:Tie) (p q:Int):Prop:=t.a≠t.b∧((t.a=p∧t.b=q)∨(t.b=p∧t.a=q))
theorem Ends.symm {t:Tie} {p q:Int} (h:Ends t p q):Ends t q p:=⟨h.1,h.2.symm.imp (fun x=>⟨x.2,x.1⟩) (fun x=>⟨x.2,x.1⟩)⟩
noncomputable abbrev Hd:=Int→Option Int
noncomputable def val (o:Option Int) (t:Tie) (S:Int→Bool):Int:=
 if t.a=t.b then 0 else if o=some t.b then one (S t.a)-one (S t.b) else if o=some t.a then one (S t.b)-one (S t.a) else 0
noncomputable def dg (r:List Tie) (H:Hd) (S:Int→Bool):Int:=match r with
 | []=>0
 | t::r=>val (H t.m) t S+dg r H S
noncomputable def put (H:Hd) (m:Int) (o:Option Int):Hd:=fun x=>if x=m then o else H x
theorem zb {r:List Tie} {H H':Hd} {S:Int→Bool} (h:∀ t∈r,H t.m=H' t.m):dg r H S=dg r H' S:=by
 induction r with
 | nil=>rfl
 | cons t r ih=>rw [dg,dg,h t List.mem_cons_self,ih fun u hu=>h u (List.mem_cons_of_mem _ hu)]
theorem tu {r:List Tie} (nd:(r.map (·.m)).Nodup) {t:Tie} (ht:t∈r) (H:Hd) (o:Option Int) (S:Int→Bool):dg r (put H t.m o) S=dg r H S-val (H t.m) t S+val o t S:=by
 induction r with
 | nil=>cases ht
 | cons u r ih=>
  rw [List.map_cons,List.nodup_cons] at nd
  rcases List.mem_cons.mp ht with rfl | ht'
  ·rw [dg,dg]
   have e1:put H t.m o t.m=o:=by unfold put;rw [if_pos rfl]
   rw [e1,zb (H:=put H t.m o) (H':=H) fun v hv=>?_]
   ·omega
   ·unfold put
    rw [if_neg fun e=>?_]
    exact nd.1 (List.mem_map.mpr ⟨v,hv,e⟩)
  ·have hne:u.m≠t.m:=fun e=>nd.1 (List.mem_map.mpr ⟨t,ht',e.symm⟩)
   rw [dg,dg,ih nd.2 ht']
   have e1:put H t.m o u.m=H u.m:=by unfold put;rw [if_neg hne]
   rw [e1]
   omega
theorem gY {t:Tie} {p q:Int} (h:Ends t p q) (S:Int→Bool):val (some q) t S=one (S p)-one (S q):=by
 obtain ⟨h1,h2⟩:=h
 unfold val
 rw [if_neg h1]
 rcases h2 with ⟨rfl,rfl⟩ | ⟨rfl,rfl⟩
 ·rw [if_pos rfl]
 ·rw [if_neg (by intro e;injection e with e;exact h1 e),if_pos rfl]
theorem gv (t:Tie) (S:Int→Bool):val none t S=0:=by
 unfold val
 split
 ·rfl
 ·simp
noncomputable def Ok (r:List Tie) (H:Hd):Prop:=∀ t∈r,∀ x,H t.m=some x→x=t.a∨x=t.b
noncomputable def gw (H:Hd) (m q:Int):Hd:=put H m (if (H m).isSome then none else some q)
theorem vL {r:List Tie} (nd:(r.map (·.m)).Nodup) {H:Hd} (ok:Ok r H) {t:Tie} (ht:t∈r) {p q:Int} (he:Ends t p q) (hf:H t.m≠some q) (S:Int→Bool) :
  dg r (gw H t.m q) S=dg r H S+one (S p)-one (S q):=by
 unfold gw
 rw [tu nd ht]
 cases e:H t.m with
 | none=>
  simp only [Option.isSome_none,Bool.false_eq_true,if_false]
  rw [gv,gY he]
  omega
 | some x=>
  have hx:=ok t ht x e
  have:x=p:=by
   rw [e] at hf
   have hxq:x≠q:=fun z=>hf (by rw [z])
   obtain ⟨_,h2⟩:=he
   omega
  subst this
  simp only [Option.isSome_some,if_true]
  rw [gv,gY he.symm]
  omega
theorem uniq {r:List Tie} (nd:(r.map (·.m)).Nodup) {u t:Tie} (hu:u∈r) (ht:t∈r) (e:u.m=t.m):u=t:=by
 induction r with
 | nil=>cases hu
 | cons v r ih=>
  rw [List.map_cons,List.nodup_cons] at nd
  rcases List.mem_cons.mp hu with rfl | h1
  ·rcases List.mem_cons.mp ht with rfl | h2
   ·rfl
   ·exact absurd (List.mem_map.mpr ⟨t,h2,e.symm⟩) nd.1
  ·rcases List.mem_cons.mp ht with rfl | h2
   ·exact absurd (List.mem_map.mpr ⟨u,h1,e⟩) nd.1
   ·exact ih nd.2 h1 h2
theorem Bk {r:List Tie} (nd:(r.map (·.m)).Nodup) {H:Hd} (ok:Ok r H) {t:Tie} (ht:t∈r) {p q:Int} (he:Ends t p q):Ok r (gw H t.m q):=by
 intro u hu x hx
 unfold gw put at hx
 by_cases e:u.m=t.m
 ·rw [if_pos e] at hx
  have:u=t:=uniq nd hu ht e
  subst this
  split at hx
  ·cases hx
  ·injection hx with hx
   obtain ⟨_,h2⟩:=he
   omega
 ·rw [if_neg e] at hx
  exact ok u hu x hx
noncomputable abbrev Step:=Int×Int
noncomputable def Way (R:Int→Step→Prop):Int→List Step→Int→Prop
 | x,[],y=>x=y
 | x,s::w,y=>R x s∧Way R s.2 w y
theorem Way.snoc {R:Int→Step→Prop}:∀ {w:List Step} {x y:Int} {s:Step},Way R x w y→R y s→Way R x (w++[s]) s.2
 | [],_,_,_,h,k=>by cases h;exact ⟨k,rfl⟩
 | _::_,_,_,_,h,k=>⟨h.1,Way.snoc h.2 k⟩
theorem Way.mono {R R':Int→Step→Prop} (h:∀ p s,R p s→R' p s):∀ {w:List Step} {x y:Int},Way R x w y→Way R' x w y
 | [],_,_,k=>k
 | _::_,_,_,k=>⟨h _ _ k.1,Way.mono h k.2⟩
noncomputable def j0 (r:List Tie) (p:Int) (s:Step):Prop:=∃ t∈r,t.m=s.1∧Ends t p s.2
noncomputable def nC (r:List Tie) (H:Hd) (p:Int) (s:Step):Prop:=j0 r p s∧H s.1≠some s.2
noncomputable def Led (r:List Tie) (H:Hd) (p:Int) (s:Step):Prop:=j0 r p s∧H s.1=some s.2
theorem kT {r:List Tie} (nd:(r.map (·.m)).Nodup) {R:Int→Step→Prop} (hR:∀ p s,R p s→j0 r p s) {x y:Int} {s:Step} {w:List Step} (h:Way R x (s::w) y) (hn:(x::(s::w).map (·.2)).Nodup):∀ u∈w,u.1≠s.1:=by
 obtain ⟨h1,h2⟩:=h
 obtain ⟨t,ht,hm,he⟩:=hR _ _ h1
 have main:∀ (w:List Step) (z:Int),Way R z w y→(∀ u∈w,u.2≠x∧u.2≠s.2)→∀ u∈w,u.1≠s.1:=fun w=>by
  induction w with
  | nil=>intro z _ _ u hu;cases hu
  | cons v w ih=>
   intro z hw hd u hu
   rcases List.mem_cons.mp hu with rfl | hu
   ·intro e
    obtain ⟨t',ht',hm',he'⟩:=hR _ _ hw.1
    have:=uniq nd ht' ht (by rw [hm',e,hm])
    subst this
    obtain ⟨d1,d2⟩:=hd u List.mem_cons_self
    obtain ⟨_,he⟩:=he
    obtain ⟨_,he'⟩:=he'
    omega
   ·exact ih v.2 hw.2 (fun u hu=>hd u (List.mem_cons_of_mem _ hu)) u hu
 rw [List.map_cons,List.nodup_cons,List.nodup_cons] at hn
 refine main w s.2 h2 fun u hu=>⟨fun e=>hn.1 ?_,fun e=>hn.2.1 ?_⟩
 ·exact List.mem_cons_of_mem _ (List.mem_map.mpr ⟨u,hu,e⟩)
 ·exact List.mem_map.mpr ⟨u,hu,e⟩
theorem lJ {r:List Tie} (nd:(r.map (·.m)).Nodup) {R:Int→Step→Prop} (hR:∀ p s,R p s→j0 r p s) {y:Int}:∀ {w:List Step} {x:Int},Way R x w y→(x::w.map (·.2)).Nodup→(w.map (·.1)).Nodup
 | [],_,_,_=>by simp
 | s::w,x,h,hn=>by
  rw [List.map_cons,List.nodup_cons]
  refine ⟨fun e=>?_,lJ nd hR h.2 (by rw [List.map_cons,List.nodup_cons] at hn;exact hn.2)⟩
  obtain ⟨u,hu,e⟩:=List.mem_map.mp e
  exact kT nd hR h hn u hu e
noncomputable def lM (H:Hd):List Step→Hd
 | []=>H
 | s::w=>lM (gw H s.1 s.2) w
theorem tw {H:Hd} {m q x:Int} (h:x≠m):gw H m q x=H x:=by unfold gw put;rw [if_neg h]
theorem iK {r:List Tie} (nd:(r.map (·.m)).Nodup) (S:Int→Bool):∀ {w:List Step} {x y:Int} {H:Hd},Ok r H→Way (nC r H) x w y→(x::w.map (·.2)).Nodup →
  Ok r (lM H w)∧dg r (lM H w) S=dg r H S+one (S x)-one (S y)
 | [],x,y,H,ok,h,_=>by
  cases h
  exact ⟨ok,by rw [lM];omega⟩
 | s::w,x,y,H,ok,h,hn=>by
  have hfr:=kT nd (fun p s h=>h.1) h hn
  obtain ⟨⟨⟨t,ht,hm,he⟩,hf⟩,h2⟩:=h
  have ok1:=Bk nd ok ht he
  have f1:=vL nd ok ht he (by rw [hm];exact hf) S
  rw [hm] at ok1 f1
  have h3:Way (nC r (gw H s.1 s.2)) s.2 w y:=by
   have main:∀ (w:List Step) (z:Int),(∀ u∈w,u.1≠s.1)→Way (nC r H) z w y→Way (nC r (gw H s.1 s.2)) z w y:=fun w=>by
    induction w with
    | nil=>intro _ _ h;exact h
    | cons u w ih=>
     intro z hu hw
     exact ⟨⟨hw.1.1,by rw [tw (hu u List.mem_cons_self)];exact hw.1.2⟩,ih u.2 (fun v hv=>hu v (List.mem_cons_of_mem _ hv)) hw.2⟩
   exact main w s.2 hfr h2
  obtain ⟨k1,k2⟩:=iK nd S ok1 h3 (by rw [List.map_cons,List.nodup_cons] at hn;exact hn.2)
  rw [lM]
  exact ⟨k1,by rw [k2,f1];omega⟩
noncomputable def fO (H:Hd):List Step→Hd
 | []=>H
 | s::w=>fO (put H s.1 none) w
theorem gx:∀ {w:List Step} {H:Hd} {x:Int},(∀ u∈w,u.1≠x)→fO H w x=H x
 | [],_,_,_=>rfl
 | s::w,H,x,h=>by
  rw [fO,gx fun u hu=>h u (List.mem_cons_of_mem _ hu)]
  unfold put
  rw [if_neg fun e=>h s List.mem_cons_self e.symm]
theorem iM:∀ {w:List Step} {H:Hd} {x:Int},x∈w.map (·.1)→fO H w x=none
 | [],_,_,h=>by cases h
 | s::w,H,x,h=>by
  rw [fO]
  by_cases e:x∈w.map (·.1)
  ·exact iM e
  ·rw [gx fun u hu z=>e (List.mem_map.mpr ⟨u,hu,z⟩)]
   rw [List.map_cons] at h
   rcases List.mem_cons.mp h with rfl | h
   ·unfold put;rw [if_pos rfl]
   ·exact absurd h e
theorem iN {r:List Tie} (nd:(r.map (·.m)).Nodup) (S:Int→Bool):∀ {w:List Step} {x y:Int} {H:Hd},Ok r H→Way (Led r H) x w y→(x::w.map (·.2)).Nodup →
  Ok r (fO H w)∧dg r (fO H w) S=dg r H S-one (S x)+one (S y)
 | [],x,y,H,ok,h,_=>by
  cases h
  exact ⟨ok,by rw [fO];omega⟩
 | s::w,x,y,H,ok,h,hn=>by
  have hfr:=kT nd (fun p s h=>h.1) h hn
  obtain ⟨⟨⟨t,ht,hm,he⟩,hf⟩,h2⟩:=h
  have ok1:Ok r (put H s.1 none):=fun u hu z hz=>by
   unfold put at hz
   split at hz
   ·cases hz
   ·exact ok u hu z hz
  have f1:=tu nd ht H none S
  rw [gv,hm,hf,gY he] at f1
  have h3:Way (Led r (put H s.1 none)) s.2 w y:=by
   have main:∀ (w:List Step) (z:Int),(∀ u∈w,u.1≠s.1)→Way (Led r H) z w y→Way (Led r (put H s.1 none)) z w y:=fun w=>by
    induction w with
    | nil=>intro _ _ h;exact h
    | cons u w ih=>
     intro z hu hw
     exact ⟨⟨hw.1.1,by unfold put;rw [if_neg (hu u List.mem_cons_self)];exact hw.1.2⟩,ih u.2 (fun v hv=>hu v (List.mem_cons_of_mem _ hv)) hw.2⟩
   exact main w s.2 hfr h2
  obtain ⟨k1,k2⟩:=iN nd S ok1 h3 (by rw [List.map_cons,List.nodup_cons] at hn;exact hn.2)
  rw [fO]
  exact ⟨k1,by rw [k2,f1];omega⟩
noncomputable def over (S:Int→Bool) (t:Tie):Bool:=S t.a != S t.b
theorem Bl {r:List Tie} {H:Hd} {S:Int→Bool} (hc:∀ p s,S p=true→nC r H p s→S s.2=true):dg r H S=((r.filter (over S)).length:Nat):=by
 have main:∀ (q:List Tie),(∀ t∈q,t∈r)→dg q H S=((q.filter (over S)).length:Nat):=fun q=>by
  induction q with
  | nil=>intro _;rfl
  | cons t q ih=>
   intro hq
   rw [dg,ih fun u hu=>hq u (List.mem_cons_of_mem _ hu)]
   by_cases ho:over S t=true
   ·rw [List.filter_cons_of_pos ho]
    have hne:t.a≠t.b:=fun e=>by unfold over at ho;rw [e] at ho;simp at ho
    have hv:val (H t.m) t S=1:=by
     unfold over at ho
     cases ha:S t.a with
     | true=>
      have hb:S t.b=false:=by rw [ha] at ho;simpa using ho
      have he:Ends t t.a t.b:=⟨hne,.inl ⟨rfl,rfl⟩⟩
      have:H t.m=some t.b:=Decidable.byContradiction fun e=>by
       have:=hc t.a (t.m,t.b) ha ⟨⟨t,hq t List.mem_cons_self,rfl,he⟩,e⟩
       rw [hb] at this
       cases this
      rw [this,gY he,ha,hb]
      rfl
     | false=>
      have hb:S t.b=true:=by rw [ha] at ho;simpa using ho
      have he:Ends t t.b t.a:=⟨hne,.inr ⟨rfl,rfl⟩⟩
      have:H t.m=some t.a:=Decidable.byContradiction fun e=>by
       have:=hc t.b (t.m,t.a) hb ⟨⟨t,hq t List.mem_cons_self,rfl,he⟩,e⟩
       rw [ha] at this
       cases this
      rw [this,gY he,ha,hb]
      rfl
    rw [hv,List.length_cons]
    omega
   ·rw [List.filter_cons_of_neg ho]
    have hv:val (H t.m) t S=0:=by
     unfold over at ho
     have:S t.a=S t.b:=by simpa using ho
     unfold val
     rw [this]
     split
     ·rfl
     ·split
      ·omega
      ·split<;>omega
    rw [hv]
    omega
 exact main r fun _ h=>h
theorem Bm {r:List Tie} {H:Hd} {S:Int→Bool} (ok:Ok r H) (hc:∀ p s,S p=true→Led r H p s→S s.2=true):dg r H S≤0:=by
 have main:∀ (q:List Tie),(∀ t∈q,t∈r)→dg q H S≤0:=fun q=>by
  induction q with
  | nil=>intro _;exact Int.le_refl _
  | cons t q ih=>
   intro hq
   rw [dg]
   have h1:=ih fun u hu=>hq u (List.mem_cons_of_mem _ hu)
   have hv:val (H t.m) t S≤0:=by
    by_cases hne:t.a=t.b
    ·unfold val;rw [if_pos hne];exact Int.le_refl _
    cases e:H t.m with
    | none=>rw [gv];exact Int.le_refl _
    | some x=>
     have key:∀ p,Ends t p x→val (some x) t S≤0:=fun p he=>by
      rw [gY he]
      cases hp:S p with
      | false=>cases S x<;>decide
      | true=>
       have:=hc p (t.m,x) hp ⟨⟨t,hq t List.mem_cons_self,rfl,he⟩,e⟩
       rw [this]
       decide
     rcases ok t (hq t List.mem_cons_self) x e with rfl | rfl
     ·exact key t.b ⟨hne,.inr ⟨rfl,rfl⟩⟩
     ·exact key t.a ⟨hne,.inl ⟨rfl,rfl⟩⟩
   omega
 exact main r fun _ h=>h
structure Flow (r:List Tie) (H:Hd) (a b:Int) (k:Nat):Prop where
 ok:Ok r H
 eq:∀ S,dg r H S=(k:Int)*(one (S a)-one (S b))
theorem Flow.zero (r:List Tie) (a b:Int):Flow r (fun _=>none) a b 0:=⟨fun _ _ _ h=>(by cases h),fun S=>by
 induction r with
 | nil=>simp [dg]
 | cons t r ih=>rw [dg,gv,ih];simp⟩
theorem Flow.more {r:List Tie} (nd:(r.map (·.m)).Nodup) {H:Hd} {a b:Int} {k:Nat} (f:Flow r H a b k) {w:List Step} (h:Way (nC r H) a w b) (hn:(a::w.map (·.2)).Nodup):Flow r (lM H w) a b (k+1):=
 ⟨(iK nd (fun _=>true) f.ok h hn).1,fun S=>by
  rw [(iK nd S f.ok h hn).2,f.eq S]
  have:((k+1:Nat):Int)=(k:Int)+1:=by omega
  rw [this,Int.add_mul]
  omega⟩
theorem Flow.less {r:List Tie} (nd:(r.map (·.m)).Nodup) {H:Hd} {a b:Int} {k:Nat} (f:Flow r H a b (k+1)) {w:List Step} (h:Way (Led r H) a w b) (hn:(a::w.map (·.2)).Nodup):Flow r (fO H w) a b k:=
 ⟨(iN nd (fun _=>true) f.ok h hn).1,fun S=>by
  rw [(iN nd S f.ok h hn).2,f.eq S]
  have:((k+1:Nat):Int)=(k:Int)+1:=by omega
  rw [this,Int.add_mul]
  omega⟩
theorem Flow.cut {r:List Tie} {H:Hd} {a b:Int} {k:Nat} (f:Flow r H a b k) {S:Int→Bool} (ha:S a=true) (hb:S b=false) (hc:∀ p s,S p=true→nC r H p s→S s.2=true):(r.filter (over S)).length=k:=by
 have h1:=Bl hc
 rw [f.eq S,ha,hb] at h1
 simp [one] at h1
 omega
theorem Flow.reach {r:List Tie} {H:Hd} {a b:Int} {k:Nat} (f:Flow r H a b (k+1)) {S:Int→Bool} (ha:S a=true) (hc:∀ p s,S p=true→Led r H p s→S s.2=true):S b=true:=by
 cases hb:S b with
 | true=>rfl
 | false=>
  have h1:=Bm f.ok hc
  rw [f.eq S,ha,hb] at h1
  simp [one] at h1
  omega
end Fl
namespace P
open Dm
noncomputable def j3:FN:=
  (nIf (tV (e2 gNe (eV 4) (eV 5))) (yY (vA (eV 4) (bE [(eV 3),(eV 5)]))
  (vA (eV 5) (bE [(eV 3),(eV 4)]))) nNx)
noncomputable def EE:List Dat→Option RV:=fn 2 4
  (aD (nu 2 (iR1 (eV 0)) 1 (bN 6) (vC (iS (eV 1)) (bT [3,4,5])
  j3))
  (sR (eV 2)))
noncomputable def Bo:List Dat→Option RV:=fn 2 0
  (sR (bZ 0 1 (bN 2) fJ (bZ 2 1 (bN 3) (tV (e2 gNe (lD (eV 1) (e2 gIx (eV 3) (eC (.int 0)))) (e2 gIx (eV 3) (eC (.int 1))))) (eV 3))))
noncomputable def Bp:List Dat→Option RV:=fn 2 0
  (sR (bZ 0 1 (bN 2) fJ (bZ 2 1 (bN 3) (tV (e2 gEq (lD (eV 1) (e2 gIx (eV 3) (eC (.int 0)))) (e2 gIx (eV 3) (eC (.int 1))))) (eV 3))))
noncomputable def F6:FS:=
  (sIf (tV (e2 sN (e2 gIx (eV 5) (eC (.int 1))) (eV 2))) (aD (nh 2 (e2 gIx (eV 5) (eC (.int 1))) (e2 cZ (e2 gDx (eV 2) (eV 4)) (bF [(eV 5)])))
  (qE 3 (e2 gIx (eV 5) (eC (.int 1))))) sNx)
noncomputable def F7:FS:=
  (aD (sA 4 (kO 3 (eC (.int 0))))
  (g8 (iS (e2 gIx (eV 0) (eV 4))) (bN 5)
  F6))
noncomputable def tE:List Dat→Option RV:=fn 2 4
  (aD (sA 2 (eD1 (eV 1) (bF [])))
  (aD (sA 3 (bF [(eV 1)]))
  (aD (whD (tTr (eV 3))
  F7 100)
  (sR (eV 2)))))
noncomputable def F8:FS:=
  (sIf (tV (e2 yV (eV 2) (eV 0))) (sE (nv 0 (eV 2))) (nh 0 (eV 2) (eV 3)))
noncomputable def Bq:List Dat→Option (RV×Dat):=fnM 2 2
  (g8 (iS (eV 1)) (bT [2,3])
  F8)
noncomputable def F9:FS:=
  (sE (nv 5 (eV 9)))
noncomputable def F_:FS:=
  (aD (sA 8 (cK (iS (e2 gDx (eF tE [(eFd Bp [(eV 0),(eV 5)]),(eV 2)]) (eV 3))) 1 (bN 10) fJ (e2 gIx (eV 10) (eC (.int 0)))))
  (aD (g8 (iS (eV 8)) (bN 9)
  F9)
  (qE 6 (eV 8))))
noncomputable def zc:List Dat→Option RV:=fn 5 5
  (aD (sA 5 (eB sW [(eV 1)]))
  (aD (sA 6 (bF []))
  (aD (g8 (iR1 (eV 4)) (bN 7)
  F_)
  (sR (eV 6)))))
noncomputable def Ga:FS:=
  (aD (sA 9 (eF tE [(eFd Bo [(eV 5),(eV 6)]),(eV 2)]))
  (sIf (tV (e2 yV (eV 3) (eV 9))) (aD (sE (eFm Bq 6 [(e2 gDx (eV 9) (eV 3))]))
  (sA 8 (e2 cZ (eV 8) (eC (.int 1))))) (sA 7 (eB kI [(eB kP [(eV 9)])]))))
noncomputable def Bs:List Dat→Option RV:=fn 5 5
  (aD (sA 5 (eF EE [(eV 0),(eV 1)]))
  (aD (sA 6 eDn)
  (aD (sA 7 (eC .non))
  (aD (sA 8 (eC (.int 0)))
  (aD (whD (pC (tV (e2 gLt (eV 8) (eV 4))) (tV (e2 AY (eV 7) (eC .non))))
  Ga 100)
  (sR (bE [(eFd zc [(eV 5),(eV 6),(eV 2),(eV 3),(eV 8)]),(eV 7)])))))))
noncomputable def Bt:List Dat→Option RV:=fn 1 0
  (sR (jN (e1 (pH isI) (eV 0)) (yK (e1 (pH isB) (eV 0)))))
noncomputable def kU:List Dat→Option RV:=fn 3 0
  (sR (jN (eF Bt [(eV 0)]) (iF gLe gLe (eV 1) (eV 0) (eV 2))))
noncomputable def vM:List Dat→Option RV:=fn 1 0
  (sR (eF kU [(eV 0),(eC (.int 1)),(eC (.int 10))]))
noncomputable def dF:List Dat→Option RV:=fn 2 0
  (sR (eF kU [(eV 1),(eC (.int 0)),(e2 fR (eV 0) (eC (.int 1)))]))
noncomputable def gy:List Dat→Option RV:=fn 1 0
  (sR (eF kU [(eV 0),(eC (.int 1)),(eC (.int 6))]))
noncomputable def lO:List Dat→Option RV:=fn 1 0
  (sR (eF kU [(eV 0),(eC (.int 0)),(e2 fZ (eC (.int 10)) (eC (.int 30)))]))
noncomputable def j4:List Dat→Option RV:=fn 2 0
  (aD (sIf (tOr (d8 (tV (e1 (pH isT) (eV 1)))) (tV (e2 gNe (eB f9 [(eV 1)]) (eC (.int 3))))) (sR (eC (.bl false))) sNx)
  (sR (jN (eF lO [(e2 gIx (eV 1) (eC (.int 0)))]) (jN (eF dF [(eV 0),(e2 gIx (eV 1) (eC (.int 1)))]) (eF dF [(eV 0),(e2 gIx (eV 1) (eC (.int 2)))])))))
noncomputable def nD:List Dat→Option RV:=fn 2 0
  (sR (jN (eF j4 [(eV 0),(eV 1)]) (e2 gLe (e2 gIx (eV 1) (eC (.int 1))) (e2 gIx (eV 1) (eC (.int 2))))))
noncomputable def xH:List Dat→Option RV:=fn 1 0
  (sR (eB vc [(cK (iR2 (eC (.int 1)) (eB f9 [(eV 0)])) 1 (bN 1) fJ (e2 gLt (e2 gIx (eV 0) (e2 fR (eV 1) (eC (.int 1)))) (e2 gIx (eV 0) (eV 1))))]))
noncomputable def bR:List Dat→Option RV:=fn 3 0
  (sR (jN (eF dF [(eV 0),(eV 1)]) (jN (eF dF [(eV 0),(eV 2)]) (e2 gNe (eV 1) (eV 2)))))
noncomputable def xJ:List Dat→Option RV:=fn 1 0
  (sIf (d8 (tV (eF gy [(eV 0)]))) (fun _=>none) sNx)
noncomputable def tF:List Dat→Option RV:=fn 3 0
  (sIf (d8 (tV (eF bR [(eV 0),(eV 1),(eV 2)]))) (fun _=>none) sNx)
noncomputable def bK:List Dat→Bool:=fnX 3 0
  (rIf (d8 (tV (eF bR [(eV 0),(eV 1),(eV 2)]))) Iv rNo)
noncomputable def xK:List Dat→Option RV:=fn 3 0
  (sR (bZ 0 1 (bN 3) fJ (eIf (tV (e2 gEq (eV 3) (e2 gIx (eV 0) (eV 2)))) (e2 gIx (eV 0) (eV 1)) (eV 3))))
noncomputable def Bu:FS:=
  (sIf (tV (e2 gNe (e2 gIx (eV 4) (eV 1)) (e2 gIx (eV 4) (eV 2)))) (sR (e2 cZ (eV 3) (eC (.int 1)))) sNx)
noncomputable def tG:List Dat→Option RV:=fn 3 2
  (aD (g8 (iEn (eV 0)) (bT [3,4])
  Bu)
  (sR (eC (.int 0))))
noncomputable def Bv:FS:=
  (aD (sA 8 (eF tG [(eV 3),(eV 6),(eV 7)]))
  (aD (sIf (tV (e2 gGt (eV 8) (eC (.int 0)))) (u_ 3 (e2 fR (eV 8) (eC (.int 1))) (eF xK [(e2 gIx (eV 3) (e2 fR (eV 8) (eC (.int 1)))),(eV 6),(eV 7)])) sNx)
  (qE 4 (eV 8))))
noncomputable def qi:List Dat→Option RV:=fn 3 6
  (aD (sE (eF xJ [(eV 2)]))
  (aD (sA 3 (cK (iR1 (eV 2)) 1 (bN 9) fJ (eB p8 [(eV 0)])))
  (aD (sA 4 (bF []))
  (aD (g8 (yT (eV 1)) (bT [5,6,7])
  Bv)
  (sR (e1 m8 (eV 4)))))))
noncomputable def gA:List Dat→Option RV:=fn 2 0
  (aD (sIf (tOr (d8 (tV (eF vM [(eV 0)]))) (tOr (d8 (tV (e1 (pH isL) (eV 1)))) (tV (e2 gGt (eB f9 [(eV 1)]) (eC (.int 60)))))) (sR (eC (.bl false))) sNx)
  (aD (sIf (d8 (tV (eB vc [(bZ 1 1 (bN 2) fJ (eF nD [(eV 0),(eV 2)]))]))) (sR (eC (.bl false))) sNx)
  (sR (eF xH [(bZ 1 1 (bN 2) fJ (e2 gIx (eV 2) (eC (.int 0))))]))))
noncomputable def xM:List Dat→Option RV:=fn 2 0
  (sR (bZ 0 1 (bN 2) (tV (e2 gGe (e2 gIx (eV 2) (eC (.int 0))) (eV 1))) (eV 2)))
noncomputable def bJ:List Dat→Option RV:=fn 1 0
  (aD (sIf (tOr (d8 (tV (e1 (pH isT) (eV 0)))) (tV (e2 gNe (eB f9 [(eV 0)]) (eC (.int 3))))) (sR (eC (.bl false))) sNx)
  (aD (sIf (tOr (d8 (tV (eF gy [(e2 gIx (eV 0) (eC (.int 1)))]))) (d8 (tV (eF gA [(e2 gIx (eV 0) (eC (.int 0))),(e2 gIx (eV 0) (eC (.int 2)))])))) (sR (eC (.bl false))) sNx)
  (sR (e2 kH (eC (.int 0)) (eF qi [(e2 gIx (eV 0) (eC (.int 0))),(e2 gIx (eV 0) (eC (.int 2))),(e2 gIx (eV 0) (eC (.int 1)))])))))
noncomputable def j5:List Dat→Option RV:=fn 1 0
  (sIf (d8 (tV (eF bJ [(eV 0)]))) (fun _=>none) sNx)
noncomputable def bS:List Dat→Bool:=fnX 1 0
  (rIf (d8 (tV (eF bJ [(eV 0)]))) Iv rNo)
noncomputable def xO:List Dat→Option RV:=fn 3 1
  (aD (sA 3 (eF qi [(eV 0),(eV 1),(eV 2)]))
  (sR (bE [(eV 0),(eV 2),(cK (D_ (eV 1) (eV 3)) 2 (bT [4,5]) (tV (e2 gGt (eV 5) (eC (.int 0)))) (eV 4))])))
noncomputable def lP:List Dat→Option RV:=fn 6 1
  (aD (sE (eF tF [(eV 0),(eV 2),(eV 3)]))
  (aD (sA 6 (eF Bs [(eV 0),(eF xM [(eV 1),(eV 5)]),(eV 2),(eV 3),(eV 4)]))
  (sR (bE [(eB f9 [(e2 gIx (eV 6) (eC (.int 0)))]),(e2 gIx (eV 6) (eC (.int 0))),(e2 gIx (eV 6) (eC (.int 1)))]))))
noncomputable def aU:List Dat→Bool:=fnX 6 1
  (cz bK [(eV 0),(eV 2),(eV 3)])
noncomputable def ig:List Dat→Option RV:=fn 4 0
  (aD (sE (eF j5 [(eV 0)]))
  (sR (eF lP [(e2 gIx (eV 0) (eC (.int 0))),(e2 gIx (eV 0) (eC (.int 2))),(eV 1),(eV 2),(e2 gIx (eV 0) (eC (.int 1))),(eV 3)])))
noncomputable def bg:List Dat→Bool:=fnX 4 0
  (s_ (sE (eF j5 [(eV 0)])) (cz aU [(e2 gIx (eV 0) (eC (.int 0))),(e2 gIx (eV 0) (eC (.int 2))),(eV 1),(eV 2),(e2 gIx (eV 0) (eC (.int 1))),(eV 3)]))
noncomputable def cU:List Dat→Bool:=fnX 4 0
  (cz bS [(eV 0)])
noncomputable def Bw:FS:=
  (aD (sA 3 (e2 iE (e2 cZ (e2 cZ (e2 iC (eV 3) (eC (.int 48271))) (e2 iC (eC (.int 7919)) (eV 5))) (eC (.int 3))) (eC (.int 2147483629))))
  (aD (sA 3 (e2 iE (e2 iC (eV 3) (eV 3)) (eC (.int 2147483587))))
  (sA 4 (e2 cZ (e2 iC (eV 4) (eC (.int 2147483587))) (e2 iE (e2 cZ (e2 iC (eV 3) (eC (.int 69621))) (eV 1)) (eC (.int 2147483587)))))))
noncomputable def nE:List Dat→Option RV:=fn 2 4
  (aD (sA 2 (eC (.int 0)))
  (aD (sIf (tV (e2 gLt (eV 1) (eB f9 [(eV 0)]))) (sA 2 (e2 gIx (eV 0) (eV 1))) sNx)
  (aD (sIf (tV (e2 gGe (eV 2) (e2 fZ (eC (.int 10)) (eC (.int 18))))) (sR (bF [(e2 iE (eV 2) (e2 jW (e2 jW (e2 jW (e2 jW (e2 fZ (eC (.int 10)) (eC (.int 60))) (e2 fZ (eC (.int 10)) (eC (.int 60)))) (e2 fZ (eC (.int 10)) (eC (.int 60)))) (e2 fZ (eC (.int 10)) (eC (.int 60)))) (e2 fZ (eC (.int 10)) (eC (.int 60)))))])) sNx)
  (aD (sA 3 (e2 iE (e2 cZ (e2 cZ (e2 cZ (eV 2) (e2 iC (e2 iC (eC (.int 104729)) (eV 1)) (eV 1))) (e2 iC (eC (.int 7)) (eV 1))) (eC (.int 11))) (eC (.int 2147483647))))
  (aD (sA 4 (eC (.int 0)))
  (aD (g8 (iR1 (eC (.int 40))) (bN 5)
  Bw)
  (sR (bF [(eV 4)]))))))))
noncomputable def b9:List Dat→Option (RV×Dat):=fnM 2 1
  (aD (sA 2 (e2 iE (e2 gIx (eV 0) (eC (.int 0))) (eV 1)))
  (aD (u_ 0 (eC (.int 0)) (e2 yL (e2 gIx (eV 0) (eC (.int 0))) (eV 1)))
  (sR (eV 2))))
noncomputable def tH:List Dat→Option (RV×Dat):=fnM 1 0
  (sR (e2 gIx (bF [(eC (.int 1)),(eC (.int 2)),(eC (.int 3)),(eC (.int 4)),(eC (.int 5)),(eC (.int 6)),(eC (.int 4)),(eC (.int 10))]) (eFm b9 0 [(eC (.int 8))])))
noncomputable def Bx:FS:=
  (aD (sA 11 (eFm b9 0 [(eV 1)]))
  (aD (sA 12 (eFm b9 0 [(eV 1)]))
  (aD (sIf (tV (e2 gEq (eV 7) (eC (.int 1)))) (sA 12 (e2 iE (e2 cZ (eV 11) (eC (.int 1))) (eV 1))) sNx)
  (aD (sIf (tV (e2 gEq (eV 7) (eC (.int 2)))) (sA 12 (e2 iE (e2 iE (e2 cZ (e2 cZ (eV 11) (e2 iE (eV 12) (eC (.int 2)))) (eC (.int 1))) (eB mT [(eV 1),(eC (.int 3))])) (eV 1))) sNx)
  (aD (qE 9 (bE [(eV 8),(eB mT [(eV 11),(eV 12)]),(eB pY [(eV 11),(eV 12)])]))
  (sA 8 (e2 cZ (e2 cZ (eV 8) (eC (.int 1))) (e2 iC (eFm b9 0 [(eV 5)]) (eV 6)))))))))
noncomputable def tL:List Dat→Option (RV×Dat):=fnM 3 10
  (aD (sA 3 (eFm b9 0 [(e2 cZ (eV 2) (eC (.int 1)))]))
  (aD (sA 4 (eFm b9 0 [(eC (.int 4))]))
  (aD (sA 5 (e2 gIx (bF [(eC (.int 1)),(eC (.int 3)),(e2 fZ (eC (.int 10)) (eC (.int 6))),(eC (.int 1000))]) (eV 4)))
  (aD (sA 6 (e2 gIx (bF [(eC (.int 1)),(e2 fZ (eC (.int 10)) (eC (.int 25)))]) (eB Af [(e2 gEq (eV 4) (eC (.int 3)))])))
  (aD (sA 7 (eFm b9 0 [(eC (.int 4))]))
  (aD (sA 8 (e2 iC (eFm b9 0 [(eV 5)]) (eV 6)))
  (aD (sA 9 (bF []))
  (aD (g8 (iR1 (eV 3)) (bN 10)
  Bx)
  (sR (eV 9))))))))))
noncomputable def tM:List Dat→Option (RV×Dat):=fnM 1 1
  (aD (sA 1 (bF [(eC .non),(eC (.bl true)),(eC (.bl false)),(eC (.str [48])),(bF [(eC (.int 0))]),(bE [(eC (.int 0))]),(e2 fR (e2 fR (eC (.int 0)) (eC (.int 1))) (eFm b9 0 [(e2 fZ (eC (.int 10)) (eC (.int 12)))])),(e2 cZ (eC (.int 10)) (eFm b9 0 [(e2 fZ (eC (.int 10)) (eC (.int 12)))])),(eC (.str []))]))
  (sR (e2 gIx (eV 1) (eFm b9 0 [(eB f9 [(eV 1)])]))))
noncomputable def tN:List Dat→Option (RV×Dat):=fnM 2 4
  (aD (sU [2,3,4] (eV 1))
  (aD (sA 5 (bF [(eC .non),(bF []),(bE []),(eB su [(eV 1)]),(bE [(eV 2),(eV 3)]),(bE [(eV 2),(eV 3),(eV 4),(eC (.int 0))]),(bE [(eC (.bl true)),(eV 3),(bF [])]),(bE [(eV 2),(eC (.bl true)),(bF [])]),(bE [(eC (.int 0)),(eV 3),(bF [])]),(bE [(eV 2),(eC (.int 0)),(bF [])])]))
  (aD (sA 5 (e2 cZ (eV 5) (bF [(bE [(eC (.int 11)),(eV 3),(bF [])]),(bE [(eV 2),(eC (.int 7)),(bF [])]),(bE [(eV 2),(eV 3),(eC .non)]),(bE [(eV 2),(eV 3),(e2 sZ (eB kI [(eV 4)]) (bE [(eC (.int 0))]))]),(bE [(eV 2),(eV 3),(bF [(bE [(eC (.int 0)),(eC (.int 0)),(eC (.int 0))])])]),(eC (.str [110,101,116]))])))
  (aD (sA 5 (e2 cZ (eV 5) (bF [(bE [(eV 2),(eV 3),(bF [(bE [(eC (.int 3)),(eC (.int 0)),(eV 2)])])]),(bE [(eV 2),(eV 3),(bF [(bE [(e2 fR (eC (.int 0)) (eC (.int 1))),(eC (.int 0)),(eC (.int 0))])])]),(bE [(eV 2),(eV 3),(bF [(bF [(eC (.int 1)),(eC (.int 0)),(eC (.int 0))])])]),(bE [(eV 2),(eC (.int 1)),(bF [(bE [(eC (.int 1)),(eC (.int 0)),(eC (.int 0))]),(bE [(eC (.int 2)),(eC (.int 0)),(eC (.int 0))])])])])))
  (sR (e2 gIx (eV 5) (eFm b9 0 [(eB f9 [(eV 5)])])))))))
noncomputable def nF (aM aX:Nat):List Dat→Option RV:=fn 6 2
  (aD (sUn (sIf (tV (e2 gEq (eV 0) (eC (.int 0)))) (sE (eF (fun ds=>lP (ds++[.int 0])) [(eV 1),(eV 2),(eV 4),(eV 5),(eC (.int 2))])) (sE (eF (fun ds=>ig (ds++[.int 0])) [(eV 3),(eV 4),(eV 5)]))) (sUn (jX (rIf (tV (e2 gEq (eV 0) (eC (.int 0)))) (cz (fun ds=>aU (ds++[.int 0])) [(eV 1),(eV 2),(eV 4),(eV 5),(eC (.int 2))]) (cz (fun ds=>bg (ds++[.int 0])) [(eV 3),(eV 4),(eV 5)])) aM 6 (aD (sA 7 (e1 (cL [aM,aX] [false,false]) (eV 6)))
  (sR (bF [(e1 (cL [aM,aX] [true,false]) (eV 6)),(e1 (cL [aM,aX] [false,true]) (eV 6)),(e1 (cL [aM,aX] [true,true]) (eV 6)),(eV 7)])))) (jX (rIf (tV (e2 gEq (eV 0) (eC (.int 0)))) rNo (cz (fun ds=>cU (ds++[.int 0])) [(eV 3),(eV 4),(eV 5)])) aX 6 (aD (sA 7 (e1 (cL [aM,aX] [false,false]) (eV 6)))
  (sR (bF [(e1 (cL [aM,aX] [true,false]) (eV 6)),(e1 (cL [aM,aX] [false,true]) (eV 6)),(e1 (cL [aM,aX] [true,true]) (eV 6)),(eV 7)]))))))
  (sR (bF [])))
noncomputable def tO:List Dat→Option (RV×Dat):=fnM 2 2
  (aD (sA 2 (eFm tM 0 []))
  (aD (sA 3 (eFm b9 0 [(eV 1)]))
  (sR (e2 gIx (bF [(bE [(eV 2),(eV 3)]),(bE [(eV 3),(eV 2)]),(bE [(eV 3),(eV 3)]),(bE [(eV 1),(eV 3)]),(bE [(eV 3),(eV 1)]),(bE [(eV 2),(eV 2)])]) (eFm b9 0 [(eC (.int 6))])))))
noncomputable def By (aM aX:Nat):FS:=
  (sIf (tV (e2 gNe (eF (nF aM aX) [(eV 9),(eV 2),(eV 4),(eV 5),(eV 7),(eV 8)]) (bF [(eC (.bl true)),(eC (.bl false)),(eC (.bl true)),(eC (.bl false))]))) (sR (eC (.bl false))) sNx)
noncomputable def BA (aM aX:Nat):FS:=
  (sIf (tV (e2 gNe (eF (nF aM aX) [(eC (.int 1)),(eV 2),(eV 4),(eV 10),(eV 11),(eV 12)]) (bF [(eC (.bl false)),(eC (.bl true)),(eC (.bl true)),(eC (.bl false))]))) (sR (eC (.bl false))) sNx)
noncomputable def vN (aM aX:Nat):FS:=
  (aD (sA 1 (eF nE [(eV 0),(eV 6)]))
  (aD (sU [7,8] (eFm tO 1 [(eV 2)]))
  (aD (g8 (iR1 (eC (.int 2))) (bN 9)
  (By aM aX))
  (aD (sA 10 (eFm tN 1 [(eV 5)]))
  (g8 (iS (bF [(bE [(eV 7),(eV 8)]),(bE [(eC (.int 0)),(e2 fR (eV 2) (eC (.int 1)))])])) (bT [11,12])
  (BA aM aX))))))
noncomputable def nG (aM aX:Nat):List Dat→Option RV:=fn 1 12
  (aD (sA 1 (eF nE [(eV 0),(eC (.int 12))]))
  (aD (sA 2 (eFm tH 1 []))
  (aD (sA 3 (e2 cZ (eC (.int 1)) (eFm b9 1 [(eC (.int 6))])))
  (aD (sA 4 (eFn tL (eF nE [(eV 0),(eC (.int 13))]) [(eV 2),(eC (.int 10))]))
  (aD (sA 5 (eF xO [(eV 2),(eV 4),(eV 3)]))
  (aD (g8 (iR1 (eB pY [(eC (.int 1)),(eB mT [(eB f9 [(eV 0)]),(eC (.int 12))])])) (bN 6)
  (vN aM aX))
  (sR (eOr (e2 gEq (eV 2) (eC (.int 1))) (e2 gEq (eF (fun ds=>ig (ds++[.int 0])) [(eV 5),(eC (.int 0)),(e2 fR (eV 2) (eC (.int 1)))]) (eF ig [(eV 5),(eC (.int 0)),(e2 fR (eV 2) (eC (.int 1))),(eC (.int 0))]))))))))))
end P
local macro_rules | `(tactic| array_get_dec)=>`(tactic| first | with_reducible refine Dm.Ws.seq ?_ | with_reducible refine Dm.We.e2 ?_ | ((with_reducible apply Dm.We.v);(focus rfl)) | ((with_reducible apply Dm.We.w);(focus rfl)) | with_reducible refine Dm.We.c ?_ | (refine Dm.WA.val ?_ (by first | (dsimp only [List.set];first | done | rfl) | rfl)) | (refine Dm.WA.new ?_ (by first | (dsimp only [List.set];first | done | rfl) | rfl)) | (refine Dm.WA.slot ?_ rfl (by first | (dsimp only [List.set];first | done | rfl) | rfl)) | with_reducible refine Dm.Ws.A ?_ (by decide) | with_reducible refine Dm.Ws.If ?_ | with_reducible refine Dm.Wt.V ?_ | with_reducible refine Dm.Wt.Not ?_ | with_reducible refine Dm.Wt.And ?_ | with_reducible refine Dm.Wt.Or ?_ | with_reducible refine Dm.Wt.T ?_ | (refine Dm.Wb.mk ?_) | (refine Dm.dJ.mk ?_) | with_reducible refine Dm.Wif.t ?_ | with_reducible refine Dm.Wif.f ?_ | with_reducible refine Dm.Was.nil ?_ | with_reducible refine Dm.Was.cons ?_ | with_reducible refine Dm.We.B ?_ | with_reducible refine Dm.We.F ?_ | with_reducible refine Dm.We.T ?_ | with_reducible refine Dm.We.L ?_ | with_reducible refine Dm.We.e1 ?_ | with_reducible refine Dm.We.If ?_ | with_reducible refine Dm.We.And ?_ | with_reducible refine Dm.We.Or ?_ | with_reducible refine Dm.We.Not ?_ | with_reducible refine Dm.We.Sl ?_ | with_reducible refine Dm.We.SlT ?_ | with_reducible refine Dm.Wp.none ?_ | with_reducible refine Dm.Wp.some ?_ | (refine Dm.Wsl.A (enc:=Dm.Dat.int) ?_ rfl) | (refine Dm.Wsl.mk ?_ rfl) | (refine Dm.WT.mk ?_ rfl (by first | (dsimp only [List.set];first | done | rfl) | rfl) (by exact Nat.le_of_ble_eq_true rfl)) | (refine Dm.Wk.val ?_) | (refine Dm.Wk.new ?_) | (refine Dm.Wk.slot ?_ rfl (by first | (dsimp only [List.set];first | done | rfl) | rfl)) | with_reducible refine Dm.We.Dn ?_ | with_reducible refine Dm.We.D1 ?_ | with_reducible refine Dm.Ws.IW ?_ | (refine Dm.N6 ?_ rfl) | (refine Dm.vJ rfl ?_) | (refine Dm.qX ?_ rfl (by first | (dsimp only [List.set];first | done | rfl) | rfl) ?_) | (refine Dm.Ws.App ?_ rfl) | (refine Dm.nB ?_ rfl (by first | (dsimp only [List.set];first | done | rfl) | rfl) ?_) | with_reducible refine Dm.Ws.U ?_ | (refine Dm.NG ?_ rfl (by first | (dsimp only [List.set];first | done | rfl) | rfl)) | with_reducible refine Dm.Ws.R ?_ | (refine Dm.WR.new ?_) | (refine Dm.WR.val ?_) | (refine Dm.WR.slot ?_ rfl) | with_reducible refine Dm.Ws.nx ?_ | with_reducible refine Dm.Ws.bk ?_ | with_reducible refine Dm.Ws.ct ?_ | with_reducible refine Dm.Ws.E ?_ | with_reducible refine Dm.Ws.For ?_ | with_reducible refine Dm.Wi.S ?_ | with_reducible refine Dm.Wi.L ?_ | with_reducible refine Dm.Wi.R1 ?_ | with_reducible refine Dm.Wi.R2 ?_ | (refine Dm.jZ ?_) | (refine Dm.MQ ?_) | (refine Dm.Wg2.eq ?_ rfl rfl) | (refine Dm.Wg2.ne ?_ rfl rfl) | (refine Dm.Wg2.N1 ?_ rfl rfl ?_) | (refine Dm.Wg2.N2 ?_ rfl rfl ?_) | (refine Dm.Wg2.eqb ?_ rfl rfl) | (refine Dm.Wg2.neb ?_ rfl rfl) | (refine Dm.Wg2.NH ?_ rfl rfl) | (refine Dm.Wg2.isb ?_ rfl rfl) | (refine Dm.Wg2.lt ?_ rfl rfl) | (refine Dm.Wg2.le ?_ rfl rfl) | (refine Dm.Wg2.gt ?_ rfl rfl) | (refine Dm.Wg2.ge ?_ rfl rfl) | (refine Dm.Wg2.add ?_ rfl rfl) | (refine Dm.Wg2.N7 ?_ rfl rfl ?_) | (refine Dm.Wg2.N3 ?_ rfl rfl ?_) | (refine Dm.Wg2.EC ?_ rfl rfl ?_) | (refine Dm.Wg2.sub ?_ rfl rfl) | (refine Dm.Wg2.mul ?_ rfl rfl (by first | exact Or.inl (by decide) | exact Or.inr (by decide))) | (refine Dm.Wg2.mul ?_ rfl rfl ?_) | (refine Dm.Wg2.div ?_ rfl rfl (by decide)) | (refine Dm.Wg2.div ?_ rfl rfl ?_) | (refine Dm.Wg2.mod ?_ rfl rfl (by decide)) | (refine Dm.Wg2.mod ?_ rfl rfl ?_) | (refine Dm.Wg2.din ?_ rfl rfl) | (refine Dm.Wg2.LW ?_ rfl rfl) | (refine Dm.Wg2.inP ?_ rfl rfl) | (refine Dm.Wg2.N8 ?_ rfl rfl) | (refine Dm.Wg2.ix ?_ rfl rfl rfl) | (refine Dm.WB.IY (enc:=Dm.Dat.int) ?_ rfl) | (refine Dm.WB.len ?_ rfl) | (refine Dm.WB.vH ?_ rfl) | (refine Dm.WB.min2 ?_ rfl) | (refine Dm.WB.max2 ?_ rfl) | (refine Dm.WB.list ?_ rfl) | (refine Dm.WB.int ?_ rfl) | (refine Dm.WB.sum2 ?_ rfl ?_) | (refine Dm.Wg1.N9 (enc:=Dm.Dat.int) ?_ rfl) | (refine Dm.Wg1.mk ?_ rfl rfl))
namespace P
open Dm Fl
noncomputable def dh (t:Tie):Dat:=.tup [.int t.m,.int t.a,.int t.b]
noncomputable def aV (r:List Tie):Dat:=.lst (r.map dh)
noncomputable def bY (s:Step):Dat:=.tup [.int s.1,.int s.2]
noncomputable def cP (w:List Step):Dat:=.lst (w.map bY)
noncomputable def Pl (n:Nat) (r:List Tie):Prop:=∀ t∈r,0≤t.a∧t.a<n∧0≤t.b∧t.b<n
noncomputable def cQ (x:Int) (t:Tie):Option Step:=if t.a=t.b then none else if t.a=x then some (t.m,t.b) else if t.b=x then some (t.m,t.a) else none
noncomputable def aE (r:List Tie) (x:Int):List Step:=r.filterMap (cQ x)
noncomputable def cA (n:Nat) (r:List Tie):List (List Dat):=(List.range n).map fun i:Nat=>(aE r i).map bY
theorem xQ {i e:FE} {ρ ρ1 ρ2 ρ3:Env} {rows:List (List Dat)} {k:Int} {m:Nat} {row:List Dat} {x:Val} {d:Dat} (h1:i ρ=some (.val (.int k),ρ1)) (h2:ixN rows.length k=some m) (h3:rows[m]?=some row) (h4:e ρ1=some (x,ρ2)) (h5:tk ρ2 x=some (d,ρ3)) (h6:row.length<SZ) :
  vA i e ρ rows=some (ρ3,rows.set m (row++[d])):=by
 unfold vA
 rw [h1]
 dsimp only
 rw [h2]
 dsimp only
 rw [h3]
 dsimp only
 rw [h4]
 dsimp only
 rw [h5]
 dsimp only
 rw [if_pos h6]
theorem j6 (r:List Tie) (t:Tie) (x:Int):aE (r++[t]) x=aE r x++(cQ x t).toList:=by
 unfold aE
 rw [List.filterMap_append]
 cases h:cQ x t with
 | none=>simp [h]
 | some s=>simp [h]
theorem BB {n:Nat} {k:Int} (h0:0≤k) (h1:k<n):ixN n k=some k.toNat:=by
 unfold ixN
 rw [if_pos h0,if_pos h1]
theorem gZ (n:Nat) (r:List Tie) (i:Nat) (h:i<n):(cA n r)[i]?=some ((aE r i).map bY):=by
 unfold cA
 rw [List.getElem?_map,List.getElem?_range h]
 rfl
theorem dQ (n:Nat) (r:List Tie):(cA n r).length=n:=by simp [cA]
theorem ee (r:List Tie) (x:Int):(aE r x).length≤r.length:=List.length_filterMap_le _ _
theorem vO (n:Nat) (r:List Tie) (t:Tie) (h:t.a≠t.b) (a0:0≤t.a) (a1:t.a<n) (b0:0≤t.b) (b1:t.b<n) :
  ((cA n r).set t.a.toNat ((aE r t.a).map bY++[bY (t.m,t.b)])).set t.b.toNat ((aE r t.b).map bY++[bY (t.m,t.a)])=cA n (r++[t]):=by
 apply List.ext_getElem?
 intro i
 by_cases hi:i<n
 ·rw [gZ _ _ _ hi,j6,List.map_append]
  by_cases eb:t.b.toNat=i
  ·have e:(i:Int)=t.b:=by omega
   rw [← eb,List.getElem?_set_self (by rw [List.length_set,dQ];omega),eb,e]
   have:cQ t.b t=some (t.m,t.a):=by unfold cQ;rw [if_neg h,if_neg (fun z=>h z),if_pos rfl]
   rw [this]
   rfl
  ·rw [List.getElem?_set_ne eb]
   by_cases ea:t.a.toNat=i
   ·have e:(i:Int)=t.a:=by omega
    rw [← ea,List.getElem?_set_self (by rw [dQ];omega),ea,e]
    have:cQ t.a t=some (t.m,t.b):=by unfold cQ;rw [if_neg h,if_pos rfl]
    rw [this]
    rfl
   ·rw [List.getElem?_set_ne ea,gZ _ _ _ hi]
    have:cQ i t=none:=by unfold cQ;rw [if_neg h,if_neg (by omega),if_neg (by omega)]
    rw [this]
    simp
 ·rw [List.getElem?_eq_none (by rw [List.length_set,List.length_set,dQ];omega),List.getElem?_eq_none (by rw [dQ];omega)]
theorem vP (n:Nat) (r:List Tie) (t:Tie) (h:t.a=t.b):cA n (r++[t])=cA n r:=by
 unfold cA
 apply List.map_congr_left
 intro i _
 rw [j6]
 have:cQ i t=none:=by unfold cQ;rw [if_pos h]
 rw [this]
 simp
theorem zd (n:Nat) (r:List Tie) (t:Tie) (hl:r.length<1000) (a0:0≤t.a) (a1:t.a<n) (b0:0≤t.b) (b1:t.b<n) (c0 c1 c2:Cell) :
  j3 [c0,c1,c2,.sh (.int t.m),.sh (.int t.a),.sh (.int t.b)] (cA n r)=some ([c0,c1,c2,.sh (.int t.m),.sh (.int t.a),.sh (.int t.b)],cA n (r++[t])):=by
 have ht:tV (e2 gNe (eV 4) (eV 5)) [c0,c1,c2,.sh (.int t.m),.sh (.int t.a),.sh (.int t.b)]=some (!decide (t.a=t.b),[c0,c1,c2,.sh (.int t.m),.sh (.int t.a),.sh (.int t.b)]):=by
  unfold tV e2 eV
  simp [pk,qY,RV.bG]
 unfold j3 nIf
 rw [ht]
 by_cases h:t.a=t.b
 ·rw [decide_eq_true h]
  rw [vP n r t h]
  rfl
 ·rw [decide_eq_false h]
  show yY _ _ _ _=_
  unfold yY
  have k1:=(ee r t.a)
  have k2:=(ee r t.b)
  have hz:SZ=100000:=rfl
  have ea:((t.a.toNat:Nat):Int)=t.a:=by omega
  have eb:((t.b.toNat:Nat):Int)=t.b:=by omega
  rw [xQ (k:=t.a) (m:=t.a.toNat) (row:=(aE r t.a).map bY) (d:=bY (t.m,t.b)) (ρ3:=[c0,c1,c2,.sh (.int t.m),.sh (.int t.a),.sh (.int t.b)]) rfl (by rw [dQ];exact BB a0 a1) (by rw [gZ _ _ _ (by omega),ea]) rfl rfl (by rw [List.length_map];omega)]
  dsimp only
  rw [xQ (k:=t.b) (m:=t.b.toNat) (row:=(aE r t.b).map bY) (d:=bY (t.m,t.a)) (ρ3:=[c0,c1,c2,.sh (.int t.m),.sh (.int t.a),.sh (.int t.b)]) rfl (by rw [List.length_set,dQ];exact BB b0 b1)
   (by rw [List.getElem?_set_ne (by omega),gZ _ _ _ (by omega),eb]) rfl rfl (by rw [List.length_map];omega)]
  rw [vO n r t h a0 a1 b0 b1]
theorem nI (n:Nat) (c0 c1 c2:Cell):∀ (q p:List Tie) (c3 c4 c5:Cell),Pl n q→p.length+q.length≤1000 →
  ∃ c3' c4' c5',lH (bT [3,4,5]) j3 (q.map dh) [c0,c1,c2,c3,c4,c5] (cA n p)=some ([c0,c1,c2,c3',c4',c5'],cA n (p++q))
 | [],p,c3,c4,c5,_,_=>⟨c3,c4,c5,by rw [List.append_nil];rfl⟩
 | t::q,p,c3,c4,c5,hp,hl=>by
  obtain ⟨a0,a1,b0,b1⟩:=hp t List.mem_cons_self
  rw [List.length_cons] at hl
  obtain ⟨c3',c4',c5',e⟩:=nI n c0 c1 c2 q (p++[t]) (.sh (.int t.m)) (.sh (.int t.a)) (.sh (.int t.b)) (fun u hu=>hp u (List.mem_cons_of_mem _ hu)) (by rw [List.length_append,List.length_singleton];omega)
  refine ⟨c3',c4',c5',?_⟩
  rw [List.map_cons,lH]
  show (match j3 [c0,c1,c2,.sh (.int t.m),.sh (.int t.a),.sh (.int t.b)] (cA n p) with | none=>none | some (ρ2,r2)=>lH (bT [3,4,5]) j3 (q.map dh) ρ2 r2)=_
  rw [zd n p t (by omega) a0 a1 b0 b1]
  dsimp only
  rw [e,List.append_assoc]
  rfl
theorem BC (pre:Env) (k:Nat) (hk:pre.length=k) (h0:k≠0):∀ (ds:List Dat) (c:Cell),∃ c',nMk (bN k) ds (pre++[c])=some (pre++[c'])
 | [],c=>⟨c,rfl⟩
 | d::ds,c=>by
  obtain ⟨c',e⟩:=BC pre k hk h0 ds (.sh d)
  refine ⟨c',?_⟩
  rw [nMk]
  have:bN k d (pre++[c])=some (pre++[.sh d]):=by
   unfold bN
   rw [if_neg h0,List.set_append_right _ _ (by omega)]
   simp [hk]
  rw [this]
  exact e
noncomputable def bP (n:Nat) (R:Int→List Step):Dat:=.lst ((List.range n).map fun i:Nat=>cP (R i))
theorem tP (n:Nat) (hn:n≤1000) (r:List Tie) (hr:Pl n r) (hl:r.length≤1000):EE [.int n,aV r]=some (.new (bP n (aE r))):=by
 obtain ⟨c3,c4,c5,e⟩:=nI n (.sh (.int n)) (.sh (aV r)) .un r [] .un .un .un hr (by simpa using hl)
 obtain ⟨c',e2⟩:=BC [.sh (.int n),.sh (aV r),.un,.un,.un,.un] 6 rfl (by decide) (ups 0 n) .un
 have h0:cA n []=List.replicate n []:=by
  unfold cA aE
  apply List.ext_getElem?
  intro i
  by_cases hi:i<n
  ·rw [List.getElem?_map,List.getElem?_range hi,List.getElem?_replicate,if_pos hi]
   rfl
  ·rw [List.getElem?_eq_none (by simp;omega),List.getElem?_eq_none (by simp;omega)]
 have hu:(ups 0 n).length=n:=by simp [ups]
 have e1:iR1 (eV 0) [.sh (.int n),.sh (aV r),.un,.un,.un,.un]=some (ups 0 n,[.sh (.int n),.sh (aV r),.un,.un,.un,.un]):=by
  show (if (n:Int)≤BIG∧-BIG≤(n:Int) then some (ups 0 (n:Int).toNat,_) else none)=_
  rw [if_pos (by unfold BIG;omega)]
  rfl
 rw [h0,List.nil_append] at e
 have en:nu 2 (iR1 (eV 0)) 1 (bN 6) (vC (iS (eV 1)) (bT [3,4,5]) j3) [.sh (.int n),.sh (aV r),.un,.un,.un,.un]=some (.nx [.sh (.int n),.sh (aV r),.ow (bP n (aE r)),c3,c4,c5]):=by
  unfold nu
  rw [if_neg (by decide),e1]
  dsimp only
  rw [if_pos (by rw [hu];unfold SZ;omega)]
  show (match nMk (bN 6) (ups 0 n) ([.sh (.int n),.sh (aV r),.un,.un,.un,.un]++[.un]) with | none=>none | some ρ2=>_)=_
  rw [e2]
  dsimp only
  rw [hu]
  show (match vC (iS (eV 1)) (bT [3,4,5]) j3 [.sh (.int n),.sh (aV r),.un,.un,.un,.un] (List.replicate n []) with | none=>none | some (ρ3,r3)=>_)=_
  have:vC (iS (eV 1)) (bT [3,4,5]) j3 [.sh (.int n),.sh (aV r),.un,.un,.un,.un] (List.replicate n [])=some ([.sh (.int n),.sh (aV r),.un,c3,c4,c5],cA n r):=e
  rw [this]
  have e3:(cA n r).map Dat.lst=(List.range n).map fun i:Nat=>cP (aE r i):=by
   unfold cA
   rw [List.map_map]
   rfl
  show some (Out.nx [.sh (.int n),.sh (aV r),.ow (.lst ((cA n r).map Dat.lst)),c3,c4,c5])=_
  rw [e3]
  rfl
 apply Wr.eq
 unfold EE
 (refine Dm.Wr.fn ?_ rfl rfl;dsimp only [List.map,List.replicate,List.cons_append,List.nil_append])
 refine Ws.seq ⟨_,en,?_⟩
 refine Ws.R (We.w rfl (WR.slot ?_ rfl))
 rfl
noncomputable def hdF (h:List (Int×Int)):Hd:=fun m=>(h.find? fun e=>decide (e.1=m)).map (·.2)
noncomputable def hk (h:List (Int×Int)):List Int:=h.map (·.1)
noncomputable def hv (h:List (Int×Int)):List Dat:=h.map fun e=>Dat.int e.2
noncomputable def bC (h:List (Int×Int)):Dat:=.dct (hk h) (hv h)
theorem mw (h:List (Int×Int)) (m:Int):bO (hk h) (hv h) m=(hdF h m).map Dat.int:=by
 unfold hk hv hdF
 induction h with
 | nil=>rfl
 | cons e h ih=>
  rw [List.map_cons,List.map_cons,bO,List.find?_cons]
  by_cases q:e.1=m
  ·rw [if_pos q,decide_eq_true q];rfl
  ·rw [if_neg q,decide_eq_false q];exact ih
theorem qZ {h:List (Int×Int)} {m:Int}:(hdF h m).isSome=decide (m∈hk h):=by
 unfold hdF hk
 induction h with
 | nil=>rfl
 | cons e h ih=>
  rw [List.find?_cons]
  by_cases q:e.1=m
  ·rw [decide_eq_true q];simp [q]
  ·rw [decide_eq_false q]
   have q':¬ m=e.1:=fun z=>q z.symm
   simp only [List.map_cons,List.mem_cons,q',false_or]
   exact ih
theorem IZ (o:Option Int) (y:Int):gNe ((o.map Dat.int).getD .non) (.int y)=vB (!decide (o=some y)):=by
 cases o with
 | none=>rfl
 | some z=>
  show gNe (.int z) (.int y)=_
  rw [qY]
  have:(z=y)=(some z=some y):=by simp
  simp only [this]
theorem I0 (o:Option Int) (y:Int):gEq ((o.map Dat.int).getD .non) (.int y)=vB (decide (o=some y)):=by
 cases o with
 | none=>rfl
 | some z=>
  show gEq (.int z) (.int y)=_
  rw [xG]
  have:(z=y)=(some z=some y):=by simp
  simp only [this]
noncomputable def tQ (h:List (Int×Int)) (R:Int→List Step):Int→List Step:=fun x=>(R x).filter fun s=>!decide (hdF h s.1=some s.2)
noncomputable def tR (h:List (Int×Int)) (R:Int→List Step):Int→List Step:=fun x=>(R x).filter fun s=>decide (hdF h s.1=some s.2)
theorem xR (g:Dat→Dat→Option RV) (p:Option Int→Int→Bool) (hg:∀ o y,g ((o.map Dat.int).getD .non) (.int y)=vB (p o y)) (h:List (Int×Int)) (A:Cell) (w:List Step) (hl:w.length≤1000) :
  We (bZ 2 1 (bN 3) (tV (e2 g (lD (eV 1) (e2 gIx (eV 3) (eC (.int 0)))) (e2 gIx (eV 3) (eC (.int 1))))) (eV 3)) [A,.sh (bC h),.sh (cP w)] fun v ρ'=>Wk ρ' v fun d ρ''=>d=cP (w.filter fun s=>p (hdF h s.1) s.2)∧ρ''=[A,.sh (bC h),.sh (cP w)]:=by
 refine We.LU bY w (fun s=>p (hdF h s.1) s.2) id bY (d:=cP w) ?_ rfl rfl rfl (by decide) (by unfold SZ;omega) (fun s _=>?_) fun s _ _=>?_
 ·rw [List.map_id]
  exact Wk.new ⟨rfl,rfl⟩
 ·refine Wt.V (We.e2 (We.ND (We.v rfl ⟨⟨_,_,rfl⟩,We.e2 (We.v rfl (We.c (Wg2.ix ?_ rfl rfl rfl)))⟩)))
  refine ⟨hk h,hv h,s.1,rfl,rfl,We.e2 (We.v rfl (We.c (Wg2.ix ?_ rfl rfl rfl)))⟩
  refine ⟨_,_,_,rfl,rfl,(by rw [mw];exact hg _ _),?_⟩
  exact Wb.mk ⟨rfl,rfl⟩
 ·exact We.v rfl (Wk.val ⟨rfl,rfl⟩)
theorem ir (n:Nat) (hn:n≤1000) (R:Int→List Step) (hR:∀ i:Nat,i<n→(R i).length≤1000) (h:List (Int×Int)):Bo [bP n R,bC h]=some (.new (bP n (tQ h R))):=by
 apply Wr.eq
 unfold Bo
 (refine Dm.Wr.fn ?_ rfl rfl;dsimp only [List.map,List.replicate,List.cons_append,List.nil_append])
 refine Ws.R ?_
 refine We.y_ (fun i:Nat=>cP (R i)) (List.range n) id (fun i:Nat=>cP (tQ h R i)) (d:=bP n R) ?_ rfl rfl rfl (by decide) (by rw [List.length_range];unfold SZ;omega) fun i hi=>?_
 ·rw [List.map_id];rfl
 ·exact xR gNe (fun o y=>!decide (o=some y)) IZ h _ (R i) (hR i (List.mem_range.mp hi))
theorem q_ (n:Nat) (hn:n≤1000) (R:Int→List Step) (hR:∀ i:Nat,i<n→(R i).length≤1000) (h:List (Int×Int)):Bp [bP n R,bC h]=some (.new (bP n (tR h R))):=by
 apply Wr.eq
 unfold Bp
 (refine Dm.Wr.fn ?_ rfl rfl;dsimp only [List.map,List.replicate,List.cons_append,List.nil_append])
 refine Ws.R ?_
 refine We.y_ (fun i:Nat=>cP (R i)) (List.range n) id (fun i:Nat=>cP (tR h R i)) (d:=bP n R) ?_ rfl rfl rfl (by decide) (by rw [List.length_range];unfold SZ;omega) fun i hi=>?_
 ·rw [List.map_id];rfl
 ·exact xR gEq (fun o y=>decide (o=some y)) I0 h _ (R i) (hR i (List.mem_range.mp hi))
theorem EF (ks:List Int) (i:Int):(ks.any fun k=>decide (k=i))=decide (i∈ks):=by
 induction ks with
 | nil=>rfl
 | cons k ks ih=>
  rw [List.any_cons,ih]
  by_cases h:k=i
  ·simp [h]
  ·have h':¬ i=k:=fun z=>h z.symm
   simp [h,h']
theorem xS {ks:List Int} {vs:List Dat} {i:Int} {d:Dat} (h:i∉ks):lB ks i=ks++[i]∧lC ks vs i d=vs++[d]:=by
 unfold lB lC
 rw [EF,decide_eq_false h]
 exact ⟨rfl,rfl⟩
theorem ze {α:Type} (key:α→Int) (val:α→Dat) (xs:List α) (i:Int):bO (xs.map key) (xs.map val) i=(xs.find? fun x=>decide (key x=i)).map val:=by
 induction xs with
 | nil=>rfl
 | cons x xs ih=>
  rw [List.map_cons,List.map_cons,bO,List.find?_cons]
  by_cases h:key x=i
  ·simp [h]
  ·simp [h,ih]
theorem g6 {α:Type} [DecidableEq α]:∀ (l m:List α),l.Nodup→(∀ x∈l,x∈m)→l.length≤m.length
 | [],_,_,_=>Nat.zero_le _
 | x::l,m,h,k=>by
  obtain ⟨h1,h2⟩:=List.nodup_cons.mp h
  have hx:x∈m:=k x List.mem_cons_self
  have:=g6 l (m.erase x) h2 fun y hy=>(List.mem_erase_of_ne (fun e:y=x=>h1 (by rw [← e];exact hy))).mpr (k y (List.mem_cons_of_mem _ hy))
  rw [List.length_erase_of_mem hx] at this
  have:=List.length_pos_of_mem hx
  simp
  omega
noncomputable def places (n:Nat):List Int:=(List.range n).map fun i:Nat=>(i:Int)
theorem places_len (n:Nat):(places n).length=n:=by simp [places]
theorem vQ (n:Nat) (x:Int):x∈places n↔0≤x∧x<n:=by
 unfold places
 rw [List.mem_map]
 constructor
 ·rintro ⟨i,hi,rfl⟩
  have:=List.mem_range.mp hi
  omega
 ·rintro ⟨h0,h1⟩
  exact ⟨x.toNat,List.mem_range.mpr (by omega),by omega⟩
noncomputable abbrev Sr:=List (Int×List Step)
noncomputable def sk (s:Sr):List Int:=s.map (·.1)
noncomputable def sv (s:Sr):List Dat:=s.map fun e=>cP e.2
noncomputable def InR (R:Int→List Step) (p:Int) (s:Step):Prop:=s∈R p
structure BE (R:Int→Step→Prop) (a:Int) (w:List Step) (p:Int):Prop where
 way:Way R a w p
 nd:(a::w.map (·.2)).Nodup
structure Fnd (n:Nat) (R:Int→List Step) (a:Int) (s:Sr):Prop where
 nd:(sk s).Nodup
 pl:∀ x∈sk s,0≤x∧x<n
 st:a∈sk s
 way:∀ e∈s,BE (InR R) a e.2 e.1∧∀ x∈a::e.2.map (·.2),x∈sk s
theorem Fnd.len {n:Nat} {R:Int→List Step} {a:Int} {s:Sr} (h:Fnd n R a s):s.length≤n:=by
 have:=g6 (sk s) (places n) h.nd fun x hx=>(vQ n x).mpr (h.pl x hx)
 rw [places_len] at this
 simpa [sk] using this
theorem Fnd.EG {n:Nat} {R:Int→List Step} {a:Int} {s:Sr} (h:Fnd n R a s) {e:Int×List Step} (he:e∈s):e.2.length<s.length:=by
 obtain ⟨h1,h2⟩:=h.way e he
 have:=g6 (a::e.2.map (·.2)) (sk s) h1.nd h2
 simp [sk] at this
 omega
theorem dM (s:Sr) (x:Int) (w:List Step):sk (s++[(x,w)])=sk s++[x]:=by simp [sk]
theorem EH (s:Sr) (x:Int) (w:List Step):sv (s++[(x,w)])=sv s++[cP w]:=by simp [sv]
theorem rj (s:Sr) (x:Int):(∃ w,(x,w)∈s∧bO (sk s) (sv s) x=some (cP w))∨(x∉sk s∧bO (sk s) (sv s) x=none):=by
 unfold sk sv
 rw [ze (fun e:Int×List Step=>e.1) (fun e=>cP e.2) s x]
 cases hf:s.find? fun e=>decide (e.1=x) with
 | none=>
  refine Or.inr ⟨fun h=>?_,rfl⟩
  obtain ⟨e,he,hx⟩:=List.mem_map.mp h
  have:=List.find?_eq_none.mp hf e he
  simp [hx] at this
 | some e=>
  have h1:=List.mem_of_find?_eq_some hf
  have h2:=List.find?_some hf
  have h2:e.1=x:=by simpa using h2
  exact Or.inl ⟨e.2,by rw [← h2];exact h1,rfl⟩
theorem lQ (s:Sr) (x:Int):(bO (sk s) (sv s) x).isSome=decide (x∈sk s):=by
 rcases rj s x with ⟨ts,h1,h2⟩ | ⟨h1,h2⟩
 ·have:x∈sk s:=List.mem_map.mpr ⟨_,h1,rfl⟩
  rw [h2,decide_eq_true this];rfl
 ·rw [h2,decide_eq_false h1];rfl
theorem Fnd.start {n:Nat} {R:Int→List Step} {a:Int} (a0:0≤a) (a1:a<n):Fnd n R a [(a,[])] where
 nd:=by simp [sk]
 pl:=by intro x hx;simp [sk] at hx;subst hx;exact ⟨a0,a1⟩
 st:=by simp [sk]
 way:=by
  intro e he
  simp at he
  subst he
  exact ⟨⟨rfl,by simp⟩,by simp [sk]⟩
theorem Fnd.step {n:Nat} {R:Int→List Step} {a:Int} {s:Sr} (h:Fnd n R a s) {p:Int} {w:List Step} (hp:(p,w)∈s) {u:Step} (hu:u∈R p) (hn:u.2∉sk s) (u0:0≤u.2) (u1:u.2<n):Fnd n R a (s++[(u.2,w++[u])]) where
 nd:=by
  rw [dM]
  exact List.nodup_append.mpr ⟨h.nd,by simp,fun x hx y hy=>by rw [List.mem_singleton.mp hy];exact fun e=>hn (e▸hx)⟩
 pl:=by
  intro x hx
  rw [dM] at hx
  rcases List.mem_append.mp hx with hx | hx
  ·exact h.pl x hx
  ·rw [List.mem_singleton.mp hx];exact ⟨u0,u1⟩
 st:=by rw [dM];exact List.mem_append_left _ h.st
 way:=by
  intro e he
  rw [dM]
  rcases List.mem_append.mp he with he | he
  ·obtain ⟨k1,k2⟩:=h.way e he
   exact ⟨k1,fun x hx=>List.mem_append_left _ (k2 x hx)⟩
  ·rw [List.mem_singleton.mp he]
   obtain ⟨k1,k2⟩:=h.way _ hp
   refine ⟨⟨k1.way.snoc hu,?_⟩,fun x hx=>?_⟩
   ·dsimp only at k1 k2 ⊢
    rw [List.map_append,← List.cons_append]
    exact List.nodup_append.mpr ⟨k1.nd,by simp,fun x hx y hy=>by rw [List.mem_singleton.mp hy];exact fun e:x=u.2=>hn (by rw [← e];exact k2 x hx)⟩
   ·dsimp only at k1 k2 hx ⊢
    rw [List.map_append,← List.cons_append] at hx
    rcases List.mem_append.mp hx with hx | hx
    ·exact List.mem_append_left _ (k2 x hx)
    ·exact List.mem_append_right _ (by simpa using hx)
noncomputable def Done (R:Int→List Step) (K:List Int) (x:Int):Prop:=∀ u∈R x,u.2∈K
noncomputable def EI (n:Nat) (R:Int→List Step) (a:Int) (s:Sr) (ps:List Int) (c4 c5:Cell):Env:=[.sh (bP n R),.sh (.int a),.ow (.dct (sk s) (sv s)),.ow (.lst (ps.map Dat.int)),c4,c5]
theorem I_ {ps:List Int} {p0:Int} {i:Nat} {e:FE} {ρ ρ2:Env} {Q:Val→Env→Prop} (q:Q (.val (.int p0)) ρ2) (h:ρ[i]?=some (.ow (.lst ((p0::ps).map Dat.int)))) (he:e ρ=some (.val (.int 0),ρ)) (hs:ρ.set i (.ow (.lst (ps.map Dat.int)))=ρ2):We (kO i e) ρ Q:=
 ⟨_,_,by
  unfold kO
  rw [h]
  dsimp only
  rw [he]
  dsimp only
  rw [h]
  dsimp only
  rw [if_pos (by unfold BIG;omega)]
  show some (Val.val (.int p0),ρ.set i (.ow (.lst (ps.map Dat.int))))=_
  rw [hs],q⟩
theorem EJ (n:Nat) (R:Int→List Step) (x:Int) (h0:0≤x) (h1:x<n):gIx (bP n R) (.int x)=some (.val (cP (R x))):=by
 unfold bP gIx
 dsimp only
 rw [jY (fun i:Nat=>cP (R i)) (List.range n) x h0 (by rw [List.length_range];exact h1)]
 have e:(((List.range n)[x.toNat]'(by rw [List.length_range];omega):Nat):Int)=x:=by rw [List.getElem_range];omega
 rw [e]
 rfl
theorem lR (n:Nat) (hn:n≤40) (R:Int→List Step) (hR:∀ i:Int,0≤i→i<n→∀ u∈R i,0≤u.2∧u.2<n) (a:Int) (a0:0≤a) (a1:a<n) :
  ∃ s:Sr,tE [bP n R,.int a]=some (.new (.dct (sk s) (sv s)))∧Fnd n R a s∧∀ x∈sk s,Done R (sk s) x:=by
 suffices h:Wr (tE [bP n R,.int a]) fun v=>∃ s:Sr,v=.new (.dct (sk s) (sv s))∧Fnd n R a s∧∀ x∈sk s,Done R (sk s) x by
  obtain ⟨v,h1,s,rfl,h2⟩:=h
  exact ⟨s,h1,h2⟩
 unfold tE
 (refine Dm.Wr.fn ?_ rfl rfl;dsimp only [List.map,List.replicate,List.cons_append,List.nil_append])
 repeat array_get_dec
 refine Ws.wh (fun k ρ=>∃ (s:Sr) (ps:List Int) (c4 c5:Cell),ρ=EI n R a s ps c4 c5∧Fnd n R a s∧(∀ x∈ps,x∈sk s)∧(∀ x∈sk s,x∈ps∨Done R (sk s) x)∧k=ps.length+(n-s.length)∧k≤40) ?_ 100 n _ (by omega) ⟨[(a,[])],[a],_,_,rfl,Fnd.start a0 a1,by simp [sk],by simp [sk],by simp;omega,hn⟩
 rintro k ρ ⟨s,ps,c4,c5,rfl,F,hps,hd,hk,N_⟩
 unfold EI
 refine Wt.Tr ?_
 refine We.w rfl ?_
 refine ⟨_,!(ps.map Dat.int).isEmpty,rfl,rfl,?_⟩
 have len:=F.len
 cases ps with
 | nil=>
  refine Wif.no rfl ?_
  refine Ws.R (We.w rfl (WR.slot ?_ rfl))
  exact ⟨s,rfl,F,fun x hx=>(hd x hx).resolve_left (by simp)⟩
 | cons p0 ps0=>
  refine Wif.yes rfl ?_
  unfold F7
  refine Ws.seq (Ws.A ?_ (by decide))
  refine I_ (ps:=ps0) (p0:=p0) ?_ rfl rfl rfl
  refine WA.val ?_ (by first | (dsimp only [List.set];first | done | rfl) | rfl)
  have hp0:p0∈sk s:=hps p0 (by simp)
  obtain ⟨q0,q1⟩:=F.pl p0 hp0
  refine Ws.For (Wi.S (We.e2 (We.v rfl (We.v rfl (Wg2.ix ?_ rfl rfl (EJ n R p0 q0 q1))))))
  refine Wk.val (jZ ?_)
  refine Ws.inv bY _ _ (R p0) _ _ _ _ _ (fun p q ρ=>∃ (s:Sr) (ps:List Int) (c5:Cell),ρ=EI n R a s ps (.sh (.int p0)) c5∧Fnd n R a s∧(∀ x∈ps,x∈sk s)∧p0∈sk s∧(∀ x∈sk s,x∈ps∨x=p0∨Done R (sk s) x)∧(∀ u∈p,u.2∈sk s)∧k=ps.length+1+(n-s.length)) ⟨s,ps0,_,rfl,F,fun x hx=>hps x (by simp [hx]),hp0,?_,by simp,by rw [hk];simp⟩ ?_ ?_
  ·intro x hx
   rcases hd x hx with h | h
   ·rcases List.mem_cons.mp h with h | h
    ·exact .inr (.inl h)
    ·exact .inl h
   ·exact .inr (.inr h)
  ·rintro p u q ρ e' ⟨s,ps,c5,rfl,F,hps,hp0,hd,hp,hk⟩
   have len:=F.len
   have hu:u∈R p0:=by rw [e'];simp
   obtain ⟨u0,u1⟩:=hR p0 q0 q1 u hu
   unfold EI
   refine Dm.cE rfl (by first | (dsimp only [List.set];first | done | rfl) | rfl) ?_
   unfold F6
   refine Ws.If (Wt.V (We.e2 (We.e2 (We.v rfl (We.c (Wg2.ix ?_ rfl rfl rfl))))))
   refine We.w rfl (Wg2.LW ?_ rfl rfl)
   refine Wb.mk ?_
   rw [lQ]
   refine ⟨fun h=>?_,fun h=>?_⟩
   ·have hnew:=ndT h
    obtain ⟨w,t1,t2⟩:∃ w,(p0,w)∈s∧bO (sk s) (sv s) p0=some (cP w):=by
     rcases rj s p0 with h | h
     ·exact h
     ·exact absurd hp0 h.1
    have wl:=F.EG t1
    refine Ws.seq (Ws.IW (We.e2 (We.e2 (We.w rfl (We.v rfl (Wg2.dx t2 ?_ rfl rfl))))))
    refine We.L (Was.cons (We.v rfl (Was.nil (WT.mk ?_ rfl rfl (by exact Nat.le_of_ble_eq_true rfl)))))
    refine Wg2.EC ?_ rfl rfl (by rw [List.length_map];dsimp only at wl;simp;unfold SZ;omega)
    refine Wk.new (vJ rfl (We.e2 (We.v rfl (We.c (Wg2.ix ?_ rfl rfl rfl)))))
    refine dJ.mk (qX ?_ rfl (by first | (dsimp only [List.set];first | done | rfl) | rfl) (by simp only [sk,List.length_map];unfold SZ;omega))
    refine Ws.App (We.e2 (We.v rfl (We.c (Wg2.ix ?_ rfl rfl rfl)))) rfl
    refine Wk.val (nB ?_ rfl (by first | (dsimp only [List.set];first | done | rfl) | rfl) (by rw [List.length_map];unfold SZ;omega))
    have F':=F.step t1 hu hnew u0 u1
    have len':=F'.len
    have em:Dat.lst (w.map bY++[bY u])=cP (w++[u]):=by simp [cP]
    obtain ⟨p1,p2⟩:=xS (ks:=sk s) (vs:=sv s) (i:=u.2) (d:=cP (w++[u])) hnew
    refine ⟨s++[(u.2,w++[u])],ps++[u.2],.sh (bY u),?_,F',?_,?_,?_,?_,?_⟩
    ·rw [em,p1,p2,dM,EH,List.map_append]
     rfl
    ·intro x hx
     rw [dM]
     rcases List.mem_append.mp hx with hx | hx
     ·exact List.mem_append_left _ (hps x hx)
     ·exact List.mem_append_right _ hx
    ·rw [dM];exact List.mem_append_left _ hp0
    ·intro x hx
     rw [dM] at hx ⊢
     rcases List.mem_append.mp hx with hx | hx
     ·rcases hd x hx with h | h | h
      ·exact .inl (List.mem_append_left _ h)
      ·exact .inr (.inl h)
      ·exact .inr (.inr fun y hy=>List.mem_append_left _ (h y hy))
     ·exact .inl (List.mem_append_right _ hx)
    ·intro v hv
     rw [dM]
     rcases List.mem_append.mp hv with hv | hv
     ·exact List.mem_append_left _ (hp v hv)
     ·rw [List.mem_singleton.mp hv];simp
    ·rw [hk];simp at len' ⊢;omega
   ·have hold:=ndF h
    refine Ws.nx ?_
    refine ⟨s,ps,.sh (bY u),rfl,F,hps,hp0,hd,fun v hv=>?_,hk⟩
    rcases List.mem_append.mp hv with hv | hv
    ·exact hp v hv
    ·rw [List.mem_singleton.mp hv];exact hold
  ·rintro ρ ⟨s,ps,c5,rfl,F,hps,hp0,hd,hp,hk⟩
   refine ⟨ps.length+(n-s.length),by omega,s,ps,_,_,rfl,F,hps,fun x hx=>?_,rfl,by omega⟩
   rcases hd x hx with h | rfl | h
   ·exact .inl h
   ·exact .inr hp
   ·exact .inr h
noncomputable def lS (h:List (Int×Int)) (s:Step):List (Int×Int):=if s.1∈hk h then h.filter fun e=>decide (e.1≠s.1) else h++[s]
theorem nJ (h:List (Int×Int)) (m:Int):hdF (h.filter fun e=>decide (e.1≠m))=put (hdF h) m none:=by
 funext x
 unfold put hdF
 rw [List.find?_filter]
 by_cases e:x=m
 ·subst e
  rw [if_pos rfl,List.find?_eq_none.mpr fun y _=>by simp]
  rfl
 ·rw [if_neg e]
  congr 1
  congr 1
  funext y
  by_cases q:y.1=x
  ·have:y.1≠m:=fun z=>e (q.symm.trans z)
   simp [q,e]
  ·simp [q]
theorem EK (h:List (Int×Int)) (s:Step) (hn:s.1∉hk h):hdF (h++[s])=put (hdF h) s.1 (some s.2):=by
 funext x
 unfold put hdF
 rw [List.find?_append]
 by_cases e:x=s.1
 ·subst e
  rw [if_pos rfl]
  have:(h.find? fun e=>decide (e.1=s.1))=none:=List.find?_eq_none.mpr fun y hy=>by
   intro z
   exact hn (List.mem_map.mpr ⟨y,hy,of_decide_eq_true z⟩)
  rw [this]
  simp
 ·rw [if_neg e]
  have e':¬ s.1=x:=fun z=>e z.symm
  cases hf:(h.find? fun e=>decide (e.1=x)) with
  | none=>simp [e']
  | some y=>rfl
theorem BF (h:List (Int×Int)) (s:Step):hdF (lS h s)=gw (hdF h) s.1 s.2:=by
 unfold lS gw
 rw [qZ]
 by_cases q:s.1∈hk h
 ·rw [if_pos q,if_pos (decide_eq_true q),nJ]
 ·rw [if_neg q,if_neg (by simpa using q),EK h s q]
noncomputable def bU (h:List (Int×Int)):List Step→List (Int×Int)
 | []=>h
 | s::w=>bU (lS h s) w
theorem qj:∀ (w:List Step) (h:List (Int×Int)),hdF (bU h w)=lM (hdF h) w
 | [],_=>rfl
 | s::w,h=>by rw [bU,lM,qj w,BF]
theorem gB:∀ (w:List Step) (h:List (Int×Int)) (s:Step),bU h (w++[s])=lS (bU h w) s
 | [],_,_=>rfl
 | _::w,h,s=>by rw [List.cons_append,bU,bU,gB w]
theorem mz (h:List (Int×Int)) (m:Int):fk (hk h) (hv h) m=hk (h.filter fun e=>decide (e.1≠m))∧fm (hk h) (hv h) m=hv (h.filter fun e=>decide (e.1≠m)):=by
 unfold hk hv
 induction h with
 | nil=>exact ⟨rfl,rfl⟩
 | cons e h ih=>
  rw [List.map_cons,List.map_cons,fk,fm]
  by_cases q:e.1=m
  ·rw [if_pos q,if_pos q,List.filter_cons_of_neg (by simpa using q)];exact ih
  ·rw [if_neg q,if_neg q,List.filter_cons_of_pos (by simpa using q),List.map_cons,List.map_cons,ih.1,ih.2];exact ⟨rfl,rfl⟩
structure Hok (r:List Tie) (h:List (Int×Int)):Prop where
 nd:(hk h).Nodup
 sub:∀ m∈hk h,m∈r.map (·.m)
theorem Hok.len {r:List Tie} {h:List (Int×Int)} (k:Hok r h):h.length≤r.length:=by
 have:=g6 (hk h) (r.map (·.m)) k.nd k.sub
 simpa [hk] using this
theorem Hok.nil (r:List Tie):Hok r []:=⟨by simp [hk],by simp [hk]⟩
theorem Hok.drop {r:List Tie} {h:List (Int×Int)} (k:Hok r h) (m:Int):Hok r (h.filter fun e=>decide (e.1≠m)):=by
 refine ⟨(k.nd.sublist (List.Sublist.map _ (List.filter_sublist))),fun x hx=>k.sub x ?_⟩
 obtain ⟨e,he,rfl⟩:=List.mem_map.mp hx
 exact List.mem_map.mpr ⟨e,(List.mem_filter.mp he).1,rfl⟩
theorem Hok.lead {r:List Tie} {h:List (Int×Int)} (k:Hok r h) {s:Step} (hs:s.1∈r.map (·.m)):Hok r (lS h s):=by
 unfold lS
 split
 ·exact k.drop _
 ·rename_i q
  refine ⟨?_,fun x hx=>?_⟩
  ·unfold hk
   rw [List.map_append]
   exact List.nodup_append.mpr ⟨k.nd,by simp,fun x hx y hy=>by
    have:y=s.1:=by simpa using hy
    rw [this];exact fun e=>q (e▸hx)⟩
  ·unfold hk at hx
   rw [List.map_append] at hx
   rcases List.mem_append.mp hx with hx | hx
   ·exact k.sub x hx
   ·have:x=s.1:=by simpa using hx
    rw [this];exact hs
theorem Hok.BG {r:List Tie}:∀ {w:List Step} {h:List (Int×Int)},Hok r h→(∀ s∈w,s.1∈r.map (·.m))→Hok r (bU h w)
 | [],_,k,_=>k
 | s::w,h,k,hs=>by
  rw [bU]
  exact Hok.BG (w:=w) (k.lead (hs s List.mem_cons_self)) fun u hu=>hs u (List.mem_cons_of_mem _ hu)
theorem pO (r:List Tie) (hl:r.length≤1000) (h:List (Int×Int)) (k:Hok r h) (w:List Step) (hw:∀ s∈w,s.1∈r.map (·.m)):Bq [bC h,cP w]=some (.val .non,bC (bU h w)):=by
 suffices q:WrM (Bq [bC h,cP w]) fun z d=>z=.val .non∧d=bC (bU h w) by
  obtain ⟨z,d,h1,rfl,rfl⟩:=q
  exact h1
 unfold Bq
 refine WrM.fn ?_ rfl rfl
 refine Ws.For (Wi.S (We.v rfl (Wk.val (jZ ?_))))
 refine Ws.inv bY _ _ w _ _ _ _ _ (fun p q ρ=>∃ c2 c3,ρ=[.ow (bC (bU h p)),.sh (cP w),c2,c3]) ⟨_,_,rfl⟩ ?_ ?_
 ·rintro p s q ρ e ⟨c2,c3,rfl⟩
  refine Dm.cE rfl (by first | (dsimp only [List.set];first | done | rfl) | rfl) ?_
  have kp:Hok r (bU h p):=k.BG fun u hu=>hw u (by rw [e];exact List.mem_append_left _ hu)
  have len:=kp.len
  unfold F8
  refine Ws.If (Wt.V (We.e2 (We.v rfl (We.w rfl (Wg2.din ?_ rfl rfl)))))
  refine Wb.mk ?_
  rw [mw,Option.isSome_map,qZ]
  refine Wif.dec (fun hm=>?_) fun hm=>?_
  ·obtain ⟨x,hx⟩:∃ x,hdF (bU h p) s.1=some x:=Option.isSome_iff_exists.mp (by rw [qZ];exact decide_eq_true hm)
   refine Ws.E (We.LZ (k:=s.1) (d:=.int x) (by rw [mw,hx];rfl) ?_ rfl rfl rfl)
   refine ⟨.sh (.int s.1),.sh (.int s.2),?_⟩
   rw [gB,lS,if_pos hm,(mz _ _).1,(mz _ _).2]
   rfl
  ·refine Ws.IW (We.v rfl (Wk.val (vJ rfl (We.v rfl (dJ.mk (qX ?_ rfl (by first | (dsimp only [List.set];first | done | rfl) | rfl) ?_))))))
   ·refine ⟨.sh (.int s.1),.sh (.int s.2),?_⟩
    rw [gB,lS,if_neg hm]
    obtain ⟨p1,p2⟩:=xS (ks:=hk (bU h p)) (vs:=hv (bU h p)) (i:=s.1) (d:=.int s.2) hm
    rw [p1,p2]
    unfold bC hk hv
    rw [List.map_append,List.map_append]
    rfl
   ·unfold hk;rw [List.length_map];unfold SZ;omega
 ·rintro ρ ⟨c2,c3,rfl⟩
  exact ⟨_,rfl,rfl,rfl⟩
theorem lT {r:List Tie} {x:Int} {s:Step}:s∈aE r x↔j0 r x s:=by
 unfold aE
 rw [List.mem_filterMap]
 constructor
 ·rintro ⟨t,ht,e⟩
  unfold cQ at e
  split at e
  ·cases e
  rename_i hne
  split at e
  ·rename_i ha
   cases e
   exact ⟨t,ht,rfl,hne,.inl ⟨ha,rfl⟩⟩
  ·split at e
   ·rename_i hb
    cases e
    exact ⟨t,ht,rfl,hne,.inr ⟨hb,rfl⟩⟩
   ·cases e
 ·rintro ⟨t,ht,hm,hne,he⟩
  refine ⟨t,ht,?_⟩
  unfold cQ
  rw [if_neg hne]
  rcases he with ⟨h1,h2⟩ | ⟨h1,h2⟩
  ·rw [if_pos h1,hm,h2]
  ·rw [if_neg (fun z=>hne (z.trans h1.symm)),if_pos h1,hm,h2]
theorem tS {n:Nat} {r:List Tie} (hp:Pl n r) {x:Int} {s:Step} (h:j0 r x s):(0≤x∧x<n)∧0≤s.2∧s.2<n:=by
 obtain ⟨t,ht,_,_,he⟩:=h
 have:=hp t ht
 omega
theorem EL {r:List Tie} {x:Int} {s:Step} (h:j0 r x s):s.1∈r.map (·.m):=by
 obtain ⟨t,ht,hm,_⟩:=h
 exact List.mem_map.mpr ⟨t,ht,hm⟩
theorem BH {r:List Tie} {R:Int→Step→Prop} (hR:∀ p s,R p s→j0 r p s) {y:Int}:∀ {w:List Step} {x:Int},Way R x w y→∀ s∈w,s.1∈r.map (·.m)
 | [],_,_,s,hs=>by cases hs
 | u::w,x,h,s,hs=>by
  rcases List.mem_cons.mp hs with rfl | hs
  ·exact EL (hR _ _ h.1)
  ·exact BH hR h.2 s hs
theorem nK {r:List Tie} {h:List (Int×Int)} {p:Int} {s:Step}:InR (tQ h (aE r)) p s↔nC r (hdF h) p s:=by
 unfold InR tQ nC
 rw [List.mem_filter,lT]
 simp
theorem rm {r:List Tie} {h:List (Int×Int)} {p:Int} {s:Step}:InR (tR h (aE r)) p s↔Led r (hdF h) p s:=by
 unfold InR tR Led
 rw [List.mem_filter,lT]
 simp
theorem zf (w:List Step):bQ (cP w)=true:=gX _ _ fun s=>by unfold bY bQ;exact kR _ (by intro x hx;simp at hx;rcases hx with rfl | rfl<;>exact qh _)
theorem iO (n:Nat) (R:Int→List Step):bQ (bP n R)=true:=gX (fun i:Nat=>cP (R i)) _ fun i=>zf _
noncomputable def mso (w:List Step):List Int:=w.map (·.1)
noncomputable def msD (w:List Step):Dat:=.lst ((mso w).map Dat.int)
noncomputable def cF (h:List (Int×Int)):List Int→List (Int×Int)
 | []=>h
 | m::ms=>cF (h.filter fun e=>decide (e.1≠m)) ms
theorem lU:∀ (ms:List Int) (h:List (Int×Int)) (m:Int),cF h (ms++[m])=(cF h ms).filter fun e=>decide (e.1≠m)
 | [],_,_=>rfl
 | _::ms,h,m=>by rw [List.cons_append,cF,cF,lU ms]
theorem kW:∀ (w:List Step) (h:List (Int×Int)),hdF (cF h (mso w))=fO (hdF h) w
 | [],_=>rfl
 | s::w,h=>by
  show hdF (cF _ (mso w))=fO _ w
  rw [kW w,nJ]
theorem lV:∀ (ms:List Int) (h:List (Int×Int)) (x:Int),x∉ms→hdF (cF h ms) x=hdF h x
 | [],_,_,_=>rfl
 | m::ms,h,x,hx=>by
  rw [cF,lV ms _ x fun z=>hx (List.mem_cons_of_mem _ z),nJ]
  unfold put
  rw [if_neg fun z=>hx (by rw [z];exact List.mem_cons_self)]
theorem Hok.drops {r:List Tie}:∀ {ms:List Int} {h:List (Int×Int)},Hok r h→Hok r (cF h ms)
 | [],_,k=>k
 | m::ms,h,k=>by rw [cF];exact Hok.drops (ms:=ms) (k.drop m)
theorem vR {r:List Tie} {H:Hd} {y:Int}:∀ {w:List Step} {x:Int},Way (Led r H) x w y→∀ s∈w,H s.1=some s.2
 | [],_,_,s,hs=>by cases hs
 | u::w,x,h,s,hs=>by
  rcases List.mem_cons.mp hs with rfl | hs
  ·exact h.1.2
  ·exact vR h.2 s hs
structure EM (r:List Tie) (a b:Int) (ws:List (List Step)):Prop where
 way:∀ w∈ws,BE (j0 r) a w b
 nd:(ws.map mso).flatten.Nodup
noncomputable def zg (n:Nat) (r:List Tie) (h0 h:List (Int×Int)) (a b:Int) (c:Nat) (ws:List (List Step)) (c7 c8 c9:Cell):Env:=
 [.sh (bP n (aE r)),.sh (bC h0),.sh (.int a),.sh (.int b),.sh (.int c),.ow (bC h),.ow (.lst (ws.map msD)),c7,c8,c9]
theorem zh (n:Nat) (hn:n≤40) (r:List Tie) (hp:Pl n r) (nd:(r.map (·.m)).Nodup) (hl:r.length≤1000) (h:List (Int×Int)) (k:Hok r h) (a b:Int) (a0:0≤a) (a1:a<n) (c:Nat) (hc:c≤1000) (fl:Flow r (hdF h) a b c) :
  ∃ ws:List (List Step),zc [bP n (aE r),bC h,.int a,.int b,.int c]=some (.new (.lst (ws.map msD)))∧ws.length=c∧EM r a b ws:=by
 suffices q:Wr (zc [bP n (aE r),bC h,.int a,.int b,.int c]) fun v=>∃ ws:List (List Step),v=.new (.lst (ws.map msD))∧ws.length=c∧EM r a b ws by
  obtain ⟨v,h1,ws,rfl,h2⟩:=q
  exact ⟨ws,h1,h2⟩
 unfold zc
 (refine Dm.Wr.fn ?_ rfl rfl;dsimp only [List.map,List.replicate,List.cons_append,List.nil_append])
 refine Ws.seq (Ws.A (We.B (Was.cons (We.v rfl (Was.nil (WB.dict (ks:=hk h) (vs:=hv h) ?_ rfl))))) (by decide))
 refine WA.new ?_ (by first | (dsimp only [List.set];first | done | rfl) | rfl)
 refine Ws.seq (Ws.A (We.L (Was.nil (WT.mk ?_ rfl rfl (by decide)))) (by decide))
 refine WA.new ?_ (by first | (dsimp only [List.set];first | done | rfl) | rfl)
 refine Ws.seq (Ws.For (Wi.R1 (We.v rfl (dJ.mk ⟨?_,by unfold BIG;omega,by unfold BIG;omega⟩))))
 refine Ws.inv (fun i:Nat=>Dat.int (0+(i:Nat))) _ _ (List.range c) _ _ _ _ _ (fun p q ρ=>∃ (h':List (Int×Int)) (ws:List (List Step)) (c7 c8 c9:Cell),ρ=zg n r h h' a b c ws c7 c8 c9∧Hok r h'∧ws.length=p.length∧Flow r (hdF h') a b q.length∧EM r a b ws∧∀ m∈(ws.map mso).flatten,hdF h' m=none)
  ⟨h,[],_,_,_,rfl,k,rfl,by rw [List.length_range];exact fl,⟨by simp,by simp⟩,by simp⟩ ?_ ?_
 ·rintro p x q ρ e ⟨h',ws,c7,c8,c9,rfl,k',wl,fl',W,hno⟩
  rw [List.length_cons] at fl'
  unfold zg
  refine Dm.cE rfl (by first | (dsimp only [List.set];first | done | rfl) | rfl) ?_
  unfold F_
  have hR:∀ i:Nat,i<n→(aE r i).length≤1000:=fun i _=>Nat.le_trans (ee r i) hl
  obtain ⟨s,es,F,hd⟩:=lR n hn (tR h' (aE r)) (fun i _ _ u hu=>(tS hp ((rm (h:=h')).mp hu).1).2) a a0 a1
  have hb:b∈sk s:=by
   have:=fl'.reach (S:=fun y=>decide (y∈sk s)) (decide_eq_true F.st) fun y u hy hu=>decide_eq_true (hd y (of_decide_eq_true hy) u (rm.mpr hu))
   exact of_decide_eq_true this
  obtain ⟨w,t1,t2⟩:∃ w,(b,w)∈s∧bO (sk s) (sv s) b=some (cP w):=by
   rcases rj s b with h | h
   ·exact h
   ·exact absurd hb h.1
  obtain ⟨⟨w1,w2⟩,_⟩:=F.way _ t1
  have EG:=F.EG t1
  have NI:=F.len
  dsimp only at w1 w2 EG
  have w1':Way (Led r (hdF h')) a w b:=w1.mono fun _ _ z=>rm.mp z
  have wm:=lJ nd (fun p s h=>h.1) w1' w2
  have hit:iS (e2 gDx (eF tE [(eFd Bp [(eV 0),(eV 5)]),(eV 2)]) (eV 3)) [.sh (bP n (aE r)),.sh (bC h),.sh (.int a),.sh (.int b),.sh (.int c),.ow (bC h'),.ow (.lst (ws.map msD)),.sh (.int (0+(x:Nat))),c8,c9]
    = some (w.map bY,[.sh (bP n (aE r)),.sh (bC h),.sh (.int a),.sh (.int b),.sh (.int c),.ow (bC h'),.ow (.lst (ws.map msD)),.sh (.int (0+(x:Nat))),c8,c9]):=by
   apply Wi.get
   refine Wi.S (We.e2 (We.F (Was.cons (We.Fd (Was.cons (We.v rfl (Was.cons (We.w rfl (Was.nil ?_)))))))))
   refine ⟨_,_,_,rfl,q_ n (by omega) (aE r) hR h',iO _ _,?_⟩
   refine Was.cons (We.v rfl (Was.nil (WF.box es ?_ rfl rfl rfl rfl)))
   refine We.v rfl (Wg2.dx t2 ?_ rfl rfl)
   exact Wk.val (jZ ⟨rfl,rfl⟩)
  refine Ws.seq (Ws.A (We.Map bY w (fun s=>s.1) Dat.int ?_ hit rfl (by decide) (by unfold SZ;omega) fun s _=>We.e2 (We.v rfl (We.c (Wg2.ix (Wk.val ⟨rfl,rfl⟩) rfl rfl rfl)))) (by decide))
  refine WA.new ?_ (by first | (dsimp only [List.set];first | done | rfl) | rfl)
  refine Ws.seq (Ws.For (Wi.S (We.w rfl (Wk.slot (jZ ?_) rfl (by first | (dsimp only [List.set];first | done | rfl) | rfl)))))
  refine Ws.inv Dat.int _ _ (mso w) _ _ _ _ _ (fun pm qm ρ=>∃ c9,ρ=zg n r h (cF h' pm) a b c ws (.sh (.int (0+(x:Nat)))) (.sh (msD w)) c9) ⟨_,rfl⟩ ?_ ?_
  ·rintro pm m qm ρ em ⟨c9,rfl⟩
   unfold zg
   refine Dm.cE rfl (by first | (dsimp only [List.set];first | done | rfl) | rfl) ?_
   unfold F9
   have hm:m∉pm:=by
    have:(mso w).Nodup:=wm
    rw [em] at this
    exact fun z=>(List.nodup_append.mp this).2.2 m z m List.mem_cons_self rfl
   have hmw:m∈mso w:=by rw [em];simp
   obtain ⟨st,hst,rfl⟩:=List.mem_map.mp hmw
   have hx:hdF (cF h' pm) st.1=some st.2:=by rw [lV pm h' st.1 hm];exact vR w1' st hst
   refine Ws.E (We.LZ (k:=st.1) (d:=.int st.2) (by rw [mw,hx];rfl) ?_ rfl rfl rfl)
   refine ⟨.sh (.int st.1),?_⟩
   rw [lU,(mz _ _).1,(mz _ _).2]
   rfl
  ·rintro ρ ⟨c9,rfl⟩
   unfold zg
   refine Ws.App (We.v rfl (Wk.val (nB ?_ rfl (by first | (dsimp only [List.set];first | done | rfl) | rfl) ?_))) rfl
   ·have fl2:=fl'.less nd w1' w2
    rw [← kW] at fl2
    refine ⟨cF h' (mso w),ws++[w],.sh (.int (0+(x:Nat))),.sh (msD w),c9,?_,k'.drops,by simp [wl],fl2,⟨fun v hv=>?_,?_⟩,fun m hm=>?_⟩
    ·rw [List.map_append];rfl
    ·rcases List.mem_append.mp hv with hv | hv
     ·exact W.way v hv
     ·rw [List.mem_singleton.mp hv];exact ⟨w1'.mono fun _ _ z=>z.1,w2⟩
    ·rw [List.map_append,List.flatten_append]
     refine List.nodup_append.mpr ⟨W.nd,by rw [List.map_cons,List.map_nil,List.flatten_cons,List.flatten_nil,List.append_nil];exact wm,fun m hm z hz=>?_⟩
     intro e
     subst e
     have:m∈mso w:=by simpa using hz
     obtain ⟨st,hst,rfl⟩:=List.mem_map.mp this
     have h1:=vR w1' st hst
     rw [hno _ hm] at h1
     cases h1
    ·rw [List.map_append,List.flatten_append] at hm
     rw [kW]
     rcases List.mem_append.mp hm with hm | hm
     ·by_cases z:m∈mso w
      ·exact iM z
      ·rw [gx fun u hu e=>z (List.mem_map.mpr ⟨u,hu,e⟩)];exact hno m hm
     ·rw [List.map_cons,List.map_nil,List.flatten_cons,List.flatten_nil,List.append_nil] at hm
      exact iM hm
   ·rw [List.length_map,wl]
    have:=congrArg List.length e
    rw [List.length_range,List.length_append] at this
    unfold SZ;omega
 ·rintro ρ ⟨h',ws,c7,c8,c9,rfl,k',wl,fl',W,hno⟩
  unfold zg
  refine Ws.R (We.w rfl (WR.slot ?_ rfl))
  exact ⟨ws,rfl,by rw [wl,List.length_range],W⟩
noncomputable def tupI (S:List Int):Dat:=.tup (S.map Dat.int)
noncomputable def ovr (S:List Int) (t:Tie):Bool:=decide (t.a∈S) != decide (t.b∈S)
noncomputable def Ja (r:List Tie) (S:List Int):List Int:=(r.filter (ovr S)).map (·.m)
noncomputable def L5 (n:Nat) (a b:Int) (S:List Int):Prop:=S.Pairwise (· < ·)∧(∀ x∈S,0≤x∧x<n)∧a∈S∧b∉S
noncomputable def cM:Option (List Int)→Dat
 | none=>.non
 | some S=>tupI S
theorem BI {l:List Int} (h:l.Nodup):(fM ltI l).Pairwise (· < ·):=by
 have h1:=pN l
 have h2:(fM ltI l).Nodup:=(ff ltI l).nodup_iff.mpr h
 refine (List.Pairwise.and h1 h2).imp fun {x y} q=>?_
 obtain ⟨q1,q2⟩:=q
 simp [ltI] at q1
 omega
structure Apart (n:Nat) (r:List Tie) (a b:Int) (most:Int) (ws:List (List Step)) (o:Option (List Int)):Prop where
 ways:EM r a b ws
 le:(ws.length:Int)≤most
 all:o=none→(ws.length:Int)=most
 side:∀ S,o=some S→L5 n a b S∧(Ja r S).length=ws.length∧(ws.length:Int)<most
noncomputable def L6 (n:Nat) (r:List Tie) (a b most:Int) (c5:Cell) (h:List (Int×Int)) (o:Option (List Int)) (k:Nat) (c9:Cell):Env:=
 [.sh (.int n),.sh (aV r),.sh (.int a),.sh (.int b),.sh (.int most),c5,.ow (bC h),.sh (cM o),.sh (.int k),c9]
noncomputable def BJ (n:Nat) (r:List Tie) (c:Cell):Prop:=c=.ow (bP n (aE r))∨c=.sh (bP n (aE r))
theorem xT (ws:List (List Step)):bQ (.lst (ws.map msD))=true:=gX _ _ fun w=>vK _
theorem Gb {n:Nat} {r:List Tie} {c5:Cell} (h5:BJ n r c5) (A B C D E G H I J:Cell) {Q:Val→Env→Prop} (rest:List FE) {Q':List Val→Env→Prop}
  (k:∀ x,(x=.slot 5∧c5=.ow (bP n (aE r)))∨(x=.val (bP n (aE r))∧c5=.sh (bP n (aE r)))→Was rest [A,B,C,D,E,c5,G,H,I,J] fun xs ρ2=>Q' (x::xs) ρ2):Was (eV 5::rest) [A,B,C,D,E,c5,G,H,I,J] Q':=by
 rcases h5 with rfl | rfl
 ·exact Was.cons (We.w rfl (k _ (.inl ⟨rfl,rfl⟩)))
 ·exact Was.cons (We.v rfl (k _ (.inr ⟨rfl,rfl⟩)))
theorem pP (n:Nat) (hn:n≤40) (r:List Tie) (hp:Pl n r) (nd:(r.map (·.m)).Nodup) (hl:r.length≤1000) (a b:Int) (a0:0≤a) (a1:a<n) (b0:0≤b) (b1:b<n) (most:Int) (m0:0≤most) (m1:most≤90) :
  ∃ ws o,Bs [.int n,aV r,.int a,.int b,.int most]=some (.val (.tup [.lst (ws.map msD),cM o]))∧Apart n r a b most ws o:=by
 suffices q:Wr (Bs [.int n,aV r,.int a,.int b,.int most]) fun v=>∃ ws o,v=.val (.tup [.lst (ws.map msD),cM o])∧Apart n r a b most ws o by
  obtain ⟨v,h1,ws,o,rfl,h2⟩:=q
  exact ⟨ws,o,h1,h2⟩
 unfold Bs
 (refine Dm.Wr.fn ?_ rfl rfl;dsimp only [List.map,List.replicate,List.cons_append,List.nil_append])
 refine Ws.seq (Ws.A (We.F (Was.cons (We.v rfl (Was.cons (We.v rfl (Was.nil (WF.box (tP n (by omega) r hp hl) ?_ rfl rfl rfl rfl))))))) (by decide))
 refine WA.new ?_ (by first | (dsimp only [List.set];first | done | rfl) | rfl)
 refine Ws.seq (Ws.A (We.Dn (WA.new ?_ (by first | (dsimp only [List.set];first | done | rfl) | rfl))) (by decide))
 refine Ws.seq (Ws.A (We.c (WA.val ?_ (by first | (dsimp only [List.set];first | done | rfl) | rfl))) (by decide))
 refine Ws.seq (Ws.A (We.c (WA.val ?_ (by first | (dsimp only [List.set];first | done | rfl) | rfl))) (by decide))
 have hR:∀ i:Nat,i<n→(aE r i).length≤1000:=fun i _=>Nat.le_trans (ee r i) hl
 refine Ws.seq ?_
 refine Ws.wh (fun k ρ=>∃ (c5:Cell) (h:List (Int×Int)) (o:Option (List Int)) (cnt:Nat) (c9:Cell),ρ=L6 n r a b most c5 h o cnt c9∧BJ n r c5∧Hok r h∧Flow r (hdF h) a b cnt∧(cnt:Int)≤most∧(∀ S,o=some S→L5 n a b S∧(Ja r S).length=cnt∧(cnt:Int)<most) ∧
   k=(most-cnt).toNat+(if o=none then 1 else 0)) ?_ 100 (most.toNat+1) _ (by omega) ⟨_,[],none,0,_,rfl,.inl rfl,Hok.nil r,Flow.zero r a b,m0,by simp,by simp⟩
 rintro k ρ ⟨c5,h,o,cnt,c9,rfl,h5,hok,fl,hle,hs,hk⟩
 unfold L6
 have fin:o≠none∨¬ (cnt:Int)<most→Ws (sR (bE [(eFd zc [(eV 5),(eV 6),(eV 2),(eV 3),(eV 8)]),(eV 7)])) [.sh (.int n),.sh (aV r),.sh (.int a),.sh (.int b),.sh (.int most),c5,.ow (bC h),.sh (cM o),.sh (.int cnt),c9]
   (fun _=>∃ ws o,RV.val .non=.val (.tup [.lst (ws.map msD),cM o])∧Apart n r a b most ws o) (fun v _=>∃ ws o,v=.val (.tup [.lst (ws.map msD),cM o])∧Apart n r a b most ws o) (fun _=>False) (fun _=>False):=fun hend=>by
  obtain ⟨ws,ep,wl,W⟩:=zh n hn r hp nd hl h hok a b a0 a1 cnt (by omega) fl
  refine Ws.R (We.T (Was.cons (We.Fd (Gb (Q:=fun _ _=>True) h5 _ _ _ _ _ _ _ _ _ _ fun x hx=>?_))))
  refine Was.cons (We.w rfl (Was.cons (We.v rfl (Was.cons (We.v rfl (Was.cons (We.v rfl (Was.nil ?_))))))))
  have fin2:Apart n r a b most ws o:=⟨W,by rw [wl];exact hle,fun z=>by rw [wl];have:=hend.resolve_left (fun y=>y z);omega,fun S z=>by rw [wl];exact hs S z⟩
  rcases hx with ⟨rfl,rfl⟩ | ⟨rfl,rfl⟩
  ·refine ⟨_,_,_,rfl,ep,xT ws,?_⟩
   refine Was.cons (We.v rfl (Was.nil (WT.mk ?_ rfl rfl (by exact Nat.le_of_ble_eq_true rfl))))
   exact ⟨ws,o,rfl,fin2⟩
  ·refine ⟨_,_,_,rfl,ep,xT ws,?_⟩
   refine Was.cons (We.v rfl (Was.nil (WT.mk ?_ rfl rfl (by exact Nat.le_of_ble_eq_true rfl))))
   exact ⟨ws,o,rfl,fin2⟩
 refine Wt.And (Wt.V (We.e2 (We.v rfl (We.v rfl (Wg2.lt (Wb.mk ?_) rfl rfl)))))
 refine Wif.dec (fun hlt=>?_) fun hge=>?_
 ·refine Wt.V (We.e2 (We.v rfl (We.c (Wg2.isN (Wb.mk ?_) rfl rfl))))
  cases o with
  | some S=>
   refine Wif.no rfl ?_
   exact fin (.inl (by simp))
  | none=>
   refine Wif.yes rfl ?_
   unfold Ga
   obtain ⟨s,es,F,hd⟩:=lR n hn (tQ h (aE r)) (fun i _ _ u hu=>(tS hp ((nK (h:=h)).mp hu).1).2) a a0 a1
   have NI:=F.len
   have search:∀ {N:Env→Prop} {R:RV→Env→Prop} {B C:Env→Prop},(∀ c5',BJ n r c5'→N [.sh (.int n),.sh (aV r),.sh (.int a),.sh (.int b),.sh (.int most),c5',.ow (bC h),.sh (cM none),.sh (.int cnt),.ow (.dct (sk s) (sv s))]) →
     Ws (sA 9 (eF tE [(eFd Bo [(eV 5),(eV 6)]),(eV 2)])) [.sh (.int n),.sh (aV r),.sh (.int a),.sh (.int b),.sh (.int most),c5,.ow (bC h),.sh (cM none),.sh (.int cnt),c9] N R B C:=fun {N R B C} kN=>by
    refine Ws.A (We.F (Was.cons (We.Fd (Gb (Q:=fun _ _=>True) h5 _ _ _ _ _ _ _ _ _ _ fun x hx=>?_)))) (by decide)
    refine Was.cons (We.w rfl (Was.nil ?_))
    rcases hx with ⟨rfl,rfl⟩ | ⟨rfl,rfl⟩
    ·refine ⟨_,_,_,rfl,ir n (by omega) (aE r) hR h,iO _ _,?_⟩
     refine Was.cons (We.v rfl (Was.nil (WF.box es ?_ rfl rfl rfl rfl)))
     exact WA.new (kN _ (.inr rfl)) (by first | (dsimp only [List.set];first | done | rfl) | rfl)
    ·refine ⟨_,_,_,rfl,ir n (by omega) (aE r) hR h,iO _ _,?_⟩
     refine Was.cons (We.v rfl (Was.nil (WF.box es ?_ rfl rfl rfl rfl)))
     exact WA.new (kN _ (.inr rfl)) (by first | (dsimp only [List.set];first | done | rfl) | rfl)
   refine Ws.seq (search fun c5' h5'=>?_)
   refine Ws.If (Wt.V (We.e2 (We.v rfl (We.w rfl (Wg2.din (Wb.mk ?_) rfl rfl)))))
   rw [lQ]
   refine Wif.dec (fun hb=>?_) fun hb=>?_
   ·obtain ⟨w,t1,t2⟩:∃ w,(b,w)∈s∧bO (sk s) (sv s) b=some (cP w):=by
     rcases rj s b with h | h
     ·exact h
     ·exact absurd hb h.1
    obtain ⟨⟨w1,w2⟩,_⟩:=F.way _ t1
    dsimp only at w1 w2
    have w1':Way (nC r (hdF h)) a w b:=w1.mono fun _ _ z=>nK.mp z
    have wms:=BH (fun p s (z:nC r (hdF h) p s)=>z.1) w1'
    have el:=pO r hl h hok w wms
    refine Ws.seq (Ws.E (We.Fm (Was.cons (We.e2 (We.w rfl (We.v rfl (Wg2.dx t2 (Was.nil (WFm.any el ?_ rfl rfl rfl)) rfl rfl))))) rfl))
    refine Ws.A (We.e2 (We.v rfl (We.c (Wg2.add (WA.val ?_ (by first | (dsimp only [List.set];first | done | rfl) | rfl)) rfl rfl)))) (by decide)
    have fl2:=fl.more nd w1' w2
    rw [← qj] at fl2
    refine ⟨(most-(cnt+1:Nat)).toNat+1,by rw [hk];simp;omega,c5',bU h w,none,cnt+1,.ow (.dct (sk s) (sv s)),?_,h5',hok.BG wms,fl2,by omega,by simp,by simp⟩
    have:((cnt:Int)+1)=((cnt+1:Nat):Int):=by omega
    rw [this]
   ·refine Ws.A (We.B (Was.cons (We.B (Was.cons (We.w rfl (Was.nil (WB.LY (ks:=sk s) (vs:=sv s) ?_ rfl (by simp only [sk,List.length_map];omega)))))))) (by decide)
    refine Was.nil (WB.tuple ?_ rfl)
    refine WA.val ?_ (by first | (dsimp only [List.set];first | done | rfl) | rfl)
    have pm:=ff ltI (sk s)
    have hS:∀ x,x∈fM ltI (sk s)↔x∈sk s:=fun x=>pm.mem_iff
    refine ⟨(most-cnt).toNat,by rw [hk];simp,c5',h,some (fM ltI (sk s)),cnt,.ow (.dct (sk s) (sv s)),rfl,h5',hok,fl,hle,fun S z=>?_,by simp⟩
    cases z
    refine ⟨⟨BI F.nd,fun x hx=>F.pl x ((hS x).mp hx),(hS a).mpr F.st,fun z=>hb ((hS b).mp z)⟩,?_,hlt⟩
    have:=fl.cut (S:=fun y=>decide (y∈fM ltI (sk s))) (decide_eq_true ((hS a).mpr F.st)) (decide_eq_false fun z=>hb ((hS b).mp z)) fun y u hy hu=>decide_eq_true ((hS _).mpr (hd y ((hS y).mp (of_decide_eq_true hy)) u (nK.mpr hu)))
    unfold Ja
    rw [List.length_map]
    exact this
 ·refine Wif.no rfl ?_
  exact fin (.inr hge)
theorem cg (x n:Int) (h:1≤n):0≤x % n∧x % n<n:=⟨Int.emod_nonneg x (by omega),Int.emod_lt_of_pos x (by omega)⟩
noncomputable def at' (ns:List Int) (i:Int):Int:=ns.getD i.toNat 0
theorem Jb (ns:List Int) (i:Int) (h0:0≤i) (h1:i<ns.length):gIx (.lst (ns.map Dat.int)) (.int i)=some (.val (.int (at' ns i))):=by
 show (atI (ns.map Dat.int) i).map RV.val=_
 rw [Dm.jY Dat.int ns i h0 h1]
 unfold at'
 rw [List.getD_eq_getElem?_getD,List.getElem?_eq_getElem (by omega)]
 rfl
theorem L7 {ns:List Int} {i:Int} {o p:Option Dat} {K:RV→Prop} (h0:0≤i) (h1:i<ns.length) (k:K (.val (.int (at' ns i)))) (ho:o=some (.lst (ns.map Dat.int))) (hp:p=some (.int i)):Wg2 gIx o p K:=⟨_,_,_,ho,hp,Jb ns i h0 h1,k⟩
theorem Wg2.EN {i j:Int} {o p:Option Dat} {K:RV→Prop} (k:K (.val (.int (i*j)))) (ho:o=some (.int i)) (hp:p=some (.int j)) (h:i.natAbs.log2<1000000∧j.natAbs.log2<1000000):Wg2 jW o p K:=⟨_,_,_,ho,hp,by unfold jW;dsimp only;rw [if_pos h],k⟩
noncomputable def aS (x:Int):Dat:=.lst [.int x]
noncomputable abbrev Z60:Int:=1000000000000000000000000000000000000000000000000000000000000
theorem rq (ns:List Int) (k:Int) (h0:0≤k) (h1:k<1000):∃ x,nE [.lst (ns.map Dat.int),.int k]=some (.new (aS x)):=by
 suffices h:Wr (nE [.lst (ns.map Dat.int),.int k]) fun v=>∃ x,v=.new (aS x) by
  obtain ⟨v,h1,c,rfl⟩:=h
  exact ⟨c,h1⟩
 unfold nE
 (refine Dm.Wr.fn ?_ rfl rfl;dsimp only [List.map,List.replicate,List.cons_append,List.nil_append])
 refine Ws.seq (Ws.A (We.c (WA.val ?_ (by first | (dsimp only [List.set];first | done | rfl) | rfl))) (by decide))
 refine Ws.cut (fun ρ=>∃ c:Int,ρ=[.sh (.lst (ns.map Dat.int)),.sh (.int k),.sh (.int c),.un,.un,.un]) ?_ ?_
 ·repeat array_get_dec
  refine ⟨fun h=>?_,fun h=>?_⟩
  ·have h:=of_decide_eq_true h
   repeat array_get_dec
   refine L7 h0 (by simpa using h) ?_ rfl rfl
   repeat array_get_dec
   exact ⟨_,rfl⟩
  ·repeat array_get_dec
   exact ⟨_,rfl⟩
 rintro ρ ⟨c,rfl⟩
 refine Ws.seq (Ws.If (Wt.V (We.e2 (We.v rfl (We.e2 (We.c (We.c (Wg2.pow (z:=1000000000000000000) ?_ rfl rfl (by decide) (by decide)))))))))
 refine Wg2.ge (Wb.mk ?_) rfl rfl
 have p60:∀ {K:RV→Prop} {o p:Option Dat},K (.val (.int Z60))→o=some (.int 10)→p=some (.int 60)→Wg2 fZ o p K:=fun k ho hp=>Wg2.pow (z:=Z60) k ho hp (by decide) (by decide +kernel)
 refine ⟨fun h=>?_,fun h=>?_⟩
 ·refine Ws.R (We.L (Was.cons (We.e2 (We.v rfl ?_))))
  refine We.e2 (We.e2 (We.e2 (We.e2 (We.e2 (We.c (We.c (p60 ?_ rfl rfl)))))))
  refine We.e2 (We.c (We.c (p60 ?_ rfl rfl)))
  refine Wg2.EN ?_ rfl rfl (by decide +kernel)
  refine We.e2 (We.c (We.c (p60 ?_ rfl rfl)))
  refine Wg2.EN ?_ rfl rfl (by decide +kernel)
  refine We.e2 (We.c (We.c (p60 ?_ rfl rfl)))
  refine Wg2.EN ?_ rfl rfl (by decide +kernel)
  refine We.e2 (We.c (We.c (p60 ?_ rfl rfl)))
  refine Wg2.EN ?_ rfl rfl (by decide +kernel)
  refine Wg2.mod ?_ rfl rfl (by decide +kernel)
  refine Was.nil (WT.mk ?_ rfl rfl (by exact Nat.le_of_ble_eq_true rfl))
  exact ⟨_,rfl⟩
 ·refine Ws.nx ?_
  refine Ws.cut (fun ρ=>∃ x:Int,(0≤x∧x<2147483647)∧ρ=[.sh (.lst (ns.map Dat.int)),.sh (.int k),.sh (.int c),.sh (.int x),.un,.un]) ?_ ?_
  ·repeat array_get_dec
   ·exact ⟨_,cg _ _ (by decide),rfl⟩
   ·exact .inr (by unfold B64;omega)
  rintro ρ ⟨x,hx,rfl⟩
  refine Ws.seq (Ws.A (We.c (WA.val ?_ (by first | (dsimp only [List.set];first | done | rfl) | rfl))) (by decide))
  refine Ws.seq (Ws.For (Wi.R1 (We.c (dJ.mk ⟨?_,by decide,by decide⟩))))
  refine Ws.inv (fun i:Nat=>Dat.int (0+(i:Nat))) _ _ (List.range 40) _ _ _ _ _ (fun p q ρ=>∃ (x f:Int) (c5:Cell),(0≤x∧x<2147483647)∧ρ=[.sh (.lst (ns.map Dat.int)),.sh (.int k),.sh (.int c),.sh (.int x),.sh (.int f),c5]) ⟨_,_,_,hx,rfl⟩ ?_ ?_
  ·rintro p i q ρ e ⟨x,f,c5,hx,rfl⟩
   refine Dm.cE rfl (by first | (dsimp only [List.set];first | done | rfl) | rfl) ?_
   unfold Bw
   refine Ws.cut (fun ρ=>∃ y:Int,(0≤y∧y<2147483647)∧ρ=[.sh (.lst (ns.map Dat.int)),.sh (.int k),.sh (.int c),.sh (.int y),.sh (.int f),.sh (.int (0+(i:Nat)))]) ?_ ?_
   ·repeat array_get_dec
    exact ⟨_,by have:=cg (x*48271+7919*(0+((i:Nat):Int))+3) 2147483629 (by decide);omega,rfl⟩
   rintro ρ ⟨y,hy,rfl⟩
   refine Ws.cut (fun ρ=>∃ y:Int,(0≤y∧y<2147483647)∧ρ=[.sh (.lst (ns.map Dat.int)),.sh (.int k),.sh (.int c),.sh (.int y),.sh (.int f),.sh (.int (0+(i:Nat)))]) ?_ ?_
   ·repeat array_get_dec
    ·exact ⟨_,by have:=cg (y*y) 2147483587 (by decide);omega,rfl⟩
    ·exact .inl (by unfold B64;omega)
   rintro ρ ⟨z,hz,rfl⟩
   repeat array_get_dec
   exact ⟨_,_,_,hz,rfl⟩
  ·rintro ρ ⟨x,f,c5,hx,rfl⟩
   repeat array_get_dec
   exact ⟨_,rfl⟩
theorem EO (x m:Int) (h0:0<m) (h1:m<iD):b9 [aS x,.int m]=some (.val (.int (x % m)),aS (x / m)):=by
 suffices h:WrM (b9 [aS x,.int m]) fun v d=>v=.val (.int (x % m))∧d=aS (x / m) by
  obtain ⟨v,d,h1,rfl,rfl⟩:=h
  exact h1
 unfold b9
 refine WrM.fn ?_ rfl rfl
 dsimp only [List.map,List.replicate,List.cons_append,List.nil_append]
 unfold aS
 repeat array_get_dec
 ·refine Ws.Set ?_
  repeat array_get_dec
  ·refine ⟨_,0,_,rfl,rfl,rfl,?_⟩
   repeat array_get_dec
   exact ⟨_,rfl,rfl,rfl⟩
  ·exact ⟨h0,h1⟩
 ·exact h0
noncomputable def Wtk (j:Nat) (m:Int) (ρ1:Env) (Q:Val→Env→Prop):Prop:=∃ x ρ3,Q (.val (.int (x % m))) ρ3∧ρ1[j]?=some (.ow (aS x))∧ρ1.set j (.ow (aS (x / m)))=ρ3∧0<m∧m<iD
theorem g7 {j:Nat} {x m:Int} {ρ1 ρ3:Env} {Q:Val→Env→Prop} (q:Q (.val (.int (x % m))) ρ3) (h2:ρ1[j]?=some (.ow (aS x))) (hn:ρ1.set j (.ow (aS (x / m)))=ρ3) (h0:0<m) (h1:m<iD):Wtk j m ρ1 Q:=⟨_,_,q,h2,hn,h0,h1⟩
theorem We.take {j:Nat} {a:FE} {ρ:Env} {d0:Dat} {Q:Val→Env→Prop} (h:We a ρ fun v ρ1=>dJ v fun m=>Wtk j m ρ1 Q) (h0:ρ[j]?=some (.ow d0)):We (eFm b9 j [a]) ρ Q:=by
 refine We.Fm (Was.cons ?_) h0
 obtain ⟨v,ρ1,e1,m,rfl,x,ρ3,q,e2,e3,m0,m1⟩:=h
 exact ⟨_,_,e1,Was.nil (WFm.any (EO x m m0 m1) q e2 rfl e3)⟩
theorem We.drw {j:Nat} {a:FE} {ρ:Env} {x m:Int} {Q:Val→Env→Prop} (ha:a ρ=some (.val (.int m),ρ)) (h0:0<m) (h1:m<iD) (hj:ρ[j]?=some (.ow (aS x))) (k:∀ t x':Int,0≤t→t<m→∀ ρ3,ρ.set j (.ow (aS x'))=ρ3→Q (.val (.int t)) ρ3):We (eFm b9 j [a]) ρ Q:=
 We.take ⟨_,_,ha,m,rfl,g7 (k _ _ (cg x m (by omega)).1 (cg x m (by omega)).2 _ rfl) hj rfl h0 h1⟩ hj
noncomputable def Good (n:Int):Int→List Tie→Prop
 | _,[]=>True
 | lo,t::r=>lo≤t.m∧0≤t.a∧t.a≤t.b∧t.b<n∧Good n (t.m+1) r
theorem Good.pl {n:Nat}:∀ {r:List Tie} {lo:Int},Good n lo r→Pl n r
 | [],_,_,t,ht=>by cases ht
 | u::r,lo,h,t,ht=>by
  obtain ⟨h1,h2,h3,h4,h5⟩:=h
  rcases List.mem_cons.mp ht with rfl | ht
  ·omega
  ·exact Good.pl h5 t ht
theorem Good.lo {n:Int}:∀ {r:List Tie} {lo:Int},Good n lo r→∀ t∈r,lo≤t.m
 | [],_,_,t,ht=>by cases ht
 | u::r,lo,h,t,ht=>by
  obtain ⟨h1,h2,h3,h4,h5⟩:=h
  rcases List.mem_cons.mp ht with rfl | ht
  ·exact h1
  ·have:=Good.lo h5 t ht;omega
theorem Good.nd {n:Int}:∀ {r:List Tie} {lo:Int},Good n lo r→(r.map (·.m)).Nodup
 | [],_,_=>by simp
 | u::r,lo,h=>by
  obtain ⟨h1,h2,h3,h4,h5⟩:=h
  rw [List.map_cons,List.nodup_cons]
  refine ⟨fun z=>?_,Good.nd h5⟩
  obtain ⟨t,ht,e⟩:=List.mem_map.mp z
  have:=Good.lo h5 t ht
  omega
theorem Good.weak {n:Int}:∀ {r:List Tie} {lo lo':Int},lo'≤lo→Good n lo r→Good n lo' r
 | [],_,_,_,_=>trivial
 | _::_,_,_,h,k=>⟨by have:=k.1;omega,k.2⟩
theorem Good.filter {n:Int} (p:Tie→Bool):∀ {r:List Tie} {lo:Int},Good n lo r→Good n lo (r.filter p)
 | [],_,_=>trivial
 | u::r,lo,h=>by
  obtain ⟨h1,h2,h3,h4,h5⟩:=h
  by_cases q:p u=true
  ·rw [List.filter_cons_of_pos q];exact ⟨h1,h2,h3,h4,Good.filter p h5⟩
  ·rw [List.filter_cons_of_neg q];exact Good.weak (by omega) (Good.filter p h5)
theorem Good.snoc {n:Int}:∀ {r:List Tie} {lo hi:Int} {t:Tie},Good n lo r→(∀ u∈r,u.m<hi)→lo≤hi→hi=t.m→0≤t.a→t.a≤t.b→t.b<n→Good n lo (r++[t])
 | [],_,_,_,_,_,h,e,h1,h2,h3=>⟨by omega,h1,h2,h3,trivial⟩
 | u::r,lo,hi,t,h,hu,hl,e,h1,h2,h3=>by
  obtain ⟨k1,k2,k3,k4,k5⟩:=h
  exact ⟨k1,k2,k3,k4,Good.snoc k5 (fun v hv=>hu v (List.mem_cons_of_mem _ hv)) (by have:=hu u List.mem_cons_self;omega) e h1 h2 h3⟩
theorem ER (x:Int):∃ (n x':Int),tH [aS x]=some (.val (.int n),aS x')∧1≤n∧n≤10:=by
 suffices h:WrM (tH [aS x]) fun v d=>∃ n x':Int,v=.val (.int n)∧d=aS x'∧1≤n∧n≤10 by
  obtain ⟨v,d,h1,n,x',rfl,rfl,h2⟩:=h
  exact ⟨n,x',h1,h2⟩
 unfold tH
 refine WrM.fn ?_ rfl rfl
 dsimp only [List.map,List.replicate,List.cons_append,List.nil_append]
 refine Ws.R (We.e2 ?_)
 repeat array_get_dec
 refine We.drw (m:=8) rfl (by decide) (by decide) rfl fun t x' h0 h1 ρ3 e=>?_
 subst e
 have:t=0∨t=1∨t=2∨t=3∨t=4∨t=5∨t=6∨t=7:=by omega
 rcases this with rfl | rfl | rfl | rfl | rfl | rfl | rfl | rfl <;>
 ·refine Wg2.ix ?_ rfl rfl rfl
  exact ⟨_,rfl,_,x',rfl,rfl,by decide,by decide⟩
theorem ix4 (a b c d:Int) (x:Int) (h0:0≤x) (h:x<4):gIx (.lst [.int a,.int b,.int c,.int d]) (.int x)=some (.val (.int (if x=0 then a else if x=1 then b else if x=2 then c else d))):=by
 have:x=0∨x=1∨x=2∨x=3:=by omega
 rcases this with rfl | rfl | rfl | rfl<;>rfl
noncomputable abbrev Z28:Int:=10000000000000000000000000000
noncomputable abbrev Z30:Int:=1000000000000000000000000000000
noncomputable def RE (pool:Int) (n most many kind step times way Jc:Int) (r:List Tie) (c10 c11 c12:Cell):Env:=
 [.ow (aS pool),.sh (.int n),.sh (.int most),.sh (.int many),.sh (.int kind),.sh (.int step),.sh (.int times),.sh (.int way),.sh (.int Jc),.ow (aV r),c10,c11,c12]
theorem ES (a b:Int):(if b<a then b else a)≤(if b>a then b else a):=by split<;>split<;>omega
theorem zj (x n most:Int) (n1:1≤n) (n10:n≤10) (m0:0≤most) (m60:most≤60) :
  ∃ (r:List Tie) (x':Int),tL [aS x,.int n,.int most]=some (.new (aV r),aS x')∧Good n 0 r∧(r.length:Int)≤most∧∀ t∈r,t.m≤Z30:=by
 suffices hh:WrM (tL [aS x,.int n,.int most]) fun v d=>∃ (r:List Tie) (x':Int),v=.new (aV r)∧d=aS x'∧Good n 0 r∧(r.length:Int)≤most∧∀ t∈r,t.m≤Z30 by
  obtain ⟨v,d,h1,h,x',rfl,rfl,h2⟩:=hh
  exact ⟨h,x',h1,h2⟩
 unfold tL
 refine WrM.fn ?_ rfl rfl
 dsimp only [List.map,List.replicate,List.cons_append,List.nil_append]
 refine Ws.seq (Ws.A ?_ (by decide))
 refine We.drw (m:=most+1) rfl (by omega) (by unfold iD;omega) rfl fun many x1 h1 h2 ρ3 e=>?_
 subst e
 refine WA.val ?_ (by first | (dsimp only [List.set];first | done | rfl) | rfl)
 refine Ws.seq (Ws.A ?_ (by decide))
 refine We.drw (m:=4) rfl (by decide) (by decide) rfl fun kind x2 k1 k2 ρ3 e=>?_
 subst e
 refine WA.val ?_ (by first | (dsimp only [List.set];first | done | rfl) | rfl)
 refine Ws.cut (fun ρ=>∃ step:Int,(1≤step∧step≤1000000∧(kind=3→step≤1000))∧ρ=[.ow (aS x2),.sh (.int n),.sh (.int most),.sh (.int many),.sh (.int kind),.sh (.int step),.un,.un,.un,.un,.un,.un,.un]) ?_ ?_
 ·refine Ws.A (We.e2 (We.L (Was.cons (We.c (Was.cons (We.c (Was.cons (We.e2 (We.c (We.c (Wg2.pow (z:=1000000) ?_ rfl rfl (by decide) (by decide)))))))))))) (by decide)
  refine Was.cons (We.c (Was.nil (WT.mk ?_ rfl rfl (by exact Nat.le_of_ble_eq_true rfl))))
  refine We.v rfl (Wg2.ix ?_ rfl rfl (ix4 1 3 1000000 1000 kind k1 k2))
  refine WA.val ?_ (by first | (dsimp only [List.set];first | done | rfl) | rfl)
  refine ⟨_,?_,rfl⟩
  have:kind=0∨kind=1∨kind=2∨kind=3:=by omega
  rcases this with q | q | q | q<;>rw [q]<;>decide
 rintro ρ ⟨step,hs,rfl⟩
 refine Ws.cut (fun ρ=>∃ times:Int,(0≤times∧step*times≤Z28)∧ρ=[.ow (aS x2),.sh (.int n),.sh (.int most),.sh (.int many),.sh (.int kind),.sh (.int step),.sh (.int times),.un,.un,.un,.un,.un,.un]) ?_ ?_
 ·refine Ws.A (We.e2 (We.L (Was.cons (We.c (Was.cons (We.e2 (We.c (We.c (Wg2.pow (z:=10000000000000000000000000) ?_ rfl rfl (by decide) (by decide)))))))))) (by decide)
  refine Was.nil (WT.mk ?_ rfl rfl (by exact Nat.le_of_ble_eq_true rfl))
  refine We.B (Was.cons (We.e2 (We.v rfl (We.c (Wg2.eq ?_ rfl rfl)))))
  refine Was.nil (WB.int ?_ rfl)
  by_cases q:kind=3
  ·rw [decide_eq_true q]
   refine Wg2.ix (v:=.int 10000000000000000000000000) ?_ rfl rfl rfl
   exact WA.val ⟨10000000000000000000000000,⟨by decide,by have:=hs.2.2 q;unfold Z28;omega⟩,rfl⟩ (by first | (dsimp only [List.set];first | done | rfl) | rfl)
  ·rw [decide_eq_false q]
   refine Wg2.ix (v:=.int 1) ?_ rfl rfl rfl
   exact WA.val ⟨1,⟨by decide,by unfold Z28;omega⟩,rfl⟩ (by first | (dsimp only [List.set];first | done | rfl) | rfl)
 rintro ρ ⟨times,⟨ht,hst⟩,rfl⟩
 have tb:∀ t:Int,0≤t→t<step→t*times≤Z28:=fun t _ t2=>Int.le_trans (Int.mul_le_mul_of_nonneg_right (Int.le_of_lt t2) ht) hst
 refine Ws.seq (Ws.A ?_ (by decide))
 refine We.drw (m:=4) rfl (by decide) (by decide) rfl fun way x3 w1 w2 ρ3 e=>?_
 subst e
 refine WA.val ?_ (by first | (dsimp only [List.set];first | done | rfl) | rfl)
 refine Ws.cut (fun ρ=>∃ x4 mo:Int,(0≤mo∧mo≤Z28)∧ρ=[.ow (aS x4),.sh (.int n),.sh (.int most),.sh (.int many),.sh (.int kind),.sh (.int step),.sh (.int times),.sh (.int way),.sh (.int mo),.un,.un,.un,.un]) ?_ ?_
 ·refine Ws.A (We.e2 ?_) (by decide)
  refine We.drw (m:=step) rfl (by omega) (by unfold iD;omega) rfl fun t x4 t1 t2 ρ3 e=>?_
  subst e
  refine We.v rfl (Wg2.mul ?_ rfl rfl (.inl (by unfold B64;omega)))
  exact WA.val ⟨_,_,⟨Int.mul_nonneg t1 ht,tb t t1 t2⟩,rfl⟩ (by first | (dsimp only [List.set];first | done | rfl) | rfl)
 rintro ρ ⟨x4,mo,hmo,rfl⟩
 refine Ws.seq (Ws.A (We.L (Was.nil (WT.mk ?_ rfl rfl (by decide)))) (by decide))
 refine WA.new ?_ (by first | (dsimp only [List.set];first | done | rfl) | rfl)
 refine Ws.seq (Ws.For (Wi.R1 (We.v rfl (dJ.mk ⟨?_,by unfold BIG;omega⟩))))
 refine Ws.inv (fun i:Nat=>Dat.int (0+(i:Nat))) _ _ (List.range many.toNat) _ _ _ _ _ (fun p q ρ=>∃ (x mo:Int) (r:List Tie) (c10 c11 c12:Cell),ρ=RE x n most many kind step times way mo r c10 c11 c12∧Good n 0 r∧r.length=p.length∧(∀ u∈r,u.m<mo)∧0≤mo∧mo≤((p.length:Int)+1)*(Z28+1))
  ⟨_,_,[],_,_,_,rfl,trivial,rfl,(fun u hu=>by cases hu),hmo.1,by have:=hmo.2;simp;omega⟩ ?_ ?_
 ·rintro p i q ρ e ⟨x,mo,r,c10,c11,c12,rfl,hg,hl,hu,hm,hM⟩
  have lp:p.length<100:=by
   have:(List.range many.toNat).length=p.length+(q.length+1):=by rw [e];simp
   rw [List.length_range] at this;omega
  unfold RE
  refine Dm.cE rfl (by first | (dsimp only [List.set];first | done | rfl) | rfl) ?_
  unfold Bx
  refine Ws.seq (Ws.A ?_ (by decide))
  refine We.drw (m:=n) rfl (by omega) (by unfold iD;omega) rfl fun one y1 o1 o2 ρ3 e=>?_
  subst e
  refine WA.val ?_ (by first | (dsimp only [List.set];first | done | rfl) | rfl)
  refine Ws.seq (Ws.A ?_ (by decide))
  refine We.drw (m:=n) rfl (by omega) (by unfold iD;omega) rfl fun oth y2 u1 u2 ρ3 e=>?_
  subst e
  refine WA.val ?_ (by first | (dsimp only [List.set];first | done | rfl) | rfl)
  refine Ws.cut (fun ρ=>∃ o:Int,(0≤o∧o<n)∧ρ=RE y2 n most many kind step times way mo r (.sh (.int (0+(i:Nat)))) (.sh (.int one)) (.sh (.int o))) ?_ ?_
  ·refine Ws.If (Wt.V (We.e2 (We.v rfl (We.c (Wg2.eq (Wb.mk ?_) rfl rfl)))))
   refine Wif.dec (fun _=>?_) fun _=>?_
   ·refine Ws.A (We.e2 (We.e2 (We.v rfl (We.c (Wg2.add (We.v rfl (Wg2.mod ?_ rfl rfl (by omega))) rfl rfl))))) (by decide)
    exact WA.val ⟨_,cg _ n n1,rfl⟩ (by first | (dsimp only [List.set];first | done | rfl) | rfl)
   ·exact Ws.nx ⟨oth,⟨u1,u2⟩,rfl⟩
  rintro ρ ⟨o,⟨q1,q2⟩,rfl⟩
  refine Ws.cut (fun ρ=>∃ o:Int,(0≤o∧o<n)∧ρ=RE y2 n most many kind step times way mo r (.sh (.int (0+(i:Nat)))) (.sh (.int one)) (.sh (.int o))) ?_ ?_
  ·unfold RE
   refine Ws.If (Wt.V (We.e2 (We.v rfl (We.c (Wg2.eq (Wb.mk ?_) rfl rfl)))))
   refine Wif.dec (fun _=>?_) fun _=>?_
   ·refine Ws.A (We.e2 (We.e2 (We.e2 (We.e2 (We.v rfl (We.e2 (We.v rfl (We.c (Wg2.mod ?_ rfl rfl (by decide)))))))))) (by decide)
    refine Wg2.add ?_ rfl rfl
    refine We.c (Wg2.add ?_ rfl rfl)
    refine We.B (Was.cons (We.v rfl (Was.cons (We.c (Was.nil (WB.min2 ?_ rfl))))))
    refine Wg2.mod ?_ rfl rfl (by split<;>omega)
    refine We.v rfl (Wg2.mod ?_ rfl rfl (by omega))
    exact WA.val ⟨_,cg _ n n1,rfl⟩ (by first | (dsimp only [List.set];first | done | rfl) | rfl)
   ·exact Ws.nx ⟨o,⟨q1,q2⟩,rfl⟩
  rintro ρ ⟨o,⟨q1,q2⟩,rfl⟩
  unfold RE
  refine Ws.seq (Ws.App (We.T (Was.cons (We.v rfl (Was.cons (We.B (Was.cons (We.v rfl (Was.cons (We.v rfl (Was.nil (WB.min2 ?_ rfl))))))))))) rfl)
  refine Was.cons (We.B (Was.cons (We.v rfl (Was.cons (We.v rfl (Was.nil (WB.max2 ?_ rfl)))))))
  refine Was.nil (WT.mk ?_ rfl rfl (by exact Nat.le_of_ble_eq_true rfl))
  refine Wk.val (nB ?_ rfl (by first | (dsimp only [List.set];first | done | rfl) | rfl) (by rw [List.length_map];unfold SZ;omega))
  refine Ws.A (We.e2 (We.e2 (We.v rfl (We.c (Wg2.add ?_ rfl rfl))))) (by decide)
  refine We.e2 ?_
  refine We.drw (m:=step) rfl (by omega) (by unfold iD;omega) rfl fun t x4 t1 t2 ρ3 e=>?_
  subst e
  refine We.v rfl (Wg2.mul ?_ rfl rfl (.inl (by unfold B64;omega)))
  refine Wg2.add ?_ rfl rfl
  refine WA.val ?_ (by first | (dsimp only [List.set];first | done | rfl) | rfl)
  have tn:=Int.mul_nonneg t1 ht
  refine ⟨x4,mo+1+t*times,r++[⟨mo,(if o<one then o else one),(if o>one then o else one)⟩],.sh (.int (0+(i:Nat))),.sh (.int one),.sh (.int o),?_,?_,by simp [hl],?_,by omega,?_⟩
  ·unfold aV
   rw [List.map_append]
   rfl
  ·refine Good.snoc (hi:=mo) hg hu hm rfl ?_ (ES one o) ?_
   ·show 0≤(if o<one then o else one);split<;>omega
   ·show (if o>one then o else one)<n;split<;>omega
  ·intro u hu'
   rcases List.mem_append.mp hu' with h | h
   ·have:=hu u h;omega
   ·rw [List.mem_singleton.mp h];show mo<_;omega
  ·have:=tb t t1 t2
   rw [List.length_append,List.length_singleton]
   have e:(((p.length+1:Nat):Int)+1)*(Z28+1)=((p.length:Int)+1)*(Z28+1)+(Z28+1):=by
    rw [Int.natCast_add,Int.add_mul (((p.length:Int))+((1:Nat):Int)) 1,Int.one_mul]
    rfl
   rw [e]
   omega
 ·rintro ρ ⟨x,mo,r,c10,c11,c12,rfl,hg,hl,hu,hm,hM⟩
  unfold RE
  refine Ws.R (We.w rfl (WR.slot ?_ rfl))
  rw [List.length_range] at hM hl
  refine ⟨_,rfl,r,x,rfl,rfl,hg,?_,fun t ht=>?_⟩
  ·rw [hl]
   omega
  ·have h1:=hu t ht
   have h2:((many.toNat:Int)+1)*(Z28+1)≤61*(Z28+1):=Int.mul_le_mul_of_nonneg_right (by omega) (by decide)
   have h3:(61:Int)*(Z28+1)≤Z30:=by decide
   omega
theorem ET {x y:Tie} (h:x.m=y.m∧x.a=y.a∧x.b=y.b):x=y:=by
 cases x;cases y;simp only [Tie.mk.injEq];exact h
instance NJ:DecidableEq Tie:=fun x y=>decidable_of_iff (x.m=y.m∧x.a=y.a∧x.b=y.b) ⟨ET,fun h=>by rw [h];exact ⟨rfl,rfl,rfl⟩⟩
theorem tT (i:Int):Bt [.int i]=some (.val (.bl true)):=by
 apply Wr.eq
 unfold Bt
 (refine Dm.Wr.fn ?_ rfl rfl;dsimp only [List.map,List.replicate,List.cons_append,List.nil_append])
 refine Ws.R (We.And (We.e1 (We.v rfl (Wg1.mk ?_ rfl rfl))))
 refine Wb.mk (Wif.t (We.Not (We.e1 (We.v rfl (Wg1.mk ?_ rfl rfl)))))
 exact Wb.mk rfl
theorem eW (i lo hi:Int) (h0:lo≤i) (h1:i≤hi):kU [.int i,.int lo,.int hi]=some (.val (.bl true)):=by
 unfold kU
 simp [fn,sR,jN,eF,eAs,eV,pks,pk,tT,RV.bG,RV.dat,fH,iF,gLe,h0,h1]
theorem nM (k:Int) (h0:1≤k) (h1:k≤6):xJ [.int k]=some (.val .non):=by
 have e:gy [.int k]=some (.val (.bl true)):=by
  apply Wr.eq
  unfold gy
  (refine Dm.Wr.fn ?_ rfl rfl;dsimp only [List.map,List.replicate,List.cons_append,List.nil_append])
  refine Ws.R (We.F (Was.cons (We.v rfl (Was.cons (We.c (Was.cons (We.c (Was.nil (WF.val (eW k 1 6 h0 h1) ?_ rfl rfl)))))))))
  rfl
 apply Wr.eq
 unfold xJ
 (refine Dm.Wr.fn ?_ rfl rfl;dsimp only [List.map,List.replicate,List.cons_append,List.nil_append])
 refine Ws.If (Wt.Not (Wt.V (We.F (Was.cons (We.v rfl (Was.nil (WF.val e ?_ rfl rfl)))))))
 exact Wb.mk (Wif.f (Ws.nx rfl))
noncomputable def mgf (f:Int→Int) (a b:Int):Int→Int:=fun x=>if f x=f b then f a else f x
inductive Con (ts:List Tie):Int→Int→Prop
 | refl (x:Int):Con ts x x
 | tie (t:Tie):t∈ts→Con ts t.a t.b
 | symm {x y:Int}:Con ts x y→Con ts y x
 | trans {x y z:Int}:Con ts x y→Con ts y z→Con ts x z
theorem Con.mono {ts us:List Tie} (h:∀ t∈ts,t∈us) {x y:Int} (c:Con ts x y):Con us x y:=by
 induction c with
 | refl x=>exact .refl x
 | tie t m=>exact .tie t (h t m)
 | symm _ ih=>exact .symm ih
 | trans _ _ i1 i2=>exact .trans i1 i2
noncomputable def Tells (f:Int→Int) (ts:List Tie):Prop:=∀ x y,f x=f y↔Con ts x y
theorem Con.nil {x y:Int} (c:Con [] x y):x=y:=by
 induction c with
 | refl x=>rfl
 | tie t m=>cases m
 | symm _ ih=>exact ih.symm
 | trans _ _ i1 i2=>exact i1.trans i2
theorem tells_nil:Tells (fun x=>x) []:=fun x y=>⟨fun h=>by cases h;exact .refl _,fun c=>c.nil⟩
theorem tells_mgf {f:Int→Int} {ts:List Tie} (h:Tells f ts) (t:Tie) (a b:Int) (hab:(a=t.a∧b=t.b)∨(a=t.b∧b=t.a)):Tells (mgf f a b) (t::ts):=by
 have up:∀ {x y},f x=f y→Con (t::ts) x y:=fun e=>Con.mono (fun u m=>List.mem_cons_of_mem _ m) ((h _ _).mp e)
 have ab:Con (t::ts) a b:=by
  rcases hab with ⟨rfl,rfl⟩ | ⟨rfl,rfl⟩
  ·exact .tie t List.mem_cons_self
  ·exact .symm (.tie t List.mem_cons_self)
 intro x y
 unfold mgf
 constructor
 ·intro e
  by_cases hx:f x=f b
  ·rw [if_pos hx] at e
   by_cases hy:f y=f b
   ·exact up (hx.trans hy.symm)
   ·rw [if_neg hy] at e
    exact .trans (up hx) (.trans (.symm ab) (up e))
  ·rw [if_neg hx] at e
   by_cases hy:f y=f b
   ·rw [if_pos hy] at e
    exact .trans (up e) (.trans ab (.symm (up hy)))
   ·rw [if_neg hy] at e
    exact up e
 ·intro c
  have key:∀ {x y:Int},Con (t::ts) x y→(if f x=f b then f a else f x)=(if f y=f b then f a else f y):=fun c=>by
   induction c with
   | refl x=>rfl
   | tie u m=>
    rcases List.mem_cons.mp m with rfl | m
    ·rcases hab with ⟨rfl,rfl⟩ | ⟨rfl,rfl⟩
     ·rw [if_pos (rfl:f u.b=f u.b)]
      split
      ·rfl
      ·rfl
     ·rw [if_pos (rfl:f u.a=f u.a)]
      split
      ·rfl
      ·rfl
    ·have e:=(h u.a u.b).mpr (.tie u m)
     rw [e]
   | symm _ ih=>exact ih.symm
   | trans _ _ i1 i2=>exact i1.trans i2
  exact key c
noncomputable def lay (r:List Tie) (ms:List Int) (j:Int):List Tie:=((r.zip ms).filter fun p=>decide (p.2=j)).map (·.1)
theorem j7 (t:Tie) (m:Int) (r:List Tie) (ms:List Int) (j:Int):lay (t::r) (m::ms) j=if m=j then t::lay r ms j else lay r ms j:=by
 unfold lay
 rw [List.zip_cons_cons,List.filter_cons]
 by_cases h:m=j<;>simp [h]
noncomputable def qk (k:Int) (r:List Tie) (ms:List Int) (t:Tie) (m:Int):Prop:=
 (m=0∧∀ j,1≤j→j≤k→Con (lay r ms j) t.a t.b)∨(1≤m∧m≤k∧¬ Con (lay r ms m) t.a t.b∧∀ j,1≤j→j<m→Con (lay r ms j) t.a t.b)
noncomputable def bV (k:Int):List Tie→List Int→Prop
 | [],[]=>True
 | t::r,m::ms=>bV k r ms∧qk k r ms t m
 | _,_=>False
theorem qk.uniq {k:Int} {r:List Tie} {ms:List Int} {t:Tie} {m m':Int} (h:qk k r ms t m) (h':qk k r ms t m'):m=m':=by
 rcases h with ⟨rfl,h⟩ | ⟨h1,h2,h3,h4⟩
 ·rcases h' with ⟨rfl,_⟩ | ⟨g1,g2,g3,_⟩
  ·rfl
  ·exact absurd (h m' g1 g2) g3
 ·rcases h' with ⟨rfl,h'⟩ | ⟨g1,g2,g3,g4⟩
  ·exact absurd (h' m h1 h2) h3
  ·rcases Int.lt_trichotomy m m' with q | q | q
   ·exact absurd (g4 m h1 q) h3
   ·exact q
   ·exact absurd (h4 m' g1 q) g3
theorem bV.len {k:Int}:∀ {r:List Tie} {ms:List Int},bV k r ms→ms.length=r.length
 | [],[],_=>rfl
 | _::r,_::ms,h=>by simp [bV.len h.1]
 | [],_::_,h=>h.elim
 | _::_,[],h=>h.elim
theorem bV.uniq {k:Int}:∀ {r:List Tie} {ms ms':List Int},bV k r ms→bV k r ms'→ms=ms'
 | [],[],[],_,_=>rfl
 | _::r,m::ms,m'::ms',h,h'=>by
  have e:=bV.uniq h.1 h'.1
  subst e
  rw [h.2.uniq h'.2]
 | [],_::_,_,h,_=>h.elim
 | [],[],_::_,_,h=>h.elim
 | _::_,[],_,h,_=>h.elim
 | _::_,_::_,[],_,h=>h.elim
noncomputable def lab (n:Nat) (f:Int→Int):Dat:=.lst ((List.range n).map fun (i:Nat)=>Dat.int (f i))
theorem rz (n:Nat) (f:Int→Int) (x:Int) (h0:0≤x) (h1:x<n):gIx (lab n f) (.int x)=some (.val (.int (f x))):=by
 unfold lab gIx atI ixN
 have hx:x.toNat<n:=by omega
 have hc:((x.toNat:Nat):Int)=x:=by omega
 simp only [List.length_map,List.length_range,h0,h1,if_true]
 simp [List.getElem?_range hx,hc]
theorem Jd (n:Nat):Dat.lst (ups 0 n)=lab n fun x=>x:=by
 unfold ups lab
 simp
theorem EU (n:Nat) (f:Int→Int):lab n f=.lst (((List.range n).map fun (i:Nat)=>f i).map Dat.int):=by
 unfold lab
 rw [List.map_map]
 rfl
theorem zk (n:Nat) (hn:n≤10) (f:Int→Int) (a b:Int) (a0:0≤a) (a1:a<n) (b0:0≤b) (b1:b<n):xK [lab n f,.int a,.int b]=some (.new (lab n (mgf f a b))):=by
 apply Wr.eq
 unfold xK
 (refine Dm.Wr.fn ?_ rfl rfl;dsimp only [List.map,List.replicate,List.cons_append,List.nil_append])
 refine Ws.R (We.y_ (fun i:Nat=>Dat.int (f i)) (List.range n) (fun i:Nat=>mgf f a b i) Dat.int (d:=lab n f) ?_ rfl rfl rfl (by decide) (by rw [List.length_range];unfold SZ;omega) fun i _=>?_)
 ·rw [← EU];rfl
 ·refine We.If (Wt.V (We.e2 (We.v rfl (We.e2 (We.v rfl (We.v rfl (Wg2.ix ?_ rfl rfl (rz n f b b0 b1))))))))
  refine Wg2.eq (Wb.mk ⟨fun g=>?_,fun g=>?_⟩) rfl rfl
  ·refine We.e2 (We.v rfl (We.v rfl (Wg2.ix (Wk.val ⟨?_,rfl⟩) rfl rfl (rz n f a a0 a1))))
   unfold mgf;rw [if_pos (of_decide_eq_true g)]
  ·refine We.v rfl (Wk.val ⟨?_,rfl⟩)
   unfold mgf;rw [if_neg (of_decide_eq_false g)]
theorem tU {α:Type} (enc:α→Dat) (d:α):∀ (k:Nat) (l:List α),jV k (l.map enc)=(List.range l.length).map fun i=>.tup [.int ((k+i:Nat):Int),enc (l.getD i d)]
 | k,[]=>rfl
 | k,x::l=>by
  rw [List.map_cons,jV,tU enc d (k+1) l,List.length_cons,List.range_succ_eq_map,List.map_cons,List.map_map]
  congr 1
  apply List.map_congr_left
  intro i _
  show _=Dat.tup [.int ((k+(i+1):Nat):Int),enc ((x::l).getD (i+1) d)]
  rw [show k+1+i=k+(i+1) by omega]
  rfl
theorem BK {n k:Nat} {p q:List Nat} (e:List.range n=p++k::q):k=p.length∧k<n:=by
 have h1:(List.range n)[p.length]?=some k:=by rw [e,List.getElem?_append_right (Nat.le_refl _),Nat.sub_self];rfl
 have h2:p.length<n:=by
  have:(List.range n).length=p.length+(q.length+1):=by rw [e];simp
  rw [List.length_range] at this;omega
 rw [List.getElem?_range h2] at h1
 injection h1 with h1
 omega
noncomputable def BL (gs:List (Int→Int)) (a b:Int) (i:Nat) (num:Int):Prop:=
 (num=0∧∀ (j:Nat) f,j<i→gs[j]?=some f→f a=f b)∨∃ (j:Nat) (f:Int→Int),j<i∧gs[j]?=some f∧f a≠f b∧(∀ (j':Nat) f',j'<j→gs[j']?=some f'→f' a=f' b)∧num=(j:Int)+1
theorem BN (n:Nat) (gs:List (Int→Int)) (a b:Int) (a0:0≤a) (a1:a<n) (b0:0≤b) (b1:b<n):∃ num:Int,tG [.lst (gs.map (lab n)),.int a,.int b]=some (.val (.int num))∧BL gs a b gs.length num:=by
 suffices hh:Wr (tG [.lst (gs.map (lab n)),.int a,.int b]) fun v=>∃ num:Int,v=.val (.int num)∧BL gs a b gs.length num by
  obtain ⟨v,h1,num,rfl,h2⟩:=hh
  exact ⟨num,h1,h2⟩
 unfold tG
 (refine Dm.Wr.fn ?_ rfl rfl;dsimp only [List.map,List.replicate,List.cons_append,List.nil_append])
 refine Ws.seq (Ws.For (Wi.En (We.v rfl (Wk.val ⟨_,rfl,?_⟩))))
 rw [tU (lab n) fun x=>x]
 refine Ws.inv (fun i:Nat=>Dat.tup [.int ((0+i:Nat):Int),lab n (gs.getD i fun x=>x)]) _ _ (List.range gs.length) _ _ _ _ _ (fun p q ρ=>∃ c3 c4:Cell,ρ=[.sh (.lst (gs.map (lab n))),.sh (.int a),.sh (.int b),c3,c4]∧∀ (j:Nat) f,j<p.length→gs[j]?=some f→f a=f b) ⟨_,_,rfl,fun j f hj=>by simp at hj⟩ ?_ ?_
 ·rintro p i q ρ e ⟨c3,c4,rfl,low⟩
  obtain ⟨ip,il⟩:=BK e
  have hf:gs[i]?=some (gs.getD i fun x=>x):=by rw [List.getD_eq_getElem?_getD,List.getElem?_eq_getElem il];rfl
  generalize (gs.getD i fun x=>x)=f at hf
  refine Dm.cE rfl (by first | (dsimp only [List.set];first | done | rfl) | rfl) ?_
  unfold Bu
  refine Ws.If (Wt.V (We.e2 (We.e2 (We.v rfl (We.v rfl (Wg2.ix ?_ rfl rfl (rz n f a a0 a1)))))))
  refine We.e2 (We.v rfl (We.v rfl (Wg2.ix ?_ rfl rfl (rz n f b b0 b1))))
  refine Wg2.ne (Wb.mk ?_) rfl rfl
  by_cases h:f a=f b
  ·refine Wif.no (by simp [h]) (Ws.nx ⟨_,_,rfl,fun j g hj hg=>?_⟩)
   rw [List.length_append,List.length_singleton] at hj
   by_cases q:j=i
   ·subst q;rw [hf] at hg;cases hg;exact h
   ·exact low j g (by omega) hg
  ·refine Wif.yes (by simp [h]) (Ws.R (We.e2 (We.v rfl (We.c (Wg2.add ?_ rfl rfl)))))
   exact ⟨_,rfl,.inr ⟨i,f,il,hf,h,fun j g hj=>low j g (by omega),by omega⟩⟩
 ·rintro ρ ⟨c3,c4,rfl,low⟩
  rw [List.length_range] at low
  exact Ws.R (We.c ⟨0,rfl,.inl ⟨rfl,low⟩⟩)
noncomputable def Ends (n:Int) (r:List Tie):Prop:=∀ t∈r,0≤t.a∧t.a<n∧0≤t.b∧t.b<n
noncomputable def EV (k:Nat) (gs:List (Int→Int)) (r:List Tie) (ms:List Int):Prop:=gs.length=k∧∀ (j:Nat) f,gs[j]?=some f→Tells f (lay r ms ((j:Int)+1))
theorem map_set (n:Nat) (gs:List (Int→Int)) (i:Nat) (f:Int→Int):(gs.map (lab n)).set i (lab n f)=(gs.set i f).map (lab n):=by rw [List.map_set]
noncomputable def BO (o:Bool) (gs gs':List (Int→Int)) (a b:Int) (i:Nat) (num:Int):Prop:=
 (num=0∧gs'=gs∧∀ (j:Nat) f,j<i→gs[j]?=some f→f a=f b)∨∃ (j:Nat) (f:Int→Int),j<i∧gs[j]?=some f∧f a≠f b∧(∀ (j':Nat) f',j'<j→gs[j']?=some f'→f' a=f' b)∧num=(j:Int)+1∧gs'=gs.set j (mgf f (if o then a else b) (if o then b else a))
theorem BO.num {k:Nat} {o:Bool} {gs gs':List (Int→Int)} {r:List Tie} {ms:List Int} (h:EV k gs r ms) (t:Tie) {num:Int} (l:BO o gs gs' t.a t.b k num):qk k r ms t num∧EV k gs' (t::r) (num::ms):=by
 obtain ⟨hl,ht⟩:=h
 rcases l with ⟨rfl,rfl,h2⟩ | ⟨j,f,jk,h1,h3,h4,rfl,rfl⟩
 ·refine ⟨.inl ⟨rfl,fun j j1 j2=>?_⟩,hl,fun i g hg=>?_⟩
  ·have hj:(j-1).toNat<gs'.length:=by omega
   have:=(ht (j-1).toNat _ (List.getElem?_eq_getElem hj) t.a t.b).mp (h2 _ _ (by omega) (List.getElem?_eq_getElem hj))
   rw [show (((j-1).toNat:Nat):Int)+1=j by omega] at this
   exact this
  ·rw [j7,if_neg (by omega)]
   exact ht i g hg
 ·have hj:j<gs.length:=(List.getElem?_eq_some_iff.mp h1).1
  refine ⟨.inr ⟨by omega,by omega,fun c=>h3 ((ht j f h1 t.a t.b).mpr c),fun i i1 i2=>?_⟩,by rw [List.length_set];exact hl,fun i g hg=>?_⟩
  ·have hi:(i-1).toNat<gs.length:=by omega
   have:=(ht (i-1).toNat _ (List.getElem?_eq_getElem hi) t.a t.b).mp (h4 (i-1).toNat _ (by omega) (List.getElem?_eq_getElem hi))
   rw [show (((i-1).toNat:Nat):Int)+1=i by omega] at this
   exact this
  ·rw [j7]
   by_cases q:j=i
   ·subst q
    rw [List.getElem?_set_self hj] at hg
    cases hg
    rw [if_pos rfl]
    cases o
    ·exact tells_mgf (ht j f h1) t t.b t.a (.inr ⟨rfl,rfl⟩)
    ·exact tells_mgf (ht j f h1) t t.a t.b (.inl ⟨rfl,rfl⟩)
   ·rw [List.getElem?_set_ne q] at hg
    rw [if_neg (by omega)]
    exact ht i g hg
theorem L8 (n:Nat) (gs:List (Int→Int)) {i:Nat} {f:Int→Int} (h:gs[i]?=some f):gIx (.lst (gs.map (lab n))) (.int (0+(i:Nat)))=some (.val (lab n f)):=by
 have hi:=(List.getElem?_eq_some_iff.mp h).1
 rw [Int.zero_add]
 show (atI (gs.map (lab n)) i).map RV.val=_
 rw [Dm.jY (lab n) gs (i:Nat) (by omega) (by omega)]
 have:gs[((i:Nat):Int).toNat]'(by omega)=f:=by
  have:=List.getElem?_eq_some_iff.mp h
  simpa using this.2
 rw [this];rfl
theorem NK (k:Nat):EV k ((List.range k).map fun _=>(fun x:Int=>x)) [] []:=⟨by simp,fun j f hf=>by
 rw [List.getElem?_map] at hf
 cases h:(List.range k)[j]? with
 | none=>rw [h] at hf;cases hf
 | some x=>rw [h] at hf;cases hf;exact tells_nil⟩
theorem fq (n k:Nat) (hn:n≤10) (hk1:1≤k) (hk6:k≤6) (r:List Tie) (hr:Ends n r) (hl:r.length≤1000):∃ ms:List Int,qi [.int n,aV r,.int k]=some (.new (.lst (ms.map Dat.int)))∧bV k r ms:=by
 suffices hh:Wr (qi [.int (n:Nat),aV r,.int (k:Nat)]) fun v=>∃ ms:List Int,v=.new (.lst (ms.map Dat.int))∧bV k r ms by
  obtain ⟨v,h1,ms,rfl,h2⟩:=hh
  exact ⟨ms,h1,h2⟩
 unfold qi
 (refine Dm.Wr.fn ?_ rfl rfl;dsimp only [List.map,List.replicate,List.cons_append,List.nil_append])
 refine Ws.seq (Ws.E (We.F (Was.cons (We.v rfl (Was.nil (WF.val (nM k (by omega) (by omega)) ?_ rfl rfl))))))
 refine Ws.seq (Ws.A (We.Map (fun i:Nat=>Dat.int (0+(i:Nat))) (List.range k) (fun _=>(fun x:Int=>x)) (lab n) (ρ1:=[.sh (.int (n:Nat)),.sh (aV r),.sh (.int (k:Nat)),.un,.un,.un,.un,.un,.un]) ?_ ?_ rfl (by decide) (by rw [List.length_range];unfold SZ;omega) fun i _=>?_) (by decide))
 rotate_left
 ·apply Wi.get
  refine Wi.R1 (We.v rfl (dJ.mk ⟨⟨?_,rfl⟩,by unfold BIG;omega,by unfold BIG;omega⟩))
  rw [Int.toNat_natCast];rfl
 ·refine We.B (Was.cons (We.v rfl (Was.nil (WB.NF ?_ rfl (by omega)))))
  rw [Int.toNat_natCast,Jd]
  exact Wk.new ⟨rfl,rfl⟩
 refine WA.new ?_ (by first | (dsimp only [List.set];first | done | rfl) | rfl)
 refine Ws.seq (Ws.A (We.L (Was.nil (WT.mk ?_ rfl rfl (by decide)))) (by decide))
 refine WA.new ?_ (by first | (dsimp only [List.set];first | done | rfl) | rfl)
 refine Ws.seq (Ws.For (Wi.Rev (We.v rfl (Wk.val ⟨_,rfl,?_⟩))))
 rw [← List.map_reverse]
 refine Ws.inv dh _ _ r.reverse _ _ _ _ _ (fun p q ρ=>∃ (gs:List (Int→Int)) (ms:List Int) (c5 c6 c7 c8:Cell),ρ=[.sh (.int (n:Nat)),.sh (aV r),.sh (.int (k:Nat)),.ow (.lst (gs.map (lab n))),.ow (.lst (ms.reverse.map Dat.int)),c5,c6,c7,c8]∧EV k gs p.reverse ms∧bV k p.reverse ms) ⟨(List.range k).map fun _=>(fun x:Int=>x),[],.un,.un,.un,.un,rfl,NK k,trivial⟩ ?_ ?_
 ·rintro p t q ρ e ⟨gs,ms,c5,c6,c7,c8,rfl,I,A⟩
  have ht:t∈r:=List.mem_reverse.mp (by rw [e];simp)
  obtain ⟨t0,t1,t2,t3⟩:=hr t ht
  have lp:ms.length≤1000:=by
   have a:=A.len
   have:r.reverse.length=p.length+(q.length+1):=by rw [e];simp
   rw [List.length_reverse] at a this
   omega
  obtain ⟨num,en,ln⟩:=BN n gs t.a t.b t0 t1 t2 t3
  rw [I.1] at ln
  refine Dm.cE rfl (by first | (dsimp only [List.set];first | done | rfl) | rfl) ?_
  unfold Bv
  refine Ws.seq (Ws.A (We.F (Was.cons (We.w rfl (Was.cons (We.v rfl (Was.cons (We.v rfl (Was.nil (WF.val en (WA.val ?_ (by first | (dsimp only [List.set];first | done | rfl) | rfl)) rfl rfl))))))))) (by decide))
  refine Ws.cut (fun ρ=>∃ gs',ρ=[.sh (.int (n:Nat)),.sh (aV r),.sh (.int (k:Nat)),.ow (.lst (gs'.map (lab n))),.ow (.lst (ms.reverse.map Dat.int)),.sh (.int t.m),.sh (.int t.a),.sh (.int t.b),.sh (.int num)]∧BO true gs gs' t.a t.b k num) ?_ ?_
  ·refine Ws.If (Wt.V (We.e2 (We.v rfl (We.c (Wg2.gt (Wb.mk ?_) rfl rfl)))))
   rcases ln with ⟨rfl,low⟩ | ⟨j,f,jk,hf,ne,low,rfl⟩
   ·exact Wif.no rfl (Ws.nx ⟨gs,rfl,.inl ⟨rfl,rfl,low⟩⟩)
   ·have gi:gIx (.lst (gs.map (lab n))) (.int ((j:Int)+1-1))=some (.val (lab n f)):=by
     have:=L8 n gs hf
     rw [show (j:Int)+1-1=0+(j:Nat) by omega]
     exact this
    refine Wif.yes (decide_eq_true (by omega)) ?_
    refine Ws.Set (We.F (Was.cons (We.e2 (We.w rfl (We.e2 (We.v rfl (We.c (Wg2.sub (Wg2.ix ?_ rfl rfl gi) rfl rfl))))))))
    refine Was.cons (We.v rfl (Was.cons (We.v rfl (Was.nil (WF.box (zk n hn f t.a t.b t0 t1 t2 t3) ?_ rfl rfl rfl (by first | (dsimp only [List.set];first | done | rfl) | rfl))))))
    refine Wk.new ⟨⟨_,rfl⟩,We.e2 (We.v rfl (We.c (Wg2.sub (dJ.mk ⟨gs.map (lab n),j,_,rfl,?_,rfl,?_⟩) rfl rfl)))⟩
    ·have hj:j<gs.length:=(List.getElem?_eq_some_iff.mp hf).1
     rw [List.length_map]
     unfold ixN
     rw [if_pos (by omega),if_pos (by omega)]
     congr 1
     omega
    ·exact ⟨gs.set j (mgf f t.a t.b),by rw [← map_set];rfl,.inr ⟨j,f,jk,hf,ne,low,rfl,rfl⟩⟩
  ·rintro ρ ⟨gs',rfl,L⟩
   obtain ⟨h1,h2⟩:=L.num I t
   refine Ws.App (We.v rfl (Wk.val (nB ?_ rfl (by first | (dsimp only [List.set];first | done | rfl) | rfl) (by rw [List.length_map,List.length_reverse];unfold SZ;omega)))) rfl
   refine ⟨gs',num::ms,.sh (.int t.m),.sh (.int t.a),.sh (.int t.b),.sh (.int num),by rw [List.reverse_cons,List.map_append];rfl,?_⟩
   rw [List.reverse_append]
   exact ⟨h2,A,h1⟩
 ·rintro ρ ⟨gs,ms,c5,c6,c7,c8,rfl,I,A⟩
  rw [List.reverse_reverse] at A
  refine Ws.R (We.e1 (We.w rfl (Wg1.mk (v:=.new (.lst (ms.map Dat.int))) ?_ rfl ?_)))
  ·exact ⟨ms,rfl,A⟩
  ·unfold m8
   dsimp only
   rw [← List.map_reverse,List.reverse_reverse]
theorem Good.mem {n:Int}:∀ {r:List Tie} {lo:Int},Good n lo r→∀ t∈r,0≤t.a∧t.a≤t.b∧t.b<n
 | [],_,_,t,h=>by cases h
 | x::r,lo,g,t,h=>by
  rcases List.mem_cons.mp h with rfl | h
  ·exact ⟨g.2.1,g.2.2.1,g.2.2.2.1⟩
  ·exact Good.mem g.2.2.2.2 t h
noncomputable def keep (r:List Tie) (ms:List Int):List Tie:=((r.zip ms).filter fun p=>decide (0<p.2)).map (·.1)
theorem kX (t:Tie) (m:Int) (r:List Tie) (ms:List Int):keep (t::r) (m::ms)=if 0<m then t::keep r ms else keep r ms:=by
 unfold keep
 rw [List.zip_cons_cons,List.filter_cons]
 by_cases h:0<m<;>simp [h]
noncomputable def zE (x:Tie×Int):Dat:=.tup [dh x.1,.int x.2]
theorem xU:∀ (r:List Tie) (ms:List Int),g9 (r.map dh) (ms.map Dat.int)=(r.zip ms).map zE
 | [],_=>by simp [g9]
 | _::_,[]=>by simp [g9]
 | t::r,m::ms=>by rw [List.map_cons,List.map_cons,g9,xU r ms,List.zip_cons_cons,List.map_cons];rfl
theorem We.NL (r:List Tie) (ms:List Int) (p:Tie×Int→Bool) {it:FI} {k:Nat} {t:FT} {ρ ρ1:Env} {Q:Val→Env→Prop} (q:Q (.new (aV (((r.zip ms).filter p).map (·.1)))) ρ1) (hit:it ρ=some (g9 (r.map dh) (ms.map Dat.int),ρ1)) (hk:ρ1.length=k) (hk0:k≠0) (hl:r.length≤SZ)
  (ht:∀ x:Tie×Int,Wt t (ρ1++[.sh (dh x.1),.sh (.int x.2)]) fun c ρ'=>c=p x∧ρ'=ρ1++[.sh (dh x.1),.sh (.int x.2)]):We (cK it 2 (bT [k,k+1]) t (eV k)) ρ Q:=by
 have b:∀ (x:Tie×Int) (c1 c2:Cell),bT [k,k+1] (zE x) (ρ1++[c1,c2])=some (ρ1++[.sh (dh x.1),.sh (.int x.2)]):=fun x c1 c2=>by
  show sets [k,k+1] [dh x.1,.int x.2] _=_
  rw [sets,if_neg hk0,sets,if_neg (by omega),sets]
  rw [List.set_append_right _ _ (by omega),List.set_append_right _ _ (by omega)]
  subst hk
  rw [Nat.sub_self,show ρ1.length+1-ρ1.length=1 by omega]
  rfl
 refine We.LX zE (r.zip ms) p (fun x=>x.1) dh (fun x=>(ρ1++[Cell.sh (dh x.1),Cell.sh (.int x.2)]:Env)) (own:=2) (bd:=bT [k,k+1]) (Q:=Q) q (by rw [hit,xU]) (fun x=>b x .un .un) (fun x y=>b x (.sh (dh y.1)) (.sh (.int y.2))) (fun x=>List.take_left) (by rw [List.length_zip];omega) (fun x _=>ht x) (fun x _ _=>?_)
 refine We.v (d:=dh x.1) ?_ (Wk.val ⟨rfl,rfl⟩)
 rw [List.getElem?_append_right (by omega),hk,Nat.sub_self]
 rfl
theorem Wg2.BP {d:Dat} {o p:Option Dat} {Q:RV→Prop} (hk:okD 8 d=true) (he:eqD d d=true) (k:Q (.val (.bl false))) (ho:o=some d) (hp:p=some d):Wg2 gNe o p Q:=
 ⟨_,_,_,ho,hp,by unfold gNe;rw [hk,he];rfl,k⟩
theorem Wg2.Je {d:Dat} {o p:Option Dat} {Q:RV→Prop} (hk:okD 8 d=true) (he:eqD d d=true) (k:Q (.val (.bl true))) (ho:o=some d) (hp:p=some d):Wg2 gEq o p Q:=
 ⟨_,_,_,ho,hp,by unfold gEq;rw [hk,he];rfl,k⟩
noncomputable def b_ (n k:Nat) (r:List Tie):Dat:=.tup [.int (n:Nat),.int (k:Nat),aV r]
theorem zl {ρ ρ1:Env} {it:FI} {k:Nat} (r:List Tie) (ms:List Int) {Q:Val→Env→Prop} (q:Q (.new (aV (keep r ms))) ρ1) (hit:it ρ=some (g9 (r.map dh) (ms.map Dat.int),ρ1)) (hk:ρ1.length=k) (hk0:k≠0) (hl:r.length≤SZ):We (cK it 2 (bT [k,k+1]) (tV (e2 gGt (eV (k+1)) (eC (.int 0)))) (eV k)) ρ Q:=by
 refine We.NL r ms (fun p=>decide (0<p.2)) q hit hk hk0 hl fun x=>?_
 refine Wt.V (We.e2 (We.v (d:=.int x.2) ?_ (We.c (Wg2.gt (Wb.mk ⟨rfl,rfl⟩) rfl rfl))))
 rw [List.getElem?_append_right (by omega),hk]
 simp
theorem Jf (n k:Nat) (hn:n≤10) (hk1:1≤k) (hk6:k≤6) (r:List Tie) (ms:List Int) (hr:Ends n r) (hl:r.length≤1000) (ha:bV k r ms):xO [.int (n:Nat),aV r,.int (k:Nat)]=some (.val (b_ n k (keep r ms))):=by
 obtain ⟨ms',el,al⟩:=fq n k hn hk1 hk6 r hr hl
 rw [al.uniq ha] at el
 apply Wr.eq
 unfold xO
 (refine Dm.Wr.fn ?_ rfl rfl;dsimp only [List.map,List.replicate,List.cons_append,List.nil_append])
 refine Ws.seq (Ws.A (We.F (Was.cons (We.v rfl (Was.cons (We.v rfl (Was.cons (We.v rfl (Was.nil (WF.box el ?_ rfl rfl rfl rfl)))))))) ) (by decide))
 refine WA.new ?_ (by first | (dsimp only [List.set];first | done | rfl) | rfl)
 refine Ws.R (We.T (Was.cons (We.v rfl (Was.cons (We.v rfl (Was.cons (zl (ρ1:=[.sh (.int (n:Nat)),.sh (aV r),.sh (.int (k:Nat)),.sh (.lst (ms.map Dat.int))]) r ms (k:=4) ?_ ?_ rfl (by decide) (Nat.le_trans hl (by decide)))))))))
 ·exact Was.nil (WT.mk rfl rfl rfl (Nat.le_of_ble_eq_true rfl))
 ·rfl
theorem tW:∀ (r:List Tie) (ms:List Int) (j:Int),1≤j→lay (keep r ms) (ms.filter fun m=>decide (0<m)) j=lay r ms j∨r.length≠ms.length
 | [],[],_,_=>.inl rfl
 | [],_::_,_,_=>.inr (by simp)
 | _::_,[],_,_=>.inr (by simp)
 | t::r,m::ms,j,hj=>by
  rcases tW r ms j hj with ih | ih
  ·left
   rw [kX,j7]
   by_cases h:0<m
   ·rw [if_pos h,List.filter_cons_of_pos (by simpa using h),j7,ih]
   ·rw [if_neg h,List.filter_cons_of_neg (by simpa using h),ih,if_neg (by omega)]
  ·right
   simpa using ih
theorem tZ {k:Int}:∀ {r:List Tie} {ms:List Int},bV k r ms→bV k (keep r ms) (ms.filter fun m=>decide (0<m))
 | [],[],_=>trivial
 | t::r,m::ms,h=>by
  have ih:=tZ h.1
  rw [kX]
  by_cases q:0<m
  ·rw [if_pos q,List.filter_cons_of_pos (by simpa using q)]
   refine ⟨ih,?_⟩
   have e:∀ j,1≤j→lay (keep r ms) (ms.filter fun m=>decide (0<m)) j=lay r ms j:=fun j hj=>by
    rcases tW r ms j hj with z | z
    ·exact z
    ·exact absurd h.1.len.symm z
   rcases h.2 with ⟨h0,_⟩ | ⟨h1,h2,h3,h4⟩
   ·omega
   ·exact .inr ⟨h1,h2,by rw [e m h1];exact h3,fun j j1 j2=>by rw [e j j1];exact h4 j j1 j2⟩
  ·rw [if_neg q,List.filter_cons_of_neg (by simpa using q)]
   exact ih
 | [],_::_,h=>h.elim
 | _::_,[],h=>h.elim
theorem nN:∀ (r:List Tie) (ms:List Int),(keep r ms).Sublist r
 | [],ms=>by unfold keep;simp
 | _::_,[]=>by unfold keep;simp
 | t::r,m::ms=>by
  rw [kX]
  split
  ·exact (nN r ms).cons_cons t
  ·exact (nN r ms).cons t
theorem eX (n i:Int) (h0:0≤i) (h1:i<n):dF [.int n,.int i]=some (.val (.bl true)):=by
 apply Wr.eq
 unfold dF
 (refine Dm.Wr.fn ?_ rfl rfl;dsimp only [List.map,List.replicate,List.cons_append,List.nil_append])
 refine Ws.R (We.F (Was.cons (We.v rfl (Was.cons (We.c (Was.cons (We.e2 (We.v rfl (We.c (Wg2.sub ?_ rfl rfl))))))))))
 exact Was.nil (WF.val (eW i 0 (n-1) h0 (by omega)) rfl rfl rfl)
theorem ql (m:Int) (h0:0≤m) (h1:m≤Z30):lO [.int m]=some (.val (.bl true)):=by
 apply Wr.eq
 unfold lO
 (refine Dm.Wr.fn ?_ rfl rfl;dsimp only [List.map,List.replicate,List.cons_append,List.nil_append])
 refine Ws.R (We.F (Was.cons (We.v rfl (Was.cons (We.c (Was.cons (We.e2 (We.c (We.c (Wg2.pow (z:=Z30) ?_ rfl rfl (by decide) (by decide)))))))))))
 exact Was.nil (WF.val (eW m 0 Z30 h0 h1) rfl rfl rfl)
theorem zm (n:Int) (t:Tie) (m0:0≤t.m) (m1:t.m≤Z30) (a0:0≤t.a) (a1:t.a<n) (b0:0≤t.b) (b1:t.b<n):j4 [.int n,dh t]=some (.val (.bl true)):=by
 apply Wr.eq
 unfold j4 dh
 (refine Dm.Wr.fn ?_ rfl rfl;dsimp only [List.map,List.replicate,List.cons_append,List.nil_append])
 repeat array_get_dec
 refine Wif.no rfl ?_
 repeat array_get_dec
 refine Wif.no rfl ?_
 repeat array_get_dec
 refine WF.val (ql t.m m0 m1) ?_ rfl rfl
 repeat array_get_dec
 refine WF.val (eX n t.a a0 a1) ?_ rfl rfl
 repeat array_get_dec
 refine WF.val (eX n t.b b0 b1) ?_ rfl rfl
 repeat array_get_dec
 rfl
theorem zo (n:Int) (t:Tie) (m0:0≤t.m) (m1:t.m≤Z30) (a0:0≤t.a) (ab:t.a≤t.b) (b1:t.b<n):nD [.int n,dh t]=some (.val (.bl true)):=by
 apply Wr.eq
 unfold nD
 (refine Dm.Wr.fn ?_ rfl rfl;dsimp only [List.map,List.replicate,List.cons_append,List.nil_append])
 repeat array_get_dec
 refine WF.val (zm n t m0 m1 a0 (by omega) (by omega) b1) ?_ rfl rfl
 repeat array_get_dec
 exact congrArg (fun b=>RV.val (Dat.bl b)) (decide_eq_true ab)
noncomputable abbrev EW (D:List Tie):Prop:=D.Pairwise fun t u=>t.m<u.m
theorem EX (n:Nat):ups 1 n=(List.range n).map fun i:Nat=>Dat.int (1+(i:Int)):=rfl
theorem fu (n:Int) (h1:1≤n) (h2:n≤10):vM [.int n]=some (.val (.bl true)):=by
 apply Wr.eq
 unfold vM
 (refine Dm.Wr.fn ?_ rfl rfl;dsimp only [List.map,List.replicate,List.cons_append,List.nil_append])
 repeat array_get_dec
 refine WF.val (eW n 1 10 h1 h2) ?_ rfl rfl
 repeat array_get_dec
 rfl
theorem fy (n:Int) (h1:1≤n) (h2:n≤6):gy [.int n]=some (.val (.bl true)):=by
 apply Wr.eq
 unfold gy
 (refine Dm.Wr.fn ?_ rfl rfl;dsimp only [List.map,List.replicate,List.cons_append,List.nil_append])
 repeat array_get_dec
 refine WF.val (eW n 1 6 h1 h2) ?_ rfl rfl
 repeat array_get_dec
 rfl
theorem zp (D:List Tie) (h:EW D) (hl:D.length≤75):xH [.lst ((D.map (·.m)).map Dat.int)]=some (.val (.bl true)):=by
 have sz:1000≤SZ:=by decide
 apply Wr.eq
 unfold xH
 (refine Dm.Wr.fn ?_ rfl rfl;dsimp only [List.map,List.replicate,List.cons_append,List.nil_append])
 refine Ws.R (We.B (Was.cons ?_))
 have hit:iR2 (eC (.int 1)) (eB f9 [eV 0]) [.sh (.lst ((D.map (·.m)).map Dat.int))]=some ((List.range ((D.length:Int)-1).toNat).map (fun i:Nat=>Dat.int (1+(i:Int))),[.sh (.lst ((D.map (·.m)).map Dat.int))]):=by
  refine Wi.get ?_
  repeat array_get_dec
  refine ⟨⟨?_,rfl⟩,?_⟩
  ·rw [EX,List.length_map]
  ·rw [List.length_map];unfold BIG;omega
 refine We.Map (fun i:Nat=>Dat.int (1+(i:Int))) (List.range ((D.length:Int)-1).toNat) (fun _=>true) Dat.bl ?_ hit rfl (by decide) (by simp;omega) (fun i hi=>?_)
 ·refine Was.nil (WB.all (fun b=>b) (xs:=(List.range ((D.length:Int)-1).toNat).map fun _=>true) ?_ rfl)
  exact WR.val (congrArg (fun b=>RV.val (Dat.bl b)) (by simp))
 ·have hi':=List.mem_range.mp hi
  repeat array_get_dec
  refine Wg2.ixL (enc:=Dat.int) (xs:=D.map (·.m)) (i:=1+(i:Int)-1) (by omega) (by rw [List.length_map];omega) ?_ rfl rfl
  repeat array_get_dec
  refine Wg2.ixL (enc:=Dat.int) (xs:=D.map (·.m)) (i:=1+(i:Int)) (by omega) (by rw [List.length_map];omega) ?_ rfl rfl
  repeat array_get_dec
  have lt:=List.pairwise_iff_getElem.mp h (1+(i:Int)-1).toNat (1+(i:Int)).toNat (by omega) (by omega) (by omega)
  refine ⟨congrArg Dat.bl (decide_eq_true ?_),rfl⟩
  rw [List.getElem_map,List.getElem_map]
  exact lt
structure Rcd (n:Nat) (r:List Tie):Prop where
 ok:∀ t∈r,0≤t.m∧t.m≤Z30∧0≤t.a∧t.a≤t.b∧t.b<n
 up:EW r
 len:r.length≤60
theorem Rcd.sub {n:Nat} {r q:List Tie} (h:Rcd n r) (s:q.Sublist r):Rcd n q:=⟨fun t ht=>h.ok t (s.subset ht),h.up.sublist s,Nat.le_trans s.length_le h.len⟩
theorem Rcd.ends {n:Nat} {r:List Tie} (h:Rcd n r):Ends n r:=fun t ht=>by
 obtain ⟨h1,h2,h3,h4,h5⟩:=h.ok t ht
 exact ⟨h3,by omega,by omega,h5⟩
theorem Rcd.good {n:Nat} {r:List Tie} (h:Rcd n r):Good n 0 r:=by
 have go:∀ (r:List Tie) (lo:Int),(∀ t∈r,0≤t.a∧t.a≤t.b∧t.b<(n:Nat))→(∀ t∈r,lo≤t.m)→EW r→Good n lo r:=fun r=>by
  induction r with
  | nil=>intro lo _ _ _;trivial
  | cons t r ih=>
   intro lo h1 h2 h3
   obtain ⟨p1,p2⟩:=List.pairwise_cons.mp h3
   obtain ⟨q1,q2,q3⟩:=h1 t List.mem_cons_self
   exact ⟨h2 t List.mem_cons_self,q1,q2,q3,ih (t.m+1) (fun u hu=>h1 u (List.mem_cons_of_mem _ hu)) (fun u hu=>by have:=p1 u hu;omega) p2⟩
 exact go r 0 (fun t ht=>(h.ok t ht).2.2) (fun t ht=>(h.ok t ht).1) h.up
theorem j8 (n:Nat) (n1:1≤n) (n10:n≤10) (r:List Tie) (h:Rcd n r):gA [.int (n:Nat),aV r]=some (.val (.bl true)):=by
 have sz:1000≤SZ:=by decide
 have hl:=h.len
 apply Wr.eq
 unfold gA
 (refine Dm.Wr.fn ?_ rfl rfl;dsimp only [List.map,List.replicate,List.cons_append,List.nil_append])
 repeat array_get_dec
 refine WF.val (fu n (by omega) (by omega)) ?_ rfl rfl
 repeat array_get_dec
 refine Wif.no rfl ?_
 repeat array_get_dec
 refine Wif.no rfl ?_
 repeat array_get_dec
 refine Wif.no (decide_eq_false (by rw [List.length_map];omega)) ?_
 repeat array_get_dec
 refine We.y_ dh r (fun _=>true) Dat.bl ?_ rfl rfl rfl (by decide) (by omega) (fun t ht=>?_)
 rotate_left
 ·obtain ⟨h1,h2,h3,h4,h5⟩:=h.ok t ht
  repeat array_get_dec
  refine WF.val (zo n t h1 h2 h3 h4 h5) ?_ rfl rfl
  repeat array_get_dec
  exact ⟨rfl,rfl⟩
 repeat array_get_dec
 refine WB.all (fun b=>b) (xs:=r.map fun _=>true) ?_ rfl
 repeat array_get_dec
 refine Wif.no (by simp) ?_
 repeat array_get_dec
 refine We.y_ dh r (·.m) Dat.int ?_ rfl rfl rfl (by decide) (by omega) (fun t ht=>?_)
 rotate_left
 ·repeat array_get_dec
  exact ⟨rfl,rfl⟩
 repeat array_get_dec
 refine WF.val (zp r h.up (by omega)) ?_ rfl rfl
 repeat array_get_dec
 rfl
structure Net (n k:Nat) (N:List Tie):Prop where
 rc:Rcd n N
 num:∃ ms,bV k N ms∧(0:Int)∉ms
theorem zq (n k:Nat) (n1:1≤n) (n10:n≤10) (k1:1≤k) (k6:k≤6) (N:List Tie) (h:Net n k N):bJ [b_ n k N]=some (.val (.bl true)):=by
 have hl:=h.rc.len
 obtain ⟨ms,el,al⟩:=fq n k n10 k1 k6 N h.rc.ends (by omega)
 obtain ⟨ms',al',h0⟩:=h.num
 rw [al'.uniq al] at h0
 apply Wr.eq
 unfold bJ b_
 (refine Dm.Wr.fn ?_ rfl rfl;dsimp only [List.map,List.replicate,List.cons_append,List.nil_append])
 repeat array_get_dec
 refine Wif.no rfl ?_
 repeat array_get_dec
 refine Wif.no rfl ?_
 repeat array_get_dec
 refine WF.val (fy k (by omega) (by omega)) ?_ rfl rfl
 repeat array_get_dec
 refine Wif.no rfl ?_
 repeat array_get_dec
 refine WF.val (j8 n n1 n10 N h.rc) ?_ rfl rfl
 repeat array_get_dec
 refine Wif.no rfl ?_
 repeat array_get_dec
 refine WF.box el ?_ rfl rfl rfl (by first | (dsimp only [List.set];first | done | rfl) | rfl)
 repeat array_get_dec
 refine Wg2.LV (xs:=ms) ?_ rfl rfl
 repeat array_get_dec
 exact congrArg (fun b=>RV.val (Dat.bl b)) (by simp [h0])
theorem Rcd.of {n:Nat} {r:List Tie} (g:Good n 0 r) (hl:r.length≤60) (hm:∀ t∈r,t.m≤Z30):Rcd n r:=⟨fun t ht=>by
  obtain ⟨q1,q2,q3⟩:=Good.mem g t ht
  exact ⟨Good.lo g t ht,hm t ht,q1,q2,q3⟩,by
  have up:∀ (r:List Tie) (lo:Int),Good n lo r→EW r:=fun r=>by
   induction r with
   | nil=>intro _ _;exact List.Pairwise.nil
   | cons t r ih=>
    intro lo g
    exact List.pairwise_cons.mpr ⟨fun u hu=>by have:=Good.lo g.2.2.2.2 u hu;omega,ih _ g.2.2.2.2⟩
  exact up r 0 g,hl⟩
noncomputable def BQ (r:List Tie) (t:Int):List Tie:=r.filter fun x=>decide (t≤x.m)
theorem BR (r:List Tie) (hl:r.length≤1000) (t:Int):xM [aV r,.int t]=some (.new (aV (BQ r t))):=by
 apply Wr.eq
 unfold xM
 (refine Dm.Wr.fn ?_ rfl rfl;dsimp only [List.map,List.replicate,List.cons_append,List.nil_append])
 refine Ws.R ?_
 refine We.LU dh r (fun x=>decide (t≤x.m)) id dh (d:=aV r) ?_ rfl rfl rfl (by decide) (by unfold SZ;omega) (fun u _=>?_) fun u _ _=>?_
 ·rw [List.map_id];rfl
 ·exact Wt.V (We.e2 (We.e2 (We.v rfl (We.c (Wg2.ix (We.v rfl (Wg2.ge (Wb.mk ⟨rfl,rfl⟩) rfl rfl)) rfl rfl rfl)))))
 ·exact We.v rfl (Wk.val ⟨rfl,rfl⟩)
theorem EY (n a b:Int) (a0:0≤a) (a1:a<n) (b0:0≤b) (b1:b<n) (h:a≠b):bR [.int n,.int a,.int b]=some (.val (.bl true)):=by
 apply Wr.eq
 unfold bR
 (refine Dm.Wr.fn ?_ rfl rfl;dsimp only [List.map,List.replicate,List.cons_append,List.nil_append])
 refine Ws.R (We.And (We.F (Was.cons (We.v rfl (Was.cons (We.v rfl (Was.nil (WF.val (eX n a a0 a1) ?_ rfl rfl))))))))
 refine Wb.mk (Wif.t (We.And (We.F (Was.cons (We.v rfl (Was.cons (We.v rfl (Was.nil (WF.val (eX n b b0 b1) ?_ rfl rfl)))))))))
 refine Wb.mk (Wif.t (We.e2 (We.v rfl (We.v rfl (Wg2.ne ?_ rfl rfl)))))
 rw [decide_eq_false h]
 rfl
theorem rA (n a b:Int) (a0:0≤a) (a1:a<n) (b0:0≤b) (b1:b<n) (h:a≠b):tF [.int n,.int a,.int b]=some (.val .non):=by
 apply Wr.eq
 unfold tF
 (refine Dm.Wr.fn ?_ rfl rfl;dsimp only [List.map,List.replicate,List.cons_append,List.nil_append])
 refine Ws.If (Wt.Not (Wt.V (We.F (Was.cons (We.v rfl (Was.cons (We.v rfl (Was.cons (We.v rfl (Was.nil (WF.val (EY n a b a0 a1 b0 b1 h) ?_ rfl rfl)))))))))))
 exact Wb.mk (Wif.f (Ws.nx rfl))
theorem Good.since {n:Int} {r:List Tie} {lo t:Int} (h:Good n lo r):Good n lo (BQ r t):=h.filter _
theorem EZ (r:List Tie) (t:Int):(BQ r t).length≤r.length:=List.length_filter_le _ _
theorem vS (n:Nat) (hn:n≤40) (r:List Tie) (hg:Good n 0 r) (hl:r.length≤1000) (a b:Int) (a0:0≤a) (a1:a<n) (b0:0≤b) (b1:b<n) (h:a≠b) (most:Int) (m0:0≤most) (m1:most≤90) (t:Int) :
  ∃ ws o,lP [.int n,aV r,.int a,.int b,.int most,.int t]=some (.val (.tup [.int (ws.length:Nat),.lst (ws.map msD),cM o]))∧Apart n (BQ r t) a b most ws o:=by
 obtain ⟨ws,o,e,A⟩:=pP n hn (BQ r t) hg.since.pl hg.since.nd (Nat.le_trans (EZ r t) hl) a b a0 a1 b0 b1 most m0 m1
 refine ⟨ws,o,?_,A⟩
 apply Wr.eq
 unfold lP
 (refine Dm.Wr.fn ?_ rfl rfl;dsimp only [List.map,List.replicate,List.cons_append,List.nil_append])
 refine Ws.seq (Ws.E (We.F (Was.cons (We.v rfl (Was.cons (We.v rfl (Was.cons (We.v rfl (Was.nil (WF.val (rA n a b a0 a1 b0 b1 h) ?_ rfl rfl))))))))))
 refine Ws.seq (Ws.A (We.F (Was.cons (We.v rfl (Was.cons (We.F (Was.cons (We.v rfl (Was.cons (We.v rfl (Was.nil (WF.box (BR r hl t) ?_ rfl rfl rfl rfl))))))))))) (by decide))
 refine Was.cons (We.v rfl (Was.cons (We.v rfl (Was.cons (We.v rfl (Was.nil (WF.box e ?_ rfl rfl rfl rfl)))))))
 refine WA.val ?_ (by first | (dsimp only [List.set];first | done | rfl) | rfl)
 refine Ws.R (We.T (Was.cons (We.B (Was.cons (We.e2 (We.v rfl (We.c (Wg2.ix ?_ rfl rfl rfl))))))))
 refine Was.nil (WB.IY (enc:=msD) (xs:=ws) ?_ rfl)
 refine Was.cons (We.e2 (We.v rfl (We.c (Wg2.ix ?_ rfl rfl rfl))))
 refine Was.cons (We.e2 (We.v rfl (We.c (Wg2.ix ?_ rfl rfl rfl))))
 refine Was.nil (WT.mk ?_ rfl rfl (by exact Nat.le_of_ble_eq_true rfl))
 rfl
theorem lW (n k:Nat) (n1:1≤n) (n10:n≤10) (k1:1≤k) (k6:k≤6) (N:List Tie) (h:Net n k N):j5 [b_ n k N]=some (.val .non):=by
 apply Wr.eq
 unfold j5
 (refine Dm.Wr.fn ?_ rfl rfl;dsimp only [List.map,List.replicate,List.cons_append,List.nil_append])
 exact Ws.If (Wt.Not (Wt.V (We.F (Was.cons (We.v rfl (Was.nil (WF.val (zq n k n1 n10 k1 k6 N h) (Wb.mk (Wif.f (Ws.nx rfl))) rfl rfl)))))))
theorem E1 (n k:Nat) (n1:1≤n) (n10:n≤10) (k1:1≤k) (k6:k≤6) (N:List Tie) (h:Net n k N) (a b:Int) (a0:0≤a) (a1:a<n) (b0:0≤b) (b1:b<n) (hab:a≠b) (t:Int) :
  ∃ (ws:List (List Step)) (o:Option (List Int)),ig [b_ n k N,.int a,.int b,.int t]=some (.val (.tup [.int (ws.length:Nat),.lst (ws.map msD),cM o])):=by
 have gN:=h.rc.good
 have lN:=h.rc.len
 obtain ⟨ws,o,e,A⟩:=vS n (by omega) N gN (by omega) a b a0 a1 b0 b1 hab k (by omega) (by omega) t
 refine ⟨ws,o,?_⟩
 apply Wr.eq
 unfold ig
 (refine Dm.Wr.fn ?_ rfl rfl;dsimp only [List.map,List.replicate,List.cons_append,List.nil_append])
 refine Ws.seq (Ws.E (We.F (Was.cons (We.v rfl (Was.nil (WF.val (lW n k n1 n10 k1 k6 N h) ?_ rfl rfl))))))
 refine Ws.R (We.F (Was.cons (We.e2 (We.v rfl (We.c (Wg2.ix ?_ rfl rfl rfl))))))
 refine Was.cons (We.e2 (We.v rfl (We.c (Wg2.ix ?_ rfl rfl rfl))))
 refine Was.cons (We.v rfl (Was.cons (We.v rfl (Was.cons (We.e2 (We.v rfl (We.c (Wg2.ix ?_ rfl rfl rfl))))))))
 refine Was.cons (We.v rfl (Was.nil (WF.box e ?_ rfl rfl rfl rfl)))
 rfl
theorem dR (i lo hi:Int) (h:¬ (lo≤i∧i≤hi)):kU [.int i,.int lo,.int hi]=some (.val (.bl false)):=by
 apply Wr.eq
 unfold kU
 (refine Dm.Wr.fn ?_ rfl rfl;dsimp only [List.map,List.replicate,List.cons_append,List.nil_append])
 refine Ws.R (We.And (We.F (Was.cons (We.v rfl (Was.nil (WF.val (tT i) (Wb.mk (Wif.t ?_)) rfl rfl))))))
 have e1:gLe (.int lo) (.int i)=some (.val (.bl (decide (lo≤i)))):=rfl
 have e2:gLe (.int i) (.int hi)=some (.val (.bl (decide (i≤hi)))):=rfl
 have e:iF gLe gLe (eV 1) (eV 0) (eV 2) [.sh (.int i),.sh (.int lo),.sh (.int hi)]=some (.val (.bl false),[.sh (.int i),.sh (.int lo),.sh (.int hi)]):=by
  unfold iF
  simp only [eV,List.getElem?_cons_zero,List.getElem?_cons_succ,pk,e1,e2,RV.bG]
  by_cases q:lo≤i
  ·rw [decide_eq_true q,decide_eq_false fun z=>h ⟨q,z⟩]
  ·rw [decide_eq_false q]
 exact ⟨_,_,e,rfl⟩
theorem j9 (n i:Int) (h:¬ (0≤i∧i<n)):dF [.int n,.int i]=some (.val (.bl false)):=by
 apply Wr.eq
 unfold dF
 (refine Dm.Wr.fn ?_ rfl rfl;dsimp only [List.map,List.replicate,List.cons_append,List.nil_append])
 refine Ws.R (We.F (Was.cons (We.v rfl (Was.cons (We.c (Was.cons (We.e2 (We.v rfl (We.c (Wg2.sub ?_ rfl rfl))))))))))
 exact Was.nil (WF.val (dR i 0 (n-1) (by omega)) rfl rfl rfl)
noncomputable def Jg (d:Dat):Prop:=∀ n:Nat,1≤n→n≤10→dF [.int n,d]=some (.val (.bl false))
theorem Jh (x:Int):∃ d x',tM [aS x]=some (.val d,aS x')∧Jg d:=by
 suffices hh:WrM (tM [aS x]) fun v p=>∃ d x',v=.val d∧p=aS x'∧Jg d by
  obtain ⟨v,p,h1,d,x',rfl,rfl,h2⟩:=hh
  exact ⟨d,x',h1,h2⟩
 unfold tM
 refine WrM.fn ?_ rfl rfl
 dsimp only [List.map,List.replicate,List.cons_append,List.nil_append]
 refine Ws.cut (fun ρ=>∃ (y z x1:Int),0≤y∧0≤z∧ρ=[.ow (aS x1),.ow (.lst [.non,.bl true,.bl false,.str [48],.lst [.int 0],.tup [.int 0],.int (0-1-y),.int (10+z),.str []])]) ?_ ?_
 ·refine Ws.A (We.L (Was.cons (We.c (Was.cons (We.c (Was.cons (We.c (Was.cons (We.c ?_)))))))) ) (by decide)
  refine Was.cons (We.L (Was.cons (We.c (Was.nil (WT.mk ?_ rfl rfl (by decide))))))
  refine Was.cons (We.T (Was.cons (We.c (Was.nil (WT.mk ?_ rfl rfl (by decide))))))
  refine Was.cons (We.e2 (We.e2 (We.c (We.c (Wg2.sub ?_ rfl rfl)))))
  refine We.take (We.e2 (We.c (We.c (Wg2.pow (z:=1000000000000) ?_ rfl rfl (by decide) (by decide))))) rfl
  refine dJ.mk (g7 ?_ rfl rfl (by decide) (by decide))
  refine Wg2.sub ?_ rfl rfl
  refine Was.cons (We.e2 (We.c ?_))
  refine We.take (We.e2 (We.c (We.c (Wg2.pow (z:=1000000000000) ?_ rfl rfl (by decide) (by decide))))) rfl
  refine dJ.mk (g7 ?_ rfl rfl (by decide) (by decide))
  refine Wg2.add ?_ rfl rfl
  refine Was.cons (We.c (Was.nil (WT.mk ?_ rfl rfl (by exact Nat.le_of_ble_eq_true rfl))))
  exact WA.new ⟨_,_,_,(cg _ 1000000000000 (by decide)).1,(cg _ 1000000000000 (by decide)).1,rfl⟩ (by first | (dsimp only [List.set];first | done | rfl) | rfl)
 rintro ρ ⟨y,z,x1,hy,hz,rfl⟩
 obtain ⟨d,hd,nd⟩:∃ d,gIx (.lst [.non,.bl true,.bl false,.str [48],.lst [.int 0],.tup [.int 0],.int (0-1-y),.int (10+z),.str []]) (.int (x1 % 9))=some (.val d)∧Jg d:=by
  have hm:=cg x1 9 (by decide)
  have:x1 % 9=0∨x1 % 9=1∨x1 % 9=2∨x1 % 9=3∨x1 % 9=4∨x1 % 9=5∨x1 % 9=6∨x1 % 9=7∨x1 % 9=8:=by omega
  rcases this with e | e | e | e | e | e | e | e | e<;>rw [e]
  ·exact ⟨_,rfl,fun n _ _=>rfl⟩
  ·exact ⟨_,rfl,fun n _ _=>rfl⟩
  ·exact ⟨_,rfl,fun n _ _=>rfl⟩
  ·exact ⟨_,rfl,fun n _ _=>rfl⟩
  ·exact ⟨_,rfl,fun n _ _=>rfl⟩
  ·exact ⟨_,rfl,fun n _ _=>rfl⟩
  ·exact ⟨_,rfl,fun n _ _=>j9 n _ (by omega)⟩
  ·exact ⟨_,rfl,fun n _ _=>j9 n _ (by omega)⟩
  ·exact ⟨_,rfl,fun n _ _=>rfl⟩
 refine Ws.R (We.e2 (We.w rfl (We.take (We.B (Was.cons (We.w rfl (Was.nil (WB.len ?_ rfl))))) rfl)))
 refine dJ.mk (g7 (m:=9) ?_ rfl rfl (by decide) (by decide))
 refine Wg2.ix ?_ rfl rfl hd
 refine WR.val ?_
 exact ⟨_,rfl,d,_,rfl,rfl,nd⟩
theorem nP (n:Int) (d1 d2:Dat) (h:dF [.int n,d1]=some (.val (.bl false))):bR [.int n,d1,d2]=some (.val (.bl false)):=by
 apply Wr.eq
 unfold bR
 (refine Dm.Wr.fn ?_ rfl rfl;dsimp only [List.map,List.replicate,List.cons_append,List.nil_append])
 exact Ws.R (We.And (We.F (Was.cons (We.v rfl (Was.cons (We.v rfl (Was.nil (WF.val h (Wb.mk (Wif.f rfl)) rfl rfl))))))))
theorem t7 (n:Int) (d1 d2:Dat) (h1:dF [.int n,d1]=some (.val (.bl true))) (h:dF [.int n,d2]=some (.val (.bl false))):bR [.int n,d1,d2]=some (.val (.bl false)):=by
 apply Wr.eq
 unfold bR
 (refine Dm.Wr.fn ?_ rfl rfl;dsimp only [List.map,List.replicate,List.cons_append,List.nil_append])
 refine Ws.R (We.And (We.F (Was.cons (We.v rfl (Was.cons (We.v rfl (Was.nil (WF.val h1 (Wb.mk (Wif.t ?_)) rfl rfl))))))))
 exact We.And (We.F (Was.cons (We.v rfl (Was.cons (We.v rfl (Was.nil (WF.val h (Wb.mk (Wif.f rfl)) rfl rfl)))))))
theorem BS (n p:Int) (h1:dF [.int n,.int p]=some (.val (.bl true))):bR [.int n,.int p,.int p]=some (.val (.bl false)):=by
 apply Wr.eq
 unfold bR
 (refine Dm.Wr.fn ?_ rfl rfl;dsimp only [List.map,List.replicate,List.cons_append,List.nil_append])
 refine Ws.R (We.And (We.F (Was.cons (We.v rfl (Was.cons (We.v rfl (Was.nil (WF.val h1 (Wb.mk (Wif.t ?_)) rfl rfl))))))))
 refine We.And (We.F (Was.cons (We.v rfl (Was.cons (We.v rfl (Was.nil (WF.val h1 (Wb.mk (Wif.t ?_)) rfl rfl)))))))
 refine We.e2 (We.v rfl (We.v rfl (Wg2.ne ?_ rfl rfl)))
 rw [decide_eq_true rfl]
 rfl
theorem BU (x:Int) (n:Nat) (n1:1≤n) (n10:n≤10):∃ d1 d2 x',tO [aS x,.int n]=some (.val (.tup [d1,d2]),aS x')∧bR [.int n,d1,d2]=some (.val (.bl false)):=by
 suffices hh:WrM (tO [aS x,.int n]) fun v p=>∃ d1 d2 x',v=.val (.tup [d1,d2])∧p=aS x'∧bR [.int n,d1,d2]=some (.val (.bl false)) by
  obtain ⟨v,p,h1,d1,d2,x',rfl,rfl,h2⟩:=hh
  exact ⟨d1,d2,x',h1,h2⟩
 obtain ⟨d,x1,e1,nd⟩:=Jh x
 unfold tO
 refine WrM.fn ?_ rfl rfl
 dsimp only [List.map,List.replicate,List.cons_append,List.nil_append]
 refine Ws.seq (Ws.A (We.Fm (Was.nil (WFm.any e1 ?_ rfl rfl (by first | (dsimp only [List.set];first | done | rfl) | rfl))) rfl) (by decide))
 refine WA.val ?_ (by first | (dsimp only [List.set];first | done | rfl) | rfl)
 refine Ws.seq (Ws.A ?_ (by decide))
 refine We.drw (m:=n) rfl (by omega) (by unfold iD;omega) rfl fun q x2 q0 q1 ρ3 e=>?_
 subst e
 refine WA.val ?_ (by first | (dsimp only [List.set];first | done | rfl) | rfl)
 have pq:=eX n q q0 q1
 have pn:=j9 n n (by omega)
 have po:=nd n n1 n10
 obtain ⟨d1,d2,hd,np⟩:∃ d1 d2,gIx (.lst [.tup [d,.int q],.tup [.int q,d],.tup [.int q,.int q],.tup [.int n,.int q],.tup [.int q,.int n],.tup [d,d]]) (.int (x2 % 6))=some (.val (.tup [d1,d2]))∧bR [.int n,d1,d2]=some (.val (.bl false)):=by
  have hm:=cg x2 6 (by decide)
  have:x2 % 6=0∨x2 % 6=1∨x2 % 6=2∨x2 % 6=3∨x2 % 6=4∨x2 % 6=5:=by omega
  rcases this with e | e | e | e | e | e<;>rw [e]
  ·exact ⟨_,_,rfl,nP n _ _ po⟩
  ·exact ⟨_,_,rfl,t7 n _ _ pq po⟩
  ·exact ⟨_,_,rfl,BS n _ pq⟩
  ·exact ⟨_,_,rfl,nP n _ _ pn⟩
  ·exact ⟨_,_,rfl,t7 n _ _ pq pn⟩
  ·exact ⟨_,_,rfl,nP n _ _ po⟩
 have two:∀ {a b:Nat} {da db:Dat} {ρ:Env} {Q:Val→Env→Prop},ρ[a]?=some (.sh da)→ρ[b]?=some (.sh db)→Q (.val (.tup [da,db])) ρ→We (bE [eV a,eV b]) ρ Q:=fun h1 h2 q=>We.T (Was.cons (We.v h1 (Was.cons (We.v h2 (Was.nil (WT.mk q rfl rfl (by exact Nat.le_of_ble_eq_true rfl)))))))
 refine Ws.R (We.e2 (We.L (Was.cons (two rfl rfl (Was.cons (two rfl rfl (Was.cons (two rfl rfl (Was.cons (two rfl rfl (Was.cons (two rfl rfl (Was.cons (two rfl rfl (Was.nil (WT.mk ?_ rfl rfl (by exact Nat.le_of_ble_eq_true rfl)))))))))))))))))
 refine We.take (We.c (dJ.mk (g7 (m:=6) ?_ rfl rfl (by decide) (by decide)))) rfl
 refine Wg2.ix ?_ rfl rfl hd
 refine WR.val ?_
 exact ⟨_,rfl,d1,d2,_,rfl,rfl,np⟩
theorem j_ (d:Dat) (h:pH isT d=some (.val (.bl false))):bJ [d]=some (.val (.bl false)):=by
 apply Wr.eq
 unfold bJ
 (refine Dm.Wr.fn ?_ rfl rfl;dsimp only [List.map,List.replicate,List.cons_append,List.nil_append])
 refine Ws.seq (Ws.If (Wt.Or (Wt.Not (Wt.V (We.e1 (We.v rfl (Wg1.mk (v:=.val (.bl false)) (Wb.mk (Wif.t (Wif.t ?_))) rfl h)))))))
 exact Ws.R (We.c rfl)
theorem rB (ds:List Dat) (h:ds.length≠3) (hl:ds.length<100):bJ [.tup ds]=some (.val (.bl false)):=by
 apply Wr.eq
 unfold bJ
 (refine Dm.Wr.fn ?_ rfl rfl;dsimp only [List.map,List.replicate,List.cons_append,List.nil_append])
 refine Ws.seq (Ws.If (Wt.Or (Wt.Not (Wt.V (We.e1 (We.v rfl (Wg1.mk (v:=.val (.bl true)) (Wb.mk (Wif.f ?_)) rfl rfl)))))))
 refine Wt.V (We.e2 (We.B (Was.cons (We.v rfl (Was.nil (WB.vH ?_ rfl))))))
 refine We.c (Wg2.ne (Wb.mk ?_) rfl rfl)
 rw [decide_eq_false (by omega)]
 exact Wif.t (Ws.R (We.c rfl))
theorem rC (a b c:Dat) (h:gy [b]=some (.val (.bl false))):bJ [.tup [a,b,c]]=some (.val (.bl false)):=by
 apply Wr.eq
 unfold bJ
 (refine Dm.Wr.fn ?_ rfl rfl;dsimp only [List.map,List.replicate,List.cons_append,List.nil_append])
 refine Ws.seq (Ws.If (Wt.Or (Wt.Not (Wt.V (We.e1 (We.v rfl (Wg1.mk (v:=.val (.bl true)) (Wb.mk (Wif.f ?_)) rfl rfl)))))))
 refine Wt.V (We.e2 (We.B (Was.cons (We.v rfl (Was.nil (WB.vH ?_ rfl))))))
 refine We.c (Wg2.ne (Wb.mk ?_) rfl rfl)
 refine Wif.no rfl (Ws.nx ?_)
 refine Ws.seq (Ws.If (Wt.Or (Wt.Not (Wt.V (We.F (Was.cons (We.e2 (We.v rfl (We.c (Wg2.ix (v:=b) ?_ rfl rfl rfl))))))))))
 refine Was.nil (WF.val h (Wb.mk (Wif.t (Wif.t ?_))) rfl rfl)
 exact Ws.R (We.c rfl)
theorem eu (a b c:Dat) (hb:gy [b]=some (.val (.bl true))) (h:gA [a,c]=some (.val (.bl false))):bJ [.tup [a,b,c]]=some (.val (.bl false)):=by
 apply Wr.eq
 unfold bJ
 (refine Dm.Wr.fn ?_ rfl rfl;dsimp only [List.map,List.replicate,List.cons_append,List.nil_append])
 refine Ws.seq (Ws.If (Wt.Or (Wt.Not (Wt.V (We.e1 (We.v rfl (Wg1.mk (v:=.val (.bl true)) (Wb.mk (Wif.f ?_)) rfl rfl)))))))
 refine Wt.V (We.e2 (We.B (Was.cons (We.v rfl (Was.nil (WB.vH ?_ rfl))))))
 refine We.c (Wg2.ne (Wb.mk ?_) rfl rfl)
 refine Wif.no rfl (Ws.nx ?_)
 refine Ws.seq (Ws.If (Wt.Or (Wt.Not (Wt.V (We.F (Was.cons (We.e2 (We.v rfl (We.c (Wg2.ix (v:=b) ?_ rfl rfl rfl))))))))))
 refine Was.nil (WF.val hb (Wb.mk (Wif.f ?_)) rfl rfl)
 refine Wt.Not (Wt.V (We.F (Was.cons (We.e2 (We.v rfl (We.c (Wg2.ix (v:=a) ?_ rfl rfl rfl)))))))
 refine Was.cons (We.e2 (We.v rfl (We.c (Wg2.ix (v:=c) ?_ rfl rfl rfl))))
 refine Was.nil (WF.val h (Wb.mk (Wif.t ?_)) rfl rfl)
 exact Ws.R (We.c rfl)
theorem iP (a c:Dat) (h:vM [a]=some (.val (.bl false))):gA [a,c]=some (.val (.bl false)):=by
 apply Wr.eq
 unfold gA
 (refine Dm.Wr.fn ?_ rfl rfl;dsimp only [List.map,List.replicate,List.cons_append,List.nil_append])
 refine Ws.seq (Ws.If (Wt.Or (Wt.Not (Wt.V (We.F (Was.cons (We.v rfl (Was.nil (WF.val h (Wb.mk (Wif.t (Wif.t ?_))) rfl rfl)))))))))
 exact Ws.R (We.c rfl)
theorem t8 (n:Nat) (n1:1≤n) (n10:n≤10) (c:Dat) (h:pH isL c=some (.val (.bl false))):gA [.int n,c]=some (.val (.bl false)):=by
 apply Wr.eq
 unfold gA
 (refine Dm.Wr.fn ?_ rfl rfl;dsimp only [List.map,List.replicate,List.cons_append,List.nil_append])
 refine Ws.seq (Ws.If (Wt.Or (Wt.Not (Wt.V (We.F (Was.cons (We.v rfl (Was.nil (WF.val (fu n (by omega) (by omega)) (Wb.mk (Wif.f ?_)) rfl rfl)))))))))
 refine Wt.Or (Wt.Not (Wt.V (We.e1 (We.v rfl (Wg1.mk (v:=.val (.bl false)) (Wb.mk (Wif.t (Wif.t ?_))) rfl h)))))
 exact Ws.R (We.c rfl)
theorem rD (n:Nat) (n1:1≤n) (n10:n≤10) (t:Dat) (h:nD [.int n,t]=some (.val (.bl false))):gA [.int n,.lst [t]]=some (.val (.bl false)):=by
 apply Wr.eq
 unfold gA
 (refine Dm.Wr.fn ?_ rfl rfl;dsimp only [List.map,List.replicate,List.cons_append,List.nil_append])
 refine Ws.seq (Ws.If (Wt.Or (Wt.Not (Wt.V (We.F (Was.cons (We.v rfl (Was.nil (WF.val (fu n (by omega) (by omega)) (Wb.mk (Wif.f ?_)) rfl rfl)))))))))
 refine Wt.Or (Wt.Not (Wt.V (We.e1 (We.v rfl (Wg1.mk (v:=.val (.bl true)) (Wb.mk (Wif.f ?_)) rfl rfl)))))
 refine Wt.V (We.e2 (We.B (Was.cons (We.v rfl (Was.nil (WB.len ?_ rfl))))))
 refine We.c (Wg2.gt (Wb.mk (Wif.no rfl ?_)) rfl rfl)
 refine Ws.nx (Ws.seq (Ws.If (Wt.Not (Wt.V (We.B (Was.cons ?_))))))
 refine We.y_ id [t] (fun _=>false) Dat.bl ?_ rfl rfl rfl (by decide) (by exact Nat.le_of_ble_eq_true rfl) fun u hu=>?_
 ·refine Was.nil (WB.all (fun _=>false) (xs:=[t]) ?_ rfl)
  exact Wb.mk (Wif.t (Ws.R (We.c rfl)))
 ·rw [List.mem_singleton.mp hu]
  exact We.F (Was.cons (We.v rfl (Was.cons (We.v rfl (Was.nil (WF.val h (Wk.val ⟨rfl,rfl⟩) rfl rfl))))))
theorem xV (n k:Nat) (n1:1≤n) (n10:n≤10) (k1:1≤k) (k6:k≤6) (r:List Tie) (hr:Rcd n r) (h:∀ ms,bV k r ms→(0:Int)∈ms):bJ [b_ n k r]=some (.val (.bl false)):=by
 have hl:=hr.len
 obtain ⟨ms,el,al⟩:=fq n k n10 k1 k6 r hr.ends (by omega)
 apply Wr.eq
 unfold bJ b_
 (refine Dm.Wr.fn ?_ rfl rfl;dsimp only [List.map,List.replicate,List.cons_append,List.nil_append])
 refine Ws.seq (Ws.If (Wt.Or (Wt.Not (Wt.V (We.e1 (We.v rfl (Wg1.mk (v:=.val (.bl true)) (Wb.mk (Wif.f ?_)) rfl rfl)))))))
 refine Wt.V (We.e2 (We.B (Was.cons (We.v rfl (Was.nil (WB.vH ?_ rfl))))))
 refine We.c (Wg2.ne (Wb.mk ?_) rfl rfl)
 refine Wif.no rfl (Ws.nx ?_)
 refine Ws.seq (Ws.If (Wt.Or (Wt.Not (Wt.V (We.F (Was.cons (We.e2 (We.v rfl (We.c (Wg2.ix ?_ rfl rfl rfl))))))))))
 refine Was.nil (WF.val (fy k (by omega) (by omega)) (Wb.mk (Wif.f ?_)) rfl rfl)
 refine Wt.Not (Wt.V (We.F (Was.cons (We.e2 (We.v rfl (We.c (Wg2.ix ?_ rfl rfl rfl)))))))
 refine Was.cons (We.e2 (We.v rfl (We.c (Wg2.ix ?_ rfl rfl rfl))))
 refine Was.nil (WF.val (j8 n n1 n10 r hr) (Wb.mk (Wif.f ?_)) rfl rfl)
 refine Ws.nx (Ws.R (We.e2 (We.c (We.F (Was.cons (We.e2 (We.v rfl (We.c (Wg2.ix ?_ rfl rfl rfl)))))))))
 refine Was.cons (We.e2 (We.v rfl (We.c (Wg2.ix ?_ rfl rfl rfl))))
 refine Was.cons (We.e2 (We.v rfl (We.c (Wg2.ix ?_ rfl rfl rfl))))
 refine Was.nil (WF.box el ?_ rfl rfl rfl rfl)
 refine Wg2.LV (xs:=ms) ?_ rfl rfl
 rw [decide_eq_true (h ms al)]
 rfl
theorem qo {k:Nat} (k1:1≤k) {t:Tie} (h:t.a=t.b) {r:List Tie} {ms:List Int} (al:bV k (t::r) ms):(0:Int)∈ms:=by
 cases ms with
 | nil=>cases al
 | cons m ms=>
  have h1:qk k r ms t m:=al.2
  rcases h1 with ⟨e,_⟩ | ⟨_,_,nc,_⟩
  ·rw [e];exact List.mem_cons_self
  ·rw [h] at nc
   exact absurd (Con.refl _) nc
theorem kY (d:Dat) (h:kU [d,.int 1,.int 6]=some (.val (.bl false))):gy [d]=some (.val (.bl false)):=by
 apply Wr.eq
 unfold gy
 (refine Dm.Wr.fn ?_ rfl rfl;dsimp only [List.map,List.replicate,List.cons_append,List.nil_append])
 exact Ws.R (We.F (Was.cons (We.v rfl (Was.cons (We.c (Was.cons (We.c (Was.nil (WF.val h rfl rfl rfl)))))))))
theorem kZ (d:Dat) (h:kU [d,.int 1,.int 10]=some (.val (.bl false))):vM [d]=some (.val (.bl false)):=by
 apply Wr.eq
 unfold vM
 (refine Dm.Wr.fn ?_ rfl rfl;dsimp only [List.map,List.replicate,List.cons_append,List.nil_append])
 exact Ws.R (We.F (Was.cons (We.v rfl (Was.cons (We.c (Was.cons (We.c (Was.nil (WF.val h rfl rfl rfl)))))))))
theorem kc (d:Dat) (lo hi:Int) (h:Bt [d]=some (.val (.bl false))):kU [d,.int lo,.int hi]=some (.val (.bl false)):=by
 apply Wr.eq
 unfold kU
 (refine Dm.Wr.fn ?_ rfl rfl;dsimp only [List.map,List.replicate,List.cons_append,List.nil_append])
 exact Ws.R (We.And (We.F (Was.cons (We.v rfl (Was.nil (WF.val h (Wb.mk (Wif.f rfl)) rfl rfl))))))
noncomputable def zu (n k:Nat) (K:List Tie):List Dat:=
 [.non,.lst [],.tup [],.lst [.int n,.int k,aV K],.tup [.int n,.int k],.tup [.int n,.int k,aV K,.int 0],.tup [.bl true,.int k,.lst []],.tup [.int n,.bl true,.lst []],.tup [.int 0,.int k,.lst []],.tup [.int n,.int 0,.lst []]] ++
 [.tup [.int 11,.int k,.lst []],.tup [.int n,.int 7,.lst []],.tup [.int n,.int k,.non],.tup [.int n,.int k,.tup (K.map dh++[.int 0])],.tup [.int n,.int k,.lst [.tup [.int 0,.int 0,.int 0]]],.str [110,101,116]] ++
 [.tup [.int n,.int k,.lst [.tup [.int 3,.int 0,.int n]]],.tup [.int n,.int k,.lst [.tup [.int (0-1),.int 0,.int 0]]],.tup [.int n,.int k,.lst [.lst [.int 1,.int 0,.int 0]]],.tup [.int n,.int 1,.lst [.tup [.int 1,.int 0,.int 0],.tup [.int 2,.int 0,.int 0]]]]
theorem NN (n:Nat) (n1:1≤n):Rcd n [⟨0,0,0⟩]:=⟨fun t ht=>by
  rw [List.mem_singleton.mp ht];exact ⟨by decide,by decide,by decide,by decide,by show (0:Int)<n;omega⟩,by simp,by decide⟩
theorem NO (n:Nat) (n1:1≤n):Rcd n [⟨1,0,0⟩,⟨2,0,0⟩]:=⟨fun t ht=>by
  rcases List.mem_cons.mp ht with rfl | ht
  ·exact ⟨by decide,by decide,by decide,by decide,by show (0:Int)<n;omega⟩
  ·rw [List.mem_singleton.mp ht];exact ⟨by decide,by decide,by decide,by decide,by show (0:Int)<n;omega⟩,by simp,by decide⟩
theorem iQ (n:Int) (t:Dat) (h:j4 [.int n,t]=some (.val (.bl false))):nD [.int n,t]=some (.val (.bl false)):=by
 apply Wr.eq
 unfold nD
 (refine Dm.Wr.fn ?_ rfl rfl;dsimp only [List.map,List.replicate,List.cons_append,List.nil_append])
 exact Ws.R (We.And (We.F (Was.cons (We.v rfl (Was.cons (We.v rfl (Was.nil (WF.val h (Wb.mk (Wif.f rfl)) rfl rfl))))))))
theorem BV (n m:Int) (a b:Dat) (h:lO [.int m]=some (.val (.bl false))):j4 [.int n,.tup [.int m,a,b]]=some (.val (.bl false)):=by
 apply Wr.eq
 unfold j4
 (refine Dm.Wr.fn ?_ rfl rfl;dsimp only [List.map,List.replicate,List.cons_append,List.nil_append])
 refine Ws.seq (Ws.If (Wt.Or (Wt.Not (Wt.V (We.e1 (We.v rfl (Wg1.mk (v:=.val (.bl true)) (Wb.mk (Wif.f ?_)) rfl rfl)))))))
 refine Wt.V (We.e2 (We.B (Was.cons (We.v rfl (Was.nil (WB.vH ?_ rfl))))))
 refine We.c (Wg2.ne (Wb.mk (Wif.no rfl ?_)) rfl rfl)
 refine Ws.nx (Ws.R (We.And (We.F (Was.cons (We.e2 (We.v rfl (We.c (Wg2.ix ?_ rfl rfl rfl))))))))
 exact Was.nil (WF.val h (Wb.mk (Wif.f rfl)) rfl rfl)
theorem BW (n m:Int) (a b:Int) (hm:lO [.int m]=some (.val (.bl true))) (ha:dF [.int n,.int a]=some (.val (.bl true))) (h:dF [.int n,.int b]=some (.val (.bl false))):j4 [.int n,.tup [.int m,.int a,.int b]]=some (.val (.bl false)):=by
 apply Wr.eq
 unfold j4
 (refine Dm.Wr.fn ?_ rfl rfl;dsimp only [List.map,List.replicate,List.cons_append,List.nil_append])
 refine Ws.seq (Ws.If (Wt.Or (Wt.Not (Wt.V (We.e1 (We.v rfl (Wg1.mk (v:=.val (.bl true)) (Wb.mk (Wif.f ?_)) rfl rfl)))))))
 refine Wt.V (We.e2 (We.B (Was.cons (We.v rfl (Was.nil (WB.vH ?_ rfl))))))
 refine We.c (Wg2.ne (Wb.mk (Wif.no rfl ?_)) rfl rfl)
 refine Ws.nx (Ws.R (We.And (We.F (Was.cons (We.e2 (We.v rfl (We.c (Wg2.ix ?_ rfl rfl rfl))))))))
 refine Was.nil (WF.val hm (Wb.mk (Wif.t ?_)) rfl rfl)
 refine We.And (We.F (Was.cons (We.v rfl (Was.cons (We.e2 (We.v rfl (We.c (Wg2.ix ?_ rfl rfl rfl))))))))
 refine Was.nil (WF.val ha (Wb.mk (Wif.t ?_)) rfl rfl)
 refine We.F (Was.cons (We.v rfl (Was.cons (We.e2 (We.v rfl (We.c (Wg2.ix ?_ rfl rfl rfl)))))))
 exact Was.nil (WF.val h rfl rfl rfl)
theorem zv (m:Int) (h:m<0):lO [.int m]=some (.val (.bl false)):=by
 apply Wr.eq
 unfold lO
 (refine Dm.Wr.fn ?_ rfl rfl;dsimp only [List.map,List.replicate,List.cons_append,List.nil_append])
 refine Ws.R (We.F (Was.cons (We.v rfl (Was.cons (We.c (Was.cons (We.e2 (We.c (We.c (Wg2.pow (z:=Z30) ?_ rfl rfl (by decide) (by decide)))))))))))
 exact Was.nil (WF.val (dR m 0 Z30 (by omega)) rfl rfl rfl)
theorem E2 (n k:Nat) (n1:1≤n) (n10:n≤10) (k1:1≤k) (k6:k≤6) (K:List Tie) (lK:K.length≤60):∀ d∈zu n k K,bJ [d]=some (.val (.bl false)):=by
 have ly:=fy k (by omega) (by omega)
 intro d hd
 unfold zu at hd
 simp only [List.cons_append,List.nil_append,List.mem_cons,List.not_mem_nil,or_false] at hd
 rcases hd with rfl | rfl | rfl | rfl | rfl | rfl | rfl | rfl | rfl | rfl | rfl | rfl | rfl | rfl | rfl | rfl | rfl | rfl | rfl | rfl
 ·exact j_ _ rfl
 ·exact j_ _ rfl
 ·exact rB [] (by decide) (by decide)
 ·exact j_ _ rfl
 ·exact rB [.int n,.int k] (by simp) (by simp)
 ·exact rB [.int n,.int k,aV K,.int 0] (by simp) (by simp)
 ·exact eu _ _ _ ly (iP _ _ (kZ _ (kc _ _ _ rfl)))
 ·exact rC _ _ _ (kY _ (kc _ _ _ rfl))
 ·exact eu _ _ _ ly (iP _ _ (kZ _ (dR 0 1 10 (by decide))))
 ·exact rC _ _ _ (kY _ (dR 0 1 6 (by decide)))
 ·exact eu _ _ _ ly (iP _ _ (kZ _ (dR 11 1 10 (by decide))))
 ·exact rC _ _ _ (kY _ (dR 7 1 6 (by decide)))
 ·exact eu _ _ _ ly (t8 n n1 n10 _ rfl)
 ·exact eu _ _ _ ly (t8 n n1 n10 _ rfl)
 ·exact xV n k n1 n10 k1 k6 [⟨0,0,0⟩] (NN n n1) fun ms al=>qo k1 rfl al
 ·exact j_ _ rfl
 ·exact eu _ _ _ ly (rD n n1 n10 _ (iQ _ _ (BW n 3 0 n (ql 3 (by decide) (by decide)) (eX n 0 (by decide) (by omega)) (j9 n n (by omega)))))
 ·exact eu _ _ _ ly (rD n n1 n10 _ (iQ _ _ (BV n _ _ _ (zv _ (by decide)))))
 ·exact eu _ _ _ ly (rD n n1 n10 _ (iQ _ _ rfl))
 ·exact xV n 1 n1 n10 (by decide) (by decide) [⟨1,0,0⟩,⟨2,0,0⟩] (NO n n1) fun ms al=>qo (by decide) rfl al
theorem WB.L_ {xs:List Dat} {o:Option (List Dat)} {K:RV→Prop} (k:K (.new (.lst xs))) (ho:o=some [.tup xs]):WB su o K:=⟨_,_,ho,rfl,k⟩
theorem zw (x:Int) (n k:Nat) (n1:1≤n) (n10:n≤10) (k1:1≤k) (k6:k≤6) (K:List Tie) (lK:K.length≤60) :
  ∃ d x',tN [aS x,b_ n k K]=some (.val d,aS x')∧bJ [d]=some (.val (.bl false)):=by
 suffices hh:WrM (tN [aS x,b_ n k K]) fun v p=>∃ d x',v=.val d∧p=aS x'∧bJ [d]=some (.val (.bl false)) by
  obtain ⟨v,p,h1,d,x',rfl,rfl,h2⟩:=hh
  exact ⟨d,x',h1,h2⟩
 unfold tN
 refine WrM.fn ?_ rfl rfl
 dsimp only [List.map,List.replicate,List.cons_append,List.nil_append]
 unfold b_
 refine Ws.seq (Ws.U (We.v rfl (Wk.val ⟨_,_,rfl,rfl,?_⟩)))
 have V:∀ {a:Nat} {da:Dat} {ρ:Env} {r:List FE} {Q:List Val→Env→Prop},ρ[a]?=some (.sh da)→Was r ρ (fun xs ρ2=>Q (.val da::xs) ρ2)→Was (eV a::r) ρ Q:=fun h1 q=>Was.cons (We.v h1 q)
 have c:∀ {da:Dat} {ρ:Env} {r:List FE} {Q:List Val→Env→Prop},Was r ρ (fun xs ρ2=>Q (.val da::xs) ρ2)→Was (eC da::r) ρ Q:=fun q=>Was.cons (We.c q)
 have E:∀ {ρ:Env} {r:List FE} {Q:List Val→Env→Prop},Was r ρ (fun xs ρ2=>Q (.new (.lst [])::xs) ρ2)→Was (bF []::r) ρ Q:=fun q=>Was.cons (We.L (Was.nil (WT.mk q rfl rfl (by decide))))
 have z:∀ {ds:List Dat},ds.length<20→ds.length≤SZ:=fun h=>by unfold SZ;omega
 refine Ws.seq (Ws.A (We.L (c (E (Was.cons (We.T (Was.nil (WT.mk ?_ rfl rfl (by decide)))))))) (by decide))
 refine Was.cons (We.B (V rfl (Was.nil (WB.L_ ?_ rfl))))
 refine Was.cons (We.T (V rfl (V rfl (Was.nil (WT.mk ?_ rfl rfl (z (by simp)))))))
 refine Was.cons (We.T (V rfl (V rfl (V rfl (c (Was.nil (WT.mk ?_ rfl rfl (z (by simp)))))))))
 refine Was.cons (We.T (c (V rfl (E (Was.nil (WT.mk ?_ rfl rfl (z (by simp))))))))
 refine Was.cons (We.T (V rfl (c (E (Was.nil (WT.mk ?_ rfl rfl (z (by simp))))))))
 refine Was.cons (We.T (c (V rfl (E (Was.nil (WT.mk ?_ rfl rfl (z (by simp))))))))
 refine Was.cons (We.T (V rfl (c (E (Was.nil (WT.mk ?_ rfl rfl (z (by simp))))))))
 refine Was.nil (WT.mk ?_ rfl rfl (z (by simp)))
 refine WA.new ?_ (by first | (dsimp only [List.set];first | done | rfl) | rfl)
 refine Ws.seq (Ws.A (We.e2 (We.w rfl (We.L (Was.cons (We.T (c (V rfl (E (Was.nil (WT.mk ?_ rfl rfl (z (by simp))))))))))) ) (by decide))
 refine Was.cons (We.T (V rfl (c (E (Was.nil (WT.mk ?_ rfl rfl (z (by simp))))))))
 refine Was.cons (We.T (V rfl (V rfl (c (Was.nil (WT.mk ?_ rfl rfl (z (by simp))))))))
 refine Was.cons (We.T (V rfl (V rfl (Was.cons (We.e2 (We.B (V rfl (Was.nil (WB.tuple ?_ rfl)))))))))
 refine We.T (c (Was.nil (WT.mk ?_ rfl rfl (z (by simp)))))
 refine ⟨_,_,_,rfl,rfl,(show sZ (.tup (K.map dh)) (.tup [.int 0])=some (.val (.tup (K.map dh++[.int 0]))) from if_pos (by simp;unfold SZ;omega)),?_⟩
 refine Was.nil (WT.mk ?_ rfl rfl (z (by simp)))
 refine Was.cons (We.T (V rfl (V rfl (Was.cons (We.L (Was.cons (We.T (c (c (c (Was.nil (WT.mk ?_ rfl rfl (z (by simp)))))))))))))) 
 refine Was.nil (WT.mk ?_ rfl rfl (z (by simp)))
 refine Was.nil (WT.mk ?_ rfl rfl (z (by simp)))
 refine c (Was.nil (WT.mk ?_ rfl rfl (z (by simp))))
 refine Wg2.EC ?_ rfl rfl (by simp;unfold SZ;omega)
 refine WA.new ?_ (by first | (dsimp only [List.set];first | done | rfl) | rfl)
 refine Ws.seq (Ws.A (We.e2 (We.w rfl (We.L (Was.cons (We.T (V rfl (V rfl (Was.cons (We.L (Was.cons (We.T (c (c (V rfl (Was.nil (WT.mk ?_ rfl rfl (z (by simp)))))))))))))))))) (by decide))
 refine Was.nil (WT.mk ?_ rfl rfl (z (by simp)))
 refine Was.nil (WT.mk ?_ rfl rfl (z (by simp)))
 refine Was.cons (We.T (V rfl (V rfl (Was.cons (We.L (Was.cons (We.T (Was.cons (We.e2 (We.c (We.c (Wg2.sub ?_ rfl rfl)))))))))))) 
 refine c (c (Was.nil (WT.mk ?_ rfl rfl (z (by simp)))))
 refine Was.nil (WT.mk ?_ rfl rfl (z (by simp)))
 refine Was.nil (WT.mk ?_ rfl rfl (z (by simp)))
 refine Was.cons (We.T (V rfl (V rfl (Was.cons (We.L (Was.cons (We.L (c (c (c (Was.nil (WT.mk ?_ rfl rfl (z (by simp))))))))))))))
 refine Was.nil (WT.mk ?_ rfl rfl (z (by simp)))
 refine Was.nil (WT.mk ?_ rfl rfl (z (by simp)))
 refine Was.cons (We.T (V rfl (c (Was.cons (We.L (Was.cons (We.T (c (c (c (Was.nil (WT.mk ?_ rfl rfl (z (by simp))))))))))))))
 refine Was.cons (We.T (c (c (c (Was.nil (WT.mk ?_ rfl rfl (z (by simp))))))))
 refine Was.nil (WT.mk ?_ rfl rfl (z (by simp)))
 refine Was.nil (WT.mk ?_ rfl rfl (z (by simp)))
 refine Was.nil (WT.mk ?_ rfl rfl (z (by simp)))
 refine Wg2.EC ?_ rfl rfl (by simp;unfold SZ;omega)
 refine WA.new ?_ (by first | (dsimp only [List.set];first | done | rfl) | rfl)
 have hb:=E2 n k n1 n10 k1 k6 K lK
 have hL:(zu n k K).length=20:=by unfold zu;simp
 show Ws _ [_,_,_,_,_,.ow (.lst (zu n k K))] _ _ _ _
 generalize zu n k K=L at hb hL ⊢
 refine Ws.R (We.e2 (We.w rfl (We.take (We.B (Was.cons (We.w rfl (Was.nil (WB.len ?_ rfl))))) rfl)))
 refine dJ.mk (g7 (m:=(L.length:Nat)) ?_ rfl rfl (by omega) (by unfold iD;omega))
 have hm:=cg x (L.length:Nat) (by omega)
 have hi:(x % (L.length:Nat)).toNat<L.length:=by omega
 have hd:gIx (.lst L) (.int (x % (L.length:Nat)))=some (.val (L[(x % (L.length:Nat)).toNat])):=by
  unfold gIx
  dsimp only
  have:=jY id L (x % (L.length:Nat)) hm.1 hm.2
  rw [List.map_id] at this
  rw [this]
  rfl
 refine Wg2.ix ?_ rfl rfl hd
 refine WR.val ?_
 exact ⟨_,rfl,_,_,rfl,rfl,hb _ (List.getElem_mem _)⟩
theorem iR {f:List Dat→Option RV} {as:List FE} {ρ ρ1:Env} {xs:List Val} {ds:List Dat} (h1:eAs as ρ=some (xs,ρ1)) (h2:pks ρ1 xs=some ds) (h:f ds=none):eF f as ρ=none:=by
 unfold eF;rw [h1];dsimp only;rw [h2];dsimp only;rw [h]
theorem k7 {e:FE} {ρ:Env} (h:e ρ=none):sE e ρ=none:=by unfold sE;rw [h]
theorem t9 {a b:FS} {ρ:Env} (h:a ρ=none):aD a b ρ=none:=by unfold aD;rw [h]
theorem mC {t:FT} {a b:FS} {ρ ρ1:Env} {c:Bool} (ht:t ρ=some (c,ρ1)) (h:(if c then a ρ1 else b ρ1)=none):sIf t a b ρ=none:=by
 unfold sIf;rw [ht];cases c<;>exact h
theorem Ji {f g:FS} {ρ:Env} (h:f ρ=none) {N:Env→Prop} {R:RV→Env→Prop} {B C:Env→Prop} (k:Ws g ρ N R B C):Ws (sUn f g) ρ N R B C:=by
 obtain ⟨o,e,q⟩:=k
 exact ⟨o,by unfold sUn;rw [h];exact e,q⟩
theorem BX {R:Env→Option Env} {C ie:Nat} {h:FS} {ρ:Env} (e:R ρ=none):jX R C ie h ρ=none:=by unfold jX;rw [e]
theorem BY {Rr:Env→Option Env} {C ie:Nat} {h:FS} {ρ ρ1:Env} (e:Rr ρ=some ρ1) (h0:ie≠0) {N:Env→Prop} {R:RV→Env→Prop} {B D:Env→Prop} (k:Ws h (ρ1.set ie (.sh (.exc C))) (fun ρ'=>N (ρ'.set ie .un)) (fun r ρ'=>R r (ρ'.set ie .un)) (fun _=>False) (fun _=>False)):Ws (jX Rr C ie h) ρ N R B D:=by
 obtain ⟨o,eo,q⟩:=k
 cases o with
 | nx ρ'=>exact ⟨.nx (ρ'.set ie .un),by unfold jX;rw [e];dsimp only;rw [if_neg h0,eo],q⟩
 | ret r ρ'=>exact ⟨.ret r (ρ'.set ie .un),by unfold jX;rw [e];dsimp only;rw [if_neg h0,eo],q⟩
 | bk ρ'=>exact q.elim
 | ct ρ'=>exact q.elim
theorem dS {bad:List Dat→Bool} {fs:List FE} {ρ ρ1:Env} {xs:List Val} {ds:List Dat} (h1:eAs fs ρ=some (xs,ρ1)) (h2:pks ρ1 xs=some ds) (h:bad ds=true):cz bad fs ρ=some ρ1:=by
 unfold cz;rw [h1];dsimp only;rw [h2];dsimp only;rw [if_pos h]
theorem kg {n m:Nat} {body:FS} {ds:List Dat} (h:body (ds.map Cell.sh++List.replicate m .un)=none):fn n m body ds=none:=by
 unfold fn
 split
 ·rw [h]
 ·rfl
theorem kh {n m:Nat} {R:Env→Option Env} {ds:List Dat} {ρ:Env} (hl:ds.length=n) (h:R (ds.map Cell.sh++List.replicate m .un)=some ρ):fnX n m R ds=true:=by
 unfold fnX
 rw [h,decide_eq_true hl]
 rfl
theorem BZ {n:Int} {a b:Dat} {c:Bool} (h:bR [.int n,a,b]=some (.val (.bl c))):(d8 (tV (eF bR [(eV 0),(eV 1),(eV 2)]))) [.sh (.int n),.sh a,.sh b]=some (!c,[.sh (.int n),.sh a,.sh b]):=
 Wt.get (Wt.Not (Wt.V (We.F (Was.cons (We.v rfl (Was.cons (We.v rfl (Was.cons (We.v rfl (Was.nil (WF.val h (Wb.mk ⟨rfl,rfl⟩) rfl rfl)))))))))))
theorem nQ {n:Int} {a b:Dat} (h:bR [.int n,a,b]=some (.val (.bl false))):tF [.int n,a,b]=none:=kg (mC (BZ h) rfl)
theorem t_ {n:Int} {a b:Dat} (h:bR [.int n,a,b]=some (.val (.bl false))):bK [.int n,a,b]=true:=kh (ρ:=[.sh (.int n),.sh a,.sh b]) rfl (by
 show rIf _ _ _ [.sh (.int n),.sh a,.sh b]=_
 unfold rIf
 rw [BZ h]
 rfl)
theorem Gd {d:Dat} {c:Bool} (h:bJ [d]=some (.val (.bl c))):(d8 (tV (eF bJ [(eV 0)]))) [.sh d]=some (!c,[.sh d]):=
 Wt.get (Wt.Not (Wt.V (We.F (Was.cons (We.v rfl (Was.nil (WF.val h (Wb.mk ⟨rfl,rfl⟩) rfl rfl)))))))
theorem iu {d:Dat} (h:bJ [d]=some (.val (.bl false))):j5 [d]=none:=kg (mC (Gd h) rfl)
theorem vU {d:Dat} (h:bJ [d]=some (.val (.bl false))):bS [d]=true:=kh (ρ:=[.sh d]) rfl (by
 show rIf _ _ _ [.sh d]=_
 unfold rIf
 rw [Gd h]
 rfl)
theorem ki {n:Int} {r a b m t:Dat} (h:bR [.int n,a,b]=some (.val (.bl false))):lP [.int n,r,a,b,m,t]=none:=kg (t9 (k7 (iR rfl rfl (nQ h))))
theorem qp {n:Int} {r a b m t:Dat} (h:bR [.int n,a,b]=some (.val (.bl false))):aU [.int n,r,a,b,m,t]=true:=kh rfl (dS rfl rfl (t_ h))
theorem vV {d a b t:Dat} (h:bJ [d]=some (.val (.bl false))):ig [d,a,b,t]=none:=kg (t9 (k7 (iR rfl rfl (iu h))))
theorem E3 {d a b t:Dat} (h:bJ [d]=some (.val (.bl false))):cU [d,a,b,t]=true:=kh rfl (dS rfl rfl (vU h))
theorem B0 {d a b t:Dat} (h:bJ [d]=some (.val (.bl false))):bg [d,a,b,t]=false:=by
 have:s_ (sE (eF j5 [(eV 0)])) (cz aU [(e2 gIx (eV 0) (eC (.int 0))),(e2 gIx (eV 0) (eC (.int 2))),(eV 1),(eV 2),(e2 gIx (eV 0) (eC (.int 1))),(eV 3)]) [.sh d,.sh a,.sh b,.sh t]=none:=by
  unfold s_
  rw [k7 (iR (ds:=[d]) rfl rfl (iu h))]
 unfold bg fnX
 show (_&&(s_ _ _ [.sh d,.sh a,.sh b,.sh t]).isSome)=false
 rw [this]
 rfl
section
variable (n k:Nat) (n1:1≤n) (n10:n≤10) (k1:1≤k) (k6:k≤6) (N:List Tie) (hN:Net n k N)
include n1 n10 k1 k6 hN
theorem nR {a b t:Dat}:sE (eF j5 [(eV 0)]) [.sh (b_ n k N),.sh a,.sh b,.sh t]=some (.nx [.sh (b_ n k N),.sh a,.sh b,.sh t]):=by
 have e:eF j5 [(eV 0)] [.sh (b_ n k N),.sh a,.sh b,.sh t]=some (.val .non,[.sh (b_ n k N),.sh a,.sh b,.sh t]):=We.get (We.F (Was.cons (We.v rfl (Was.nil (WF.val (lW n k n1 n10 k1 k6 N hN) ⟨rfl,rfl⟩ rfl rfl)))))
 unfold sE
 rw [e]
theorem vW {a b t:Dat} (h:bR [.int n,a,b]=some (.val (.bl false))):ig [b_ n k N,a,b,t]=none:=kg (by
 show aD _ _ [.sh (b_ n k N),.sh a,.sh b,.sh t]=none
 unfold aD
 rw [nR n k n1 n10 k1 k6 N hN]
 show sR _ [.sh (b_ n k N),.sh a,.sh b,.sh t]=none
 unfold sR
 rw [iR (ds:=[.int n,aV N,a,b,.int k,t]) rfl rfl (ki h)])
theorem E4 {a b t:Dat} (h:bR [.int n,a,b]=some (.val (.bl false))):bg [b_ n k N,a,b,t]=true:=kh (ρ:=[.sh (b_ n k N),.sh a,.sh b,.sh t]) rfl (by
 show s_ _ _ [.sh (b_ n k N),.sh a,.sh b,.sh t]=_
 unfold s_
 rw [nR n k n1 n10 k1 k6 N hN]
 exact dS (ds:=[.int n,aV N,a,b,.int k,t]) rfl rfl (qp h))
end
noncomputable abbrev ans (p q:Bool):Dat:=.lst [.bl p,.bl q,.bl true,.bl false]
theorem rE {cs:List Nat} {bs:List Bool} {C:Nat} {b:Bool} {o:Option Dat} {K:RV→Prop} (k:K (.val (.bl b))) (ho:o=some (.exc C)) (h:pM cs bs C=some b):Wg1 (cL cs bs) o K:=⟨_,_,ho,by show (pM cs bs C).bind vB=_;rw [h];rfl,k⟩
section
variable (xP xN:Nat) (hne:xN≠xP)
include hne
theorem handler (C:Nat) (p q:Bool) (hC:(C=xP∧p=true∧q=false)∨(C=xN∧p=false∧q=true)) (c0 c1 c2 c3 c4 c5 c7:Cell) {N:Env→Prop} {R:RV→Env→Prop} {B D:Env→Prop} (k:∀ ρ,R (.new (ans p q)) ρ) :
  Ws (aD (sA 7 (e1 (cL [xP,xN] [false,false]) (eV 6))) (sR (bF [(e1 (cL [xP,xN] [true,false]) (eV 6)),(e1 (cL [xP,xN] [false,true]) (eV 6)),(e1 (cL [xP,xN] [true,true]) (eV 6)),(eV 7)]))) [c0,c1,c2,c3,c4,c5,.sh (.exc C),c7] N R B D:=by
 have is1:∀ a b:Bool,pM [xP,xN] [a,b] C=some (if p then a else b):=fun a b=>by
  rcases hC with ⟨rfl,rfl,rfl⟩ | ⟨rfl,rfl,rfl⟩
  ·unfold pM;rw [if_pos rfl];rfl
  ·unfold pM;rw [if_neg hne];unfold pM;rw [if_pos rfl];rfl
 have ep:(if p then true else false)=p:=by cases p<;>rfl
 have eq':(if p then false else true)=q:=by rcases hC with ⟨_,rfl,rfl⟩ | ⟨_,rfl,rfl⟩<;>rfl
 have et:(if p then true else true)=true:=by cases p<;>rfl
 have ef:(if p then false else false)=false:=by cases p<;>rfl
 refine Ws.seq (Ws.A (We.e1 (We.v rfl (rE ?_ rfl (is1 _ _)))) (by decide))
 refine WA.val ?_ (by first | (dsimp only [List.set];first | done | rfl) | rfl)
 refine Ws.R (We.L (Was.cons (We.e1 (We.v rfl (rE ?_ rfl (is1 _ _))))))
 refine Was.cons (We.e1 (We.v rfl (rE ?_ rfl (is1 _ _))))
 refine Was.cons (We.e1 (We.v rfl (rE ?_ rfl (is1 _ _))))
 refine Was.cons (We.v rfl (Was.nil (WT.mk ?_ rfl rfl (by exact Nat.le_of_ble_eq_true rfl))))
 refine WR.new ?_
 rw [ep,eq',et,ef]
 exact k _
end
section
variable (xP xN:Nat) (hne:xN≠xP) (n k:Nat) (n1:1≤n) (n10:n≤10) (k1:1≤k) (k6:k≤6) (r N:List Tie) (hN:Net n k N)
include hne
theorem ua (w:Int) (c:List Cell):(tV (e2 gEq (eV 0) (eC (.int 0)))) (.sh (.int w)::c)=some (decide (w=0),.sh (.int w)::c):=Wt.get (Wt.V (We.e2 (We.v rfl (We.c (Wg2.eq (Wb.mk ⟨rfl,rfl⟩) rfl rfl)))))
include n1 n10 k1 k6 hN
theorem rF (w:Int) (a b:Dat) (h:bR [.int n,a,b]=some (.val (.bl false))):nF xP xN [.int w,.int n,aV r,b_ n k N,a,b]=some (.new (ans true false)):=by
 apply Wr.eq
 unfold nF
 (refine Dm.Wr.fn ?_ rfl rfl;dsimp only [List.map,List.replicate,List.cons_append,List.nil_append])
 refine Ws.seq ?_
 have q:sIf (tV (e2 gEq (eV 0) (eC (.int 0)))) (sE (eF (fun ds=>lP (ds++[.int 0])) [(eV 1),(eV 2),(eV 4),(eV 5),(eC (.int 2))])) (sE (eF (fun ds=>ig (ds++[.int 0])) [(eV 3),(eV 4),(eV 5)])) [.sh (.int w),.sh (.int n),.sh (aV r),.sh (b_ n k N),.sh a,.sh b,.un,.un]=none:=by
  refine mC (ua xP xN hne w _) ?_
  by_cases hw:w=0
  ·rw [decide_eq_true hw]
   exact k7 (iR (ds:=[.int n,aV r,a,b,.int 2]) rfl rfl (ki h))
  ·rw [decide_eq_false hw]
   exact k7 (iR (ds:=[b_ n k N,a,b]) rfl rfl (vW n k n1 n10 k1 k6 N hN h))
 refine Ji q ?_
 have R1:rIf (tV (e2 gEq (eV 0) (eC (.int 0)))) (cz (fun ds=>aU (ds++[.int 0])) [(eV 1),(eV 2),(eV 4),(eV 5),(eC (.int 2))]) (cz (fun ds=>bg (ds++[.int 0])) [(eV 3),(eV 4),(eV 5)]) [.sh (.int w),.sh (.int n),.sh (aV r),.sh (b_ n k N),.sh a,.sh b,.un,.un]=some [.sh (.int w),.sh (.int n),.sh (aV r),.sh (b_ n k N),.sh a,.sh b,.un,.un]:=by
  unfold rIf
  rw [ua xP xN hne]
  by_cases hw:w=0
  ·rw [decide_eq_true hw]
   exact dS (ds:=[.int n,aV r,a,b,.int 2]) rfl rfl (qp h)
  ·rw [decide_eq_false hw]
   exact dS (ds:=[b_ n k N,a,b]) rfl rfl (E4 n k n1 n10 k1 k6 N hN h)
 obtain ⟨o,e,z⟩:=BY (ie:=6) (C:=xP) (N:=fun _=>False) (R:=fun r _=>r=.new (ans true false)) (B:=fun _=>False) (D:=fun _=>False) R1 (by decide) (handler xP xN hne xP true false (.inl ⟨rfl,rfl,rfl⟩) _ _ _ _ _ _ _ (fun _=>rfl))
 refine ⟨o,by unfold sUn;rw [e],?_⟩
 cases o with
 | nx ρ=>exact z.elim
 | ret r ρ=>exact z
 | bk ρ=>exact z.elim
 | ct ρ=>exact z.elim
omit n1 n10 k1 k6 hN in
theorem uc (d a b:Dat) (h:bJ [d]=some (.val (.bl false))):nF xP xN [.int 1,.int n,aV r,d,a,b]=some (.new (ans false true)):=by
 apply Wr.eq
 unfold nF
 (refine Dm.Wr.fn ?_ rfl rfl;dsimp only [List.map,List.replicate,List.cons_append,List.nil_append])
 refine Ws.seq ?_
 have q:sIf (tV (e2 gEq (eV 0) (eC (.int 0)))) (sE (eF (fun ds=>lP (ds++[.int 0])) [(eV 1),(eV 2),(eV 4),(eV 5),(eC (.int 2))])) (sE (eF (fun ds=>ig (ds++[.int 0])) [(eV 3),(eV 4),(eV 5)])) [.sh (.int 1),.sh (.int n),.sh (aV r),.sh d,.sh a,.sh b,.un,.un]=none:=by
  refine mC (ua xP xN hne 1 _) ?_
  exact k7 (iR (ds:=[d,a,b]) rfl rfl (vV h))
 refine Ji q ?_
 have R1:rIf (tV (e2 gEq (eV 0) (eC (.int 0)))) (cz (fun ds=>aU (ds++[.int 0])) [(eV 1),(eV 2),(eV 4),(eV 5),(eC (.int 2))]) (cz (fun ds=>bg (ds++[.int 0])) [(eV 3),(eV 4),(eV 5)]) [.sh (.int 1),.sh (.int n),.sh (aV r),.sh d,.sh a,.sh b,.un,.un]=none:=by
  unfold rIf
  rw [ua xP xN hne]
  show cz _ _ [.sh (.int 1),.sh (.int n),.sh (aV r),.sh d,.sh a,.sh b,.un,.un]=none
  unfold cz
  show (if bg [d,a,b,.int 0]=true then _ else none)=none
  rw [B0 h]
  rfl
 refine Ji (BX R1) ?_
 have R2:rIf (tV (e2 gEq (eV 0) (eC (.int 0)))) rNo (cz (fun ds=>cU (ds++[.int 0])) [(eV 3),(eV 4),(eV 5)]) [.sh (.int 1),.sh (.int n),.sh (aV r),.sh d,.sh a,.sh b,.un,.un]=some [.sh (.int 1),.sh (.int n),.sh (aV r),.sh d,.sh a,.sh b,.un,.un]:=by
  unfold rIf
  rw [ua xP xN hne]
  exact dS (ds:=[d,a,b]) rfl rfl (E3 h)
 exact BY (ie:=6) R2 (by decide) (handler xP xN hne xN false true (.inr ⟨rfl,rfl,rfl⟩) _ _ _ _ _ _ _ (fun _=>rfl))
end
theorem Ma (w:List Step):eqD (msD w) (msD w)=true:=by
 unfold msD
 rw [eqD]
 have:∀ l:List Int,eO (l.map Dat.int) (l.map Dat.int)=true:=fun l=>by
  induction l with
  | nil=>rfl
  | cons x l ih=>rw [List.map_cons,eO,ih];simp [eqD]
 exact this _
theorem eq_self (c:Int) (ws:List (List Step)) (o:Option (List Int)):eqD (.tup [.int c,.lst (ws.map msD),cM o]) (.tup [.int c,.lst (ws.map msD),cM o])=true:=by
 have h1:eO (ws.map msD) (ws.map msD)=true:=by
  induction ws with
  | nil=>rfl
  | cons w ws ih=>rw [List.map_cons,eO,ih,Ma];rfl
 have h3:∀ l:List Int,eO (l.map Dat.int) (l.map Dat.int)=true:=fun l=>by
  induction l with
  | nil=>rfl
  | cons x l ih=>rw [List.map_cons,eO,ih];simp [eqD]
 have h2:eqD (cM o) (cM o)=true:=by
  cases o with
  | none=>rfl
  | some S=>unfold cM tupI;rw [eqD];exact h3 S
 rw [eqD,eO,eO,eO,eO,h2]
 rw [show eqD (.lst (ws.map msD)) (.lst (ws.map msD))=eO (ws.map msD) (ws.map msD) by rw [eqD],h1]
 simp [eqD]
theorem E5 (c:Int) (ws:List (List Step)) (o:Option (List Int)):okD 8 (.tup [.int c,.lst (ws.map msD),cM o])=true:=by
 have h0:∀ (m:Nat) (l:List Int),(l.map Dat.int).all (okD m)=true:=fun m l=>by
  rw [List.all_eq_true];intro d hd;obtain ⟨i,_,rfl⟩:=List.mem_map.mp hd;cases m<;>rfl
 have h1:(ws.map msD).all (okD 6)=true:=by
  rw [List.all_eq_true];intro d hd;obtain ⟨w,_,rfl⟩:=List.mem_map.mp hd
  exact h0 5 _
 have h2:okD 7 (cM o)=true:=by
  cases o with
  | none=>rfl
  | some S=>exact h0 6 S
 show ([.int c,.lst (ws.map msD),cM o].all (okD 7))=true
 rw [List.all_cons,List.all_cons,List.all_cons,h2]
 show (true&&((ws.map msD).all (okD 6)&&_))=true
 rw [h1];rfl
section
variable (xP xN:Nat) (hne:xN≠xP)
include hne
theorem E6 (ns:List Int) (at_:Int) (h0:0≤at_) (h1:at_<900) (n k:Nat) (n1:1≤n) (n10:n≤10) (k1:1≤k) (k6:k≤6) (r N:List Tie) (hN:Net n k N) (lN:N.length≤60) (c1 c7 c8 c9 c10 c11 c12:Cell) {Nx:Env→Prop} {R:RV→Env→Prop} {B C:Env→Prop}
  (nx:∀ c1 c7 c8 c9 c10 c11 c12,Nx [.sh (.lst (ns.map Dat.int)),c1,.sh (.int n),.sh (.int k),.sh (aV r),.sh (b_ n k N),.sh (.int at_),c7,c8,c9,c10,c11,c12]) :
  Ws (vN xP xN) [.sh (.lst (ns.map Dat.int)),c1,.sh (.int n),.sh (.int k),.sh (aV r),.sh (b_ n k N),.sh (.int at_),c7,c8,c9,c10,c11,c12] Nx R B C:=by
 obtain ⟨x,ep⟩:=rq ns at_ h0 (by omega)
 obtain ⟨a,b,x1,epr,npr⟩:=BU x n n1 n10
 obtain ⟨d,x2,ed,nd⟩:=zw x1 n k n1 n10 k1 k6 N lN
 unfold vN
 refine Ws.seq (Ws.A (We.F (Was.cons (We.v rfl (Was.cons (We.v rfl (Was.nil (WF.box ep ?_ rfl rfl rfl rfl))))))) (by decide))
 refine WA.new ?_ (by first | (dsimp only [List.set];first | done | rfl) | rfl)
 refine Ws.seq (Ws.U (We.Fm (Was.cons (We.v rfl (Was.nil (WFm.any epr ?_ rfl rfl (by first | (dsimp only [List.set];first | done | rfl) | rfl))))) rfl))
 refine Wk.val ⟨_,_,rfl,rfl,?_⟩
 refine Ws.seq (Ws.For (Wi.R1 (We.c (dJ.mk ⟨?_,by unfold BIG;omega⟩))))
 refine Ws.inv (fun i:Nat=>Dat.int (0+(i:Nat))) _ _ (List.range 2) _ _ _ _ _ (fun p q ρ=>∃ c9:Cell,ρ=[.sh (.lst (ns.map Dat.int)),.ow (aS x1),.sh (.int n),.sh (.int k),.sh (aV r),.sh (b_ n k N),.sh (.int at_),.sh a,.sh b,c9,c10,c11,c12]) ⟨_,rfl⟩ ?_ ?_
 ·rintro p i q ρ e ⟨c9,rfl⟩
  refine Dm.cE rfl (by first | (dsimp only [List.set];first | done | rfl) | rfl) ?_
  unfold By
  refine Ws.If (Wt.V (We.e2 (We.F (Was.cons (We.v rfl (Was.cons (We.v rfl (Was.cons (We.v rfl (Was.cons (We.v rfl (Was.cons (We.v rfl (Was.cons (We.v rfl (Was.nil (WF.box (rF xP xN hne n k n1 n10 k1 k6 r N hN _ a b npr) ?_ rfl rfl rfl rfl)))))))))))))))))
  refine We.L (Was.cons (We.c (Was.cons (We.c (Was.cons (We.c (Was.cons (We.c (Was.nil (WT.mk ?_ rfl rfl (by exact Nat.le_of_ble_eq_true rfl)))))))))))
  refine Wg2.BP (d:=ans true false) rfl (by simp [eqD,eO]) (Wb.mk (Wif.f (Ws.nx ⟨_,rfl⟩))) rfl rfl
 ·rintro ρ ⟨c9,rfl⟩
  refine Ws.seq (Ws.A (We.Fm (Was.cons (We.v rfl (Was.nil (WFm.any ed ?_ rfl rfl (by first | (dsimp only [List.set];first | done | rfl) | rfl))))) rfl) (by decide))
  refine WA.val ?_ (by first | (dsimp only [List.set];first | done | rfl) | rfl)
  refine Ws.For (Wi.S (We.L (Was.cons (We.T (Was.cons (We.v rfl (Was.cons (We.v rfl (Was.nil (WT.mk ?_ rfl rfl (by exact Nat.le_of_ble_eq_true rfl)))))))))))
  refine Was.cons (We.T (Was.cons (We.c (Was.cons (We.e2 (We.v rfl (We.c (Wg2.sub ?_ rfl rfl))))))))
  refine Was.nil (WT.mk ?_ rfl rfl (by exact Nat.le_of_ble_eq_true rfl))
  refine Was.nil (WT.mk ?_ rfl rfl (by exact Nat.le_of_ble_eq_true rfl))
  refine Wk.new ⟨_,rfl,?_⟩
  refine Ws.inv (fun p:Dat×Dat=>Dat.tup [p.1,p.2]) _ _ [(a,b),(.int 0,.int ((n:Int)-1))] _ _ _ _ _ (fun p q ρ=>∃ c11 c12:Cell,ρ=[.sh (.lst (ns.map Dat.int)),.ow (aS x2),.sh (.int n),.sh (.int k),.sh (aV r),.sh (b_ n k N),.sh (.int at_),.sh a,.sh b,c9,.sh d,c11,c12]) ⟨_,_,rfl⟩ ?_ ?_
  ·rintro p i q ρ e ⟨c11,c12,rfl⟩
   refine Dm.cE rfl (by first | (dsimp only [List.set];first | done | rfl) | rfl) ?_
   unfold BA
   refine Ws.If (Wt.V (We.e2 (We.F (Was.cons (We.c (Was.cons (We.v rfl (Was.cons (We.v rfl (Was.cons (We.v rfl (Was.cons (We.v rfl (Was.cons (We.v rfl (Was.nil (WF.box (uc xP xN hne n r d i.1 i.2 nd) ?_ rfl rfl rfl rfl)))))))))))))))))
   refine We.L (Was.cons (We.c (Was.cons (We.c (Was.cons (We.c (Was.cons (We.c (Was.nil (WT.mk ?_ rfl rfl (by exact Nat.le_of_ble_eq_true rfl)))))))))))
   refine Wg2.BP (d:=ans false true) rfl (by simp [eqD,eO]) (Wb.mk (Wif.f (Ws.nx ⟨_,_,rfl⟩))) rfl rfl
  ·rintro ρ ⟨c11,c12,rfl⟩
   exact nx _ _ _ _ _ _ _
theorem math (ns:List Int) (h:ns.length≤63):nG xP xN [.lst (ns.map Dat.int)]=some (.val (.bl true)):=by
 apply Wr.eq
 unfold nG
 (refine Dm.Wr.fn ?_ rfl rfl;dsimp only [List.map,List.replicate,List.cons_append,List.nil_append])
 obtain ⟨x,ep⟩:=rq ns 12 (by decide) (by decide)
 obtain ⟨y,ey⟩:=rq ns 13 (by decide) (by decide)
 obtain ⟨n,x1,en,n1,n10⟩:=ER x
 obtain ⟨n,rfl⟩:∃ m:Nat,n=m:=⟨n.toNat,by omega⟩
 obtain ⟨r,y',er,gr,lr,mr⟩:=zj y n 10 (by omega) (by omega) (by decide) (by decide)
 have hr:Rcd n r:=Rcd.of gr (by omega) mr
 refine Ws.seq (Ws.A (We.F (Was.cons (We.v rfl (Was.cons (We.c (Was.nil (WF.box ep ?_ rfl rfl rfl rfl))))))) (by decide))
 refine WA.new ?_ (by first | (dsimp only [List.set];first | done | rfl) | rfl)
 refine Ws.seq (Ws.A (We.Fm (Was.nil (WFm.any en ?_ rfl rfl (by first | (dsimp only [List.set];first | done | rfl) | rfl))) rfl) (by decide))
 refine WA.val ?_ (by first | (dsimp only [List.set];first | done | rfl) | rfl)
 refine Ws.cut (fun ρ=>∃ (k:Nat) (x2:Int),(1≤k∧k≤6)∧ρ=[.sh (.lst (ns.map Dat.int)),.ow (aS x2),.sh (.int (n:Nat)),.sh (.int (k:Nat)),.un,.un,.un,.un,.un,.un,.un,.un,.un]) ?_ ?_
 ·refine Ws.A (We.e2 (We.c ?_)) (by decide)
  refine We.drw (m:=6) rfl (by decide) (by decide) rfl fun t x2 t0 t1 ρ3 e=>?_
  subst e
  refine Wg2.add (WA.val ⟨(1+t).toNat,x2,by omega,?_⟩ rfl) rfl rfl
  rw [Int.toNat_of_nonneg (by omega)]
  rfl
 rintro ρ ⟨k,x2,⟨k1,k6⟩,rfl⟩
 refine Ws.seq (Ws.A (We.Fn (Was.cons (We.F (Was.cons (We.v rfl (Was.cons (We.c (Was.nil (WF.box ey ?_ rfl rfl rfl rfl))))))))) (by decide))
 refine Was.cons (We.v rfl (Was.cons (We.c (Was.nil ⟨_,_,_,_,_,rfl,rfl,er,?_⟩))))
 refine WA.new ?_ (by first | (dsimp only [List.set];first | done | rfl) | rfl)
 obtain ⟨ms,_,al⟩:=fq n k (by omega) k1 k6 r hr.ends (by omega)
 have NP:=Jf n k (by omega) k1 k6 r ms hr.ends (by omega) al
 have sK:=nN r ms
 have lK:=sK.length_le
 have net:Net n k (keep r ms):=⟨hr.sub sK,_,tZ al,fun z=>by simpa using (List.mem_filter.mp z).2⟩
 generalize keep r ms=K at *
 refine Ws.seq (Ws.A (We.F (Was.cons (We.v rfl (Was.cons (We.w rfl (Was.cons (We.v rfl (Was.nil (WF.box NP ?_ rfl rfl rfl (by first | (dsimp only [List.set];first | done | rfl) | rfl)))))))))) (by decide))
 refine WA.val ?_ (by first | (dsimp only [List.set];first | done | rfl) | rfl)
 refine Ws.seq (Ws.For (Wi.R1 (We.B (Was.cons (We.c (Was.cons (We.B (Was.cons (We.B (Was.cons (We.v rfl (Was.nil (WB.IY (enc:=Dat.int) (xs:=ns) ?_ rfl))))))))))))) 
 refine Was.cons (We.c (Was.nil (WB.min2 ?_ rfl)))
 refine Was.nil (WB.max2 ?_ rfl)
 generalize hT:(if (if (12:Int)<(ns.length:Int) then (12:Int) else (ns.length:Int))>1 then (if (12:Int)<(ns.length:Int) then (12:Int) else (ns.length:Int)) else 1)=top
 have hb:top≤12∧1≤top:=by
  rw [← hT]
  constructor
  ·split<;>split<;>omega
  ·split<;>omega
 refine dJ.mk ⟨?_,by unfold BIG;omega⟩
 refine Ws.inv (fun i:Nat=>Dat.int (0+(i:Nat))) _ _ (List.range top.toNat) _ _ _ _ _ (fun p q ρ=>∃ c1 c6 c7 c8 c9 c10 c11 c12:Cell,ρ=[.sh (.lst (ns.map Dat.int)),c1,.sh (.int n),.sh (.int k),.sh (aV r),.sh (b_ n k K),c6,c7,c8,c9,c10,c11,c12]) ⟨_,_,_,_,_,_,_,_,rfl⟩ ?_ ?_
 ·rintro p i q ρ e ⟨c1,c6,c7,c8,c9,c10,c11,c12,rfl⟩
  have hi:i<top.toNat:=List.mem_range.mp (by rw [e];simp)
  refine Dm.cE rfl (by first | (dsimp only [List.set];first | done | rfl) | rfl) ?_
  exact E6 xP xN hne ns _ (by omega) (by omega) n k (by omega) (by omega) k1 k6 r K net (by omega) _ _ _ _ _ _ _ fun _ _ _ _ _ _ _=>⟨_,_,_,_,_,_,_,_,rfl⟩
 ·rintro ρ ⟨c1,c6,c7,c8,c9,c10,c11,c12,rfl⟩
  refine Ws.R (We.Or (We.e2 (We.v rfl (We.c (Wg2.eq (Wb.mk (Wif.dec (fun hn=>?_) fun hn=>?_)) rfl rfl)))))
  ·exact rfl
  ·obtain ⟨ws,o,eh⟩:=E1 n k (by omega) (by omega) k1 k6 K net 0 ((n:Int)-1) (by decide) (by omega) (by omega) (by omega) (by omega) 0
   have e1:fR (.int n) (.int 1)=some (.val (.int ((n:Int)-1))):=rfl
   refine We.e2 (We.F (Was.cons (We.v rfl (Was.cons (We.c (Was.cons (We.e2 (We.v rfl (We.c (Wg2.sub ?_ rfl rfl))))))))))
   refine Was.nil (WF.box (ds:=[b_ n k K,.int 0,.int ((n:Int)-1)]) eh ?_ rfl rfl rfl rfl)
   refine We.F (Was.cons (We.v rfl (Was.cons (We.c (Was.cons (We.e2 (We.v rfl (We.c (Wg2.sub ?_ rfl rfl)))))))))
   refine Was.cons (We.c (Was.nil (WF.box eh ?_ rfl rfl rfl rfl)))
   exact Wg2.Je (E5 _ ws o) (eq_self _ ws o) rfl rfl rfl
end
end P
set_option maxHeartbeats 4000000
namespace Q
open PySem L2 Br Dm P
noncomputable def top (i:Nat):Stmt:=PySem.Challenge.pw_sinceply_k27_hangs_refused.main.body.getD i (.Pass ⟨0,0,0,0⟩)
structure Txt (mg:Str→Option Value) (K:PySem.W.Frag) (base:Heap) (vX vY vZ v5 v7 v8 v9 v_ wc we nS nT nU nV nW nX nY nZ lX n5 n6 n8 n9 n_ oj lY oq iw gC ou oz oA oB oE oF oG oH oJ aZ aF az a_ bI br:Addr) (oK oM oN oO oQ oR oS oU oV oW iU iV iW iX iY iZ i0 i6 gD i7 i8 i9 i_ ja jb gE jc jd gF je jf jh ji jj jl jm jn k8:FuncData) (jo jq:Tok):Prop where
 fB:mg "NoLayers" = some (.ref aZ)
 mD:mg "NoNet" = some (.ref aF)
 kj:mg "NoPair" = some (.ref az)
 fC:mg "NoPlaces" = some (.ref a_)
 ko:mg "NoTies" = some (.ref bI)
 oX:mg "PlyError" = some (.ref br)
 wg:PyProof.Rows.OwnCls "NoPair" az bmV "ValueError.__new__" mg base
 bW:nt K az
 zx:PyProof.Rows.OwnCls "NoNet" aF bmV "ValueError.__new__" mg base
 cB:nt K aF
 dG:PySem.W.kitOne K (.ref aF) (.type "ValueError")=some true
 di:PySem.W.kitOne K (.ref az) (.type "ValueError")=some true
 kq:PySem.W.mq K aF br
 jr:PySem.W.mq K az br
 gG:PySem.W.kitOne K (.ref aF) (.ref aF)=some true
 fP:PySem.W.kitOne K (.ref aF) (.ref az)=some false
 fQ:PySem.W.kitOne K (.ref az) (.ref aF)=some false
 eY:PySem.W.kitOne K (.ref az) (.ref az)=some true
 bA:PySem.W.kitAny K (.ref aF) (([aZ,a_,bI]:List Addr).map Value.ref)=some false
 bz:PySem.W.kitAny K (.ref az) (([aZ,a_,bI]:List Addr).map Value.ref)=some false
 dN:mg "ValueError" = none
 Ge:mg "all" = none
 Jj:mg "bool" = none
 Jk:mg "dict" = none
 ud:mg "enumerate" = none
 Gf:mg "int" = none
 aB:mg "isinstance" = none
 kr:mg "len" = none
 rG:mg "list" = none
 Gg:mg "max" = none
 B3:mg "min" = none
 dO:mg "range" = none
 oY:mg "reversed" = none
 B4:mg "sorted" = none
 mE:mg "tuple" = none
 Mb:mg "zip" = none
 oZ:∃ t,mg "MOST_TIES" = some (.int 60 t)
 NQ:mg "steps_of" = some (.ref vX)
 NR:mg "free_steps" = some (.ref vY)
 NT:mg "led_steps" = some (.ref vZ)
 Mc:mg "shortest_ways" = some (.ref v5)
 NU:mg "lead_along" = some (.ref v7)
 NV:mg "parted" = some (.ref v8)
 NW:mg "ways_apart" = some (.ref v9)
 NX:mg "is_whole" = some (.ref v_)
 E7:mg "is_within" = some (.ref wc)
 NY:mg "is_places" = some (.ref we)
 xW:mg "is_place" = some (.ref nS)
 Gh:mg "is_layers" = some (.ref nT)
 Me:mg "is_moment" = some (.ref nU)
 Mf:mg "is_tie_either_way" = some (.ref nV)
 Mg:mg "is_tie" = some (.ref nW)
 Mh:mg "is_rising" = some (.ref nX)
 Gi:mg "is_pair" = some (.ref nY)
 Mi:mg "look_at_layers" = some (.ref nZ)
 Gj:mg "look_at_pair" = some (.ref lX)
 Mj:mg "merged" = some (.ref n5)
 Mk:mg "least_layer" = some (.ref n6)
 Gk:mg "layered" = some (.ref n8)
 Ml:mg "is_record" = some (.ref n9)
 Mm:mg "since" = some (.ref n_)
 Gm:mg "is_net" = some (.ref oj)
 B5:mg "look_at_net" = some (.ref lY)
 Mn:mg "net_of" = some (.ref oq)
 xX:mg "hang_of" = some (.ref iw)
 ue:mg "hang" = some (.ref gC)
 B6:mg "_law_pool" = some (.ref ou)
 dZ:mg "_law_take" = some (.ref oz)
 Mp:mg "_law_many" = some (.ref oA)
 Mq:mg "_law_record" = some (.ref oB)
 Mr:mg "_law_odd" = some (.ref oE)
 Ms:mg "_law_no_net" = some (.ref oF)
 Gn:mg "_law_refused" = some (.ref oG)
 Mt:mg "_law_pair" = some (.ref oH)
 N4:mg "law" = some (.ref oJ)
 Mu:Fun K "steps_of" "steps_of" (top 2) vX oK
 Mv:Fun K "free_steps" "free_steps" (top 3) vY oM
 Mw:Fun K "led_steps" "led_steps" (top 4) vZ oN
 Jl:Fun K "shortest_ways" "shortest_ways" (top 5) v5 oO
 Mx:Fun K "lead_along" "lead_along" (top 6) v7 oQ
 Jm:Binds K oN ["steps","heads"] []
 E8:Binds K oO ["steps","a"] []
 My:Fun K "parted" "parted" (top 7) v8 oR
 Jo:Binds K oK ["n","ties"] []
 Jp:Binds K oM ["steps","heads"] []
 Jq:Binds K oQ ["heads","way"] []
 Jr:Binds K oR ["steps","heads","a","b","count"] []
 Mz:Fun K "ways_apart" "ways_apart" (top 1) v9 oS
 MA:Fun K "is_whole" "is_whole" (top 16) v_ oU
 Js:Binds K oU ["thing"] []
 B7:Fun K "is_within" "is_within" (top 17) wc oV
 zy:Binds K oV ["thing","low","high"] []
 MB:Fun K "is_places" "is_places" (top 18) we oW
 uf:Fun K "is_place" "is_place" (top 19) nS iU
 B8:Fun K "is_layers" "is_layers" (top 20) nT iV
 Gp:Fun K "is_moment" "is_moment" (top 21) nU iW
 qq:Binds K iU ["n","thing"] []
 B9:Binds K iW ["thing"] []
 Gq:Fun K "is_tie_either_way" "is_tie_either_way" (top 22) nV iX
 B_:Binds K iX ["n","thing"] []
 Gr:Fun K "is_tie" "is_tie" (top 23) nW iY
 Gs:Fun K "is_rising" "is_rising" (top 24) nX iZ
 Ca:Fun K "is_pair" "is_pair" (top 25) nY i0
 xY:Binds K iV ["thing"] []
 Gu:Fun K "look_at_layers" "look_at_layers" (top 26) nZ i6
 xZ:Binds K i0 ["n","a","b"] []
 x6:Fun K "look_at_pair" "look_at_pair" (top 27) lX gD
 Gv:Fun K "merged" "merged" (top 29) n5 i7
 Gw:Fun K "least_layer" "least_layer" (top 32) n6 i8
 Cb:Binds K i6 ["k"] []
 Cc:Binds K i7 ["groups","a","b"] []
 Cd:Binds K i8 ["layers","a","b"] []
 Ce:Fun K "layered" "layered" (top 31) n8 i9
 Jt:Binds K oW ["thing"] []
 Cf:Binds K iY ["n","thing"] []
 Cg:Binds K iZ ["things"] []
 Gx:Fun K "is_record" "is_record" (top 35) n9 i_
 Gy:Fun K "since" "since" (top 36) n_ ja
 x8:Binds K i9 ["n","record","k"] []
 Ci:Binds K i_ ["n","thing"] []
 Cj:Fun K "is_net" "is_net" (top 38) oj jb
 x9:Binds K jb ["thing"] []
 ug:Fun K "look_at_net" "look_at_net" (top 39) lY gE
 Gz:Fun K "net_of" "net_of" (top 40) oq jc
 Ju:Binds K oS ["n","ties","a","b","most"] []
 x_:Binds K gD ["n","a","b"] []
 Ck:Binds K ja ["record","t"] []
 lZ:yX K "hang_of" "hang_of" (top 42) iw jd
 uh:Binds K gE ["thing"] []
 ya:Binds K jd ["n","record","a","b","most","t"] []
 rH:Binds K jd ["n","record","a","b","most","t"] [.int 0 jo]
 iy:yX K "hang" "hang" (top 43) gC gF
 yb:Fun K "_law_pool" "_law_pool" (top 45) ou je
 dH:Fun K "_law_take" "_law_take" (top 46) oz jf
 dj:Binds K jf ["pool","many"] []
 GA:Fun K "_law_many" "_law_many" (top 47) oA jh
 GB:Fun K "_law_record" "_law_record" (top 48) oB ji
 GC:Fun K "_law_odd" "_law_odd" (top 51) oE jj
 GD:Fun K "_law_no_net" "_law_no_net" (top 52) oF jl
 Cm:Binds K gF ["net","a","b","t"] []
 k9:Binds K gF ["net","a","b","t"] [.int 0 jq]
 Cn:Fun K "_law_refused" "_law_refused" (top 53) oG jm
 Co:Binds K jj ["pool"] []
 GF:Fun K "_law_pair" "_law_pair" (top 54) oH jn
 Cp:Binds K jc ["n","record","k"] []
 um:Binds K je ["script","k"] []
 Cq:Binds K jh ["pool"] []
 Cr:Binds K ji ["pool","n","most"] []
 Cs:Binds K jl ["pool","net"] []
 yc:Binds K jm ["way","n","record","net","a","b"] []
 Ct:Binds K jn ["pool","n"] []
 MC:Fun K "law" "law" (top 55) oJ k8
section
variable {P':Program} {w:World} {K:PySem.W.Frag} {mg:Str→Option Value} {base:Heap} {vX vY vZ v5 v7 v8 v9 v_ wc we nS nT nU nV nW nX nY nZ lX n5 n6 n8 n9 n_ oj lY oq iw gC ou oz oA oB oE oF oG oH oJ aZ aF az a_ bI br:Addr}
variable {oK oM oN oO oQ oR oS oU oV oW iU iV iW iX iY iZ i0 i6 gD i7 i8 i9 i_ ja jb gE jc jd gF je jf jh ji jj jl jm jn k8:FuncData} {jo jq:Tok}
theorem uo:ay ["n","ties","steps","moment","a","b"] ["n","ties"] (ah (top 2)):=fsc rfl rfl rfl rfl (by decide +kernel)
theorem Jv:(["n","ties","steps","moment","a","b","place"]:List Str).Nodup:=by decide +kernel
theorem MD:ay ["steps","heads"] ["steps","heads"] (ah (top 3)):=fsc rfl rfl rfl rfl (by decide +kernel)
theorem Jw:(["steps","heads","row"]:List Str).Nodup:=by decide +kernel
theorem Jx:(["steps","heads","row","step"]:List Str).Nodup:=by decide +kernel
theorem ME:ay ["steps","heads"] ["steps","heads"] (ah (top 4)):=fsc rfl rfl rfl rfl (by decide +kernel)
theorem Jy:(["steps","heads","row"]:List Str).Nodup:=by decide +kernel
theorem Jz:(["steps","heads","row","step"]:List Str).Nodup:=by decide +kernel
theorem uq:ay ["steps","a","ways","pending","place","step"] ["steps","a"] (ah (top 5)):=fsc rfl rfl rfl rfl (by decide +kernel)
theorem Cu:ay ["heads","way","moment","place"] ["heads","way"] (ah (top 6)):=fsc rfl rfl rfl rfl (by decide +kernel)
theorem qt:ay ["steps","heads","a","b","count","left","ways","time","way","moment"] ["steps","heads","a","b","count"] (ah (top 7)):=fsc rfl rfl rfl rfl (by decide +kernel)
theorem JA:(["steps","heads","a","b","count","left","ways","time","way","moment","step"]:List Str).Nodup:=by decide +kernel
theorem l0:ay ["n","ties","a","b","most","steps","heads","side","count","found"] ["n","ties","a","b","most"] (ah (top 1)):=fsc rfl rfl rfl rfl (by decide +kernel)
theorem MF:ay ["thing"] ["thing"] (ah (top 16)):=fsc rfl rfl rfl rfl (by decide +kernel)
theorem MG:ay ["thing","low","high"] ["thing","low","high"] (ah (top 17)):=fsc rfl rfl rfl rfl (by decide +kernel)
theorem MH:ay ["thing"] ["thing"] (ah (top 18)):=fsc rfl rfl rfl rfl (by decide +kernel)
theorem JB:ay ["n","thing"] ["n","thing"] (ah (top 19)):=fsc rfl rfl rfl rfl (by decide +kernel)
theorem JC:ay ["thing"] ["thing"] (ah (top 20)):=fsc rfl rfl rfl rfl (by decide +kernel)
theorem JD:ay ["thing"] ["thing"] (ah (top 21)):=fsc rfl rfl rfl rfl (by decide +kernel)
theorem JE:ay ["n","thing"] ["n","thing"] (ah (top 22)):=fsc rfl rfl rfl rfl (by decide +kernel)
theorem JF:ay ["n","thing"] ["n","thing"] (ah (top 23)):=fsc rfl rfl rfl rfl (by decide +kernel)
theorem JG:ay ["things"] ["things"] (ah (top 24)):=fsc rfl rfl rfl rfl (by decide +kernel)
theorem E9:(["things","at"]:List Str).Nodup:=by decide +kernel
theorem JH:ay ["n","a","b"] ["n","a","b"] (ah (top 25)):=fsc rfl rfl rfl rfl (by decide +kernel)
theorem JI:ay ["k"] ["k"] (ah (top 26)):=fsc rfl rfl rfl rfl (by decide +kernel)
theorem Cv:ay ["n","a","b"] ["n","a","b"] (ah (top 27)):=fsc rfl rfl rfl rfl (by decide +kernel)
theorem JJ:ay ["groups","a","b"] ["groups","a","b"] (ah (top 29)):=fsc rfl rfl rfl rfl (by decide +kernel)
theorem E_:(["groups","a","b","group"]:List Str).Nodup:=by decide +kernel
theorem wj:ay ["layers","a","b","at","groups"] ["layers","a","b"] (ah (top 32)):=fsc rfl rfl rfl rfl (by decide +kernel)
theorem jt:ay ["n","record","k","layers","numbers","moment","a","b","number"] ["n","record","k"] (ah (top 31)):=fsc rfl rfl rfl rfl (by decide +kernel)
theorem Fb:(["n","record","k","layers","numbers","moment","a","b","number","layer"]:List Str).Nodup:=by decide +kernel
theorem JK:ay ["n","thing"] ["n","thing"] (ah (top 35)):=fsc rfl rfl rfl rfl (by decide +kernel)
theorem Fc:(["n","thing","tie"]:List Str).Nodup:=by decide +kernel
theorem Fe:(["n","thing","tie"]:List Str).Nodup:=by decide +kernel
theorem JL:ay ["record","t"] ["record","t"] (ah (top 36)):=fsc rfl rfl rfl rfl (by decide +kernel)
theorem Ff:(["record","t","tie"]:List Str).Nodup:=by decide +kernel
theorem JM:ay ["thing"] ["thing"] (ah (top 38)):=fsc rfl rfl rfl rfl (by decide +kernel)
theorem Cw:ay ["thing"] ["thing"] (ah (top 39)):=fsc rfl rfl rfl rfl (by decide +kernel)
theorem Cy:ay ["n","record","k","numbers"] ["n","record","k"] (ah (top 40)):=fsc rfl rfl rfl rfl (by decide +kernel)
theorem yd:(["n","record","k","numbers","tie","number"]:List Str).Nodup:=by decide +kernel
theorem wk:ay ["n","record","a","b","most","t","found"] ["n","record","a","b","most","t"] (ah (top 42)):=fsc rfl rfl rfl rfl (by decide +kernel)
theorem wo:ay ["net","a","b","t"] ["net","a","b","t"] (ah (top 43)):=fsc rfl rfl rfl rfl (by decide +kernel)
theorem fD:ay ["script","k","cell","number","found","turn"] ["script","k"] (ah (top 45)):=fsc rfl rfl rfl rfl (by decide +kernel)
theorem Cz:ay ["pool","many","digit"] ["pool","many"] (ah (top 46)):=fsc rfl rfl rfl rfl (by decide +kernel)
theorem JN:ay ["pool"] ["pool"] (ah (top 47)):=fsc rfl rfl rfl rfl (by decide +kernel)
theorem cG:ay ["pool","n","most","many","kind","step","times","way","moment","found","k","one","other"] ["pool","n","most"] (ah (top 48)):=fsc rfl rfl rfl rfl (by decide +kernel)
theorem CA:ay ["pool","some"] ["pool"] (ah (top 51)):=fsc rfl rfl rfl rfl (by decide +kernel)
theorem ju:ay ["pool","net","n","k","ties","some"] ["pool","net"] (ah (top 52)):=fsc rfl rfl rfl rfl (by decide +kernel)
theorem o6:ay ["way","n","record","net","a","b","e","others"] ["way","n","record","net","a","b"] (ah (top 53)):=fsc rfl rfl rfl rfl (by decide +kernel)
theorem wu:ay ["pool","n","odd","place"] ["pool","n"] (ah (top 54)):=fsc rfl rfl rfl rfl (by decide +kernel)
theorem cH:ay ["script","pool","n","k","record","net","at","a","b","way","bad","one","other"] ["script"] (ah (top 55)):=fsc rfl rfl rfl rfl (by decide +kernel)
variable (T:Txt mg K base vX vY vZ v5 v7 v8 v9 v_ wc we nS nT nU nV nW nX nY nZ lX n5 n6 n8 n9 n_ oj lY oq iw gC ou oz oA oB oE oF oG oH oJ aZ aF az a_ bI br oK oM oN oO oQ oR oS oU oV oW iU iV iW iX iY iZ i0 i6 gD i7 i8 i9 i_ ja jb gE jc jd gF je jf jh ji jj jl jm jn k8 jo jq)
include T
theorem MI :
  aR P' w K mg base CX0 1 vX oK ["n","ties"] (spD EE):=by
 refine T.Mu.ok uo (fun vs H Q E h=>aO h) (fun cdv A outer s H vs Q E hr h=>?_)
 exact ⟨_,(IF 2 ["n","ties","steps","moment","a","b"] ["place"] uo.nd (c_n 6 Jv rfl rfl) (vn rfl T.dO (aa (d_v 0) af)) (LO PassesOwn.never rfl (i_S (d_v 1)) (g_t rfl (bu 3 uo.nd (bu 4 uo.nd (bu 5 uo.nd gh))))
  (F0 (Nv (vj hr (d_v 4) (d_v 5)) (IE (F1 (d_v 4) (aY (aa (d_v 3) (aa (d_v 5) af))))
  (F0 (F1 (d_v 5) (aY (aa (d_v 3) (aa (d_v 4) af)))))) LN)))
  (av (s_r (d_v 2)))),cj (n:=2) (m:=4) rfl h⟩
theorem MJ :
  aR P' w K mg base CX0 1 vY oM ["steps","heads"] (spD Bo):=by
 refine T.Mv.ok MD (fun vs H Q E h=>aO h) (fun cdv A outer s H vs Q E hr h=>?_)
 exact ⟨_,(av (s_r (lA 0 ["steps","heads"] ["row"] (c_n 2 Jw rfl rfl) (d_v 0) (fun _ _ _ _ _=>gk) (fun _ _ _ _ _=>(lA 2 ["steps","heads","row"] ["step"] (c_n 3 Jx rfl rfl) (d_v 2) (fun _ _ _ _ _=>qM (vj hr (AW hr (d_v 1) (bx (d_v 3) d_i)) (bx (d_v 3) d_i))) (fun _ _ _ _ _=>(d_v 3))))))),cj (n:=2) (m:=0) rfl h⟩
theorem MK :
  aR P' w K mg base CX0 1 vZ oN ["steps","heads"] (spD Bp):=by
 refine T.Mw.ok ME (fun vs H Q E h=>aO h) (fun cdv A outer s H vs Q E hr h=>?_)
 exact ⟨_,(av (s_r (lA 0 ["steps","heads"] ["row"] (c_n 2 Jy rfl rfl) (d_v 0) (fun _ _ _ _ _=>gk) (fun _ _ _ _ _=>(lA 2 ["steps","heads","row"] ["step"] (c_n 3 Jz rfl rfl) (d_v 2) (fun _ _ _ _ _=>qM (vh hr (AW hr (d_v 1) (bx (d_v 3) d_i)) (bx (d_v 3) d_i))) (fun _ _ _ _ _=>(d_v 3))))))),cj (n:=2) (m:=0) rfl h⟩
theorem GG :
  aR P' w K mg base CX0 1 v5 oO ["steps","a"] (spD tE):=by
 refine T.Jl.ok uq (fun vs H Q E h=>aO h) (fun cdv A outer s H vs Q E hr h=>?_)
 exact ⟨_,(ai (s_a 2 uq.nd (Nr (d_v 1) (bf af)))
  (ai (s_a 3 uq.nd (bf (aa (d_v 1) af)))
  (ai (Li 100 PassesOwn.never (Nu (d_v 3))
  (ai (s_a 4 uq.nd (Ef 3 d_i))
  (av (gj PassesOwn.never rfl (i_S (bx (d_v 0) (d_v 4))) (g_n 5 uq.nd)
  (av (eU (Iu hr (bx (d_v 5) d_i) (d_v 2)) (ai (AX 2 hr (bx (d_v 5) d_i) (cy (Ir hr (d_v 2) (d_v 4)) (bf (aa (d_v 5) af))))
  (av (xo 3 (bx (d_v 5) d_i)))) dc))))))
  (av (s_r (d_v 2)))))),cj (n:=2) (m:=4) rfl h⟩
theorem ML :
  aR P' w K mg base CX0 1 v7 oQ ["heads","way"] (spM Bq):=by
 refine T.Mx.ok Cu (fun vs H Q E h=>d_ h) (fun cdv A outer s H vs Q E hr h=>?_)
 exact ⟨_,(av (gj PassesOwn.never rfl (i_S (d_v 1)) (g_t rfl (bu 2 Cu.nd (bu 3 Cu.nd gh)))
  (av (eU (FW hr (d_v 2) (d_v 0)) (av (s_e (Bc 0 (d_v 2)))) (av (AX 0 hr (d_v 2) (d_v 3))))))),ng (n:=2) (m:=2) rfl h⟩
theorem MM :
  aR P' w K mg base CX0 2 v8 oR ["steps","heads","a","b","count"] (spD zc):=by
 refine T.My.ok qt (fun vs H Q E h=>aO h) (fun cdv A outer s H vs Q E hr h=>?_)
 exact ⟨_,(ai (s_a 5 qt.nd (IK rfl T.Jk (aa (d_v 1) af)))
  (ai (s_a 6 qt.nd (bf af))
  (ai (gj PassesOwn.never rfl (vn rfl T.dO (aa (d_v 4) af)) (g_n 7 qt.nd)
  (ai (Ln 8 ["steps","heads","a","b","count","left","ways","time","way","moment"] ["step"] qt.nd (c_n 10 JA rfl rfl) (i_S (Ir hr (aG (GG T) (Br.hm hr) rfl T.Mc T.Jl.kp T.E8 (aa (nA (MK T) (Br.hm hr) rfl T.NT T.Mw.kp T.Jm (aa (d_v 0) (aa (d_v 5) af))) (aa (d_v 2) af))) (d_v 3))) (fun _ _ _ _ _=>gk) (fun _ _ _ _ _=>(bx (d_v 10) d_i)))
  (ai (gj PassesOwn.never rfl (i_S (d_v 8)) (g_n 9 qt.nd)
  (av (s_e (Bc 5 (d_v 9)))))
  (av (xo 6 (d_v 8))))))
  (av (s_r (d_v 6)))))),cj (n:=5) (m:=5) rfl h⟩
theorem MN :
  aR P' w K mg base CX0 3 v9 oS ["n","ties","a","b","most"] (spD Bs):=by
 refine T.Mz.ok l0 (fun vs H Q E h=>aO h) (fun cdv A outer s H vs Q E hr h=>?_)
 exact ⟨_,(ai (s_a 5 l0.nd (aG (MI T) (Br.hm hr) rfl T.NQ T.Mu.kp T.Jo (aa (d_v 0) (aa (d_v 1) af))))
  (ai (s_a 6 l0.nd Nq)
  (ai (s_a 7 l0.nd d_n)
  (ai (s_a 8 l0.nd d_i)
  (ai (Li 100 PassesOwn.never (t_w (w_and (Lf (d_v 8) (d_v 4)) (HW (Lx (d_v 7) d_n))))
  (ai (s_a 9 l0.nd (aG (GG T) (Br.hm hr) rfl T.Mc T.Jl.kp T.E8 (aa (nA (MJ T) (Br.hm hr) rfl T.NR T.Mv.kp T.Jp (aa (d_v 5) (aa (d_v 6) af))) (aa (d_v 2) af))))
  (av (eU (FW hr (d_v 3) (d_v 9)) (ai (s_e (bq (ML T) (Br.hm hr) rfl T.NU T.Mx.kp T.Jq (aa (d_v 6) (aa (Ir hr (d_v 9) (d_v 3)) af))))
  (av (s_a 8 l0.nd (cy (d_v 8) d_i)))) (av (s_a 7 l0.nd (xj rfl T.mE (aa (Er rfl rfl T.B4 (aa (d_v 9) af)) af))))))))
  (av (s_r (aY (aa (nA (MM T) (Br.hm hr) rfl T.NV T.My.kp T.Jr (@aa _ _ _ _ _ (d_v 5) (@aa _ _ _ _ _ (d_v 6) (@aa _ _ _ _ _ (d_v 2) (@aa _ _ _ _ _ (d_v 3) (@aa _ _ _ _ _ (d_v 8) af rfl) rfl) rfl) rfl) rfl)) (aa (d_v 7) af)))))))))),cj (n:=5) (m:=5) rfl h⟩
theorem MO :
  aR P' w K mg base CX0 1 v_ oU ["thing"] (spD Bt):=by
 refine T.MA.ok MF (fun vs H Q E h=>aO h) (fun cdv A outer s H vs Q E hr h=>?_)
 exact ⟨_,(av (s_r (m6 (sI DZ (by rfl) rfl T.Gf rfl T.aB (d_v 0)) (p6 (Lh (sI AA (by rfl) rfl T.Jj rfl T.aB (d_v 0))))))),cj (n:=1) (m:=0) rfl h⟩
theorem ye :
  aR P' w K mg base CX0 2 wc oV ["thing","low","high"] (spD kU):=by
 refine T.B7.ok MG (fun vs H Q E h=>aO h) (fun cdv A outer s H vs Q E hr h=>?_)
 exact ⟨_,(av (s_r (m6 (aG (MO T) (Br.hm hr) rfl T.NX T.MA.kp T.Js (aa (d_v 0) af)) (p6 (D3 zQ Ar zQ Ar (d_v 1) (d_v 0) (d_v 2)))))),cj (n:=3) (m:=0) rfl h⟩
theorem MP :
  aR P' w K mg base CX0 3 we oW ["thing"] (spD vM):=by
 refine T.MB.ok MH (fun vs H Q E h=>aO h) (fun cdv A outer s H vs Q E hr h=>?_)
 exact ⟨_,(av (s_r (aG (ye T) (Br.hm hr) rfl T.E7 T.B7.kp T.zy (aa (d_v 0) (aa d_i (aa d_i af)))))),cj (n:=1) (m:=0) rfl h⟩
theorem rJ :
  aR P' w K mg base CX0 3 nS iU ["n","thing"] (spD dF):=by
 refine T.uf.ok JB (fun vs H Q E h=>aO h) (fun cdv A outer s H vs Q E hr h=>?_)
 exact ⟨_,(av (s_r (aG (ye T) (Br.hm hr) rfl T.E7 T.B7.kp T.zy (aa (d_v 1) (aa d_i (aa (h_ (d_v 0) d_i) af)))))),cj (n:=2) (m:=0) rfl h⟩
theorem CB :
  aR P' w K mg base CX0 3 nT iV ["thing"] (spD gy):=by
 refine T.B8.ok JC (fun vs H Q E h=>aO h) (fun cdv A outer s H vs Q E hr h=>?_)
 exact ⟨_,(av (s_r (aG (ye T) (Br.hm hr) rfl T.E7 T.B7.kp T.zy (aa (d_v 0) (aa d_i (aa d_i af)))))),cj (n:=1) (m:=0) rfl h⟩
theorem JO :
  aR P' w K mg base CX0 3 nU iW ["thing"] (spD lO):=by
 refine T.Gp.ok JD (fun vs H Q E h=>aO h) (fun cdv A outer s H vs Q E hr h=>?_)
 exact ⟨_,(av (s_r (aG (ye T) (Br.hm hr) rfl T.E7 T.B7.kp T.zy (aa (d_v 0) (aa d_i (aa (gg d_i d_i) af)))))),cj (n:=1) (m:=0) rfl h⟩
theorem JP :
  aR P' w K mg base CX0 4 nV iX ["n","thing"] (spD j4):=by
 refine T.Gq.ok JE (fun vs H Q E h=>aO h) (fun cdv A outer s H vs Q E hr h=>?_)
 exact ⟨_,(ai (eU (t_w (w_or (fK (fL (sI kit_tuple (by rfl) rfl T.mE rfl T.aB (d_v 1)))) (xm (vj hr (jU rfl T.kr (aa (d_v 1) af)) d_i)))) (av (s_r d_b)) dc)
  (av (s_r (m6 (aG (JO T) (Br.hm hr) rfl T.Me T.Gp.kp T.B9 (aa (bx (d_v 1) d_i) af)) (m6 (aG (rJ T) (Br.hm hr) rfl T.xW T.uf.kp T.qq (aa (d_v 0) (aa (bx (d_v 1) d_i) af))) (p6 (aG (rJ T) (Br.hm hr) rfl T.xW T.uf.kp T.qq (aa (d_v 0) (aa (bx (d_v 1) d_i) af))))))))),cj (n:=2) (m:=0) rfl h⟩
theorem JQ :
  aR P' w K mg base CX0 5 nW iY ["n","thing"] (spD nD):=by
 refine T.Gr.ok JF (fun vs H Q E h=>aO h) (fun cdv A outer s H vs Q E hr h=>?_)
 exact ⟨_,(av (s_r (m6 (aG (JP T) (Br.hm hr) rfl T.Mf T.Gq.kp T.B_ (aa (d_v 0) (aa (d_v 1) af))) (p6 (Nh (bx (d_v 1) d_i) (bx (d_v 1) d_i)))))),cj (n:=2) (m:=0) rfl h⟩
theorem JR :
  aR P' w K mg base CX0 1 nX iZ ["things"] (spD xH):=by
 refine T.Gs.ok JG (fun vs H Q E h=>aO h) (fun cdv A outer s H vs Q E hr h=>?_)
 exact ⟨_,(av (s_r (FP rfl rfl T.Ge (aa (Lm ["things"] ["at"] (c_n 1 E9 rfl rfl) (Nk rfl T.dO (aa d_i (aa (jU rfl T.kr (aa (d_v 0) af)) af))) (fun _ _ _ _ _=>gk) (fun _ _ _ _ _=>(Ng (bx (d_v 0) (h_ (d_v 1) d_i)) (bx (d_v 0) (d_v 1))))) af)))),cj (n:=1) (m:=0) rfl h⟩
theorem CC :
  aR P' w K mg base CX0 4 nY i0 ["n","a","b"] (spD bR):=by
 refine T.Ca.ok JH (fun vs H Q E h=>aO h) (fun cdv A outer s H vs Q E hr h=>?_)
 exact ⟨_,(av (s_r (m6 (aG (rJ T) (Br.hm hr) rfl T.xW T.uf.kp T.qq (aa (d_v 0) (aa (d_v 1) af))) (m6 (aG (rJ T) (Br.hm hr) rfl T.xW T.uf.kp T.qq (aa (d_v 0) (aa (d_v 2) af))) (p6 (Nf hr (d_v 1) (d_v 2))))))),cj (n:=3) (m:=0) rfl h⟩
theorem JS :
  aR P' w K mg base CX0 4 nZ i6 ["k"] (spD xJ):=by
 refine T.Gu.ok JI (fun vs H Q E h=>aO h) (fun cdv A outer s H vs Q E hr h=>?_)
 exact ⟨_,(av (eU (fK (fL (aG (CB T) (Br.hm hr) rfl T.Gh T.B8.kp T.xY (aa (d_v 0) af)))) (av qL) dc)),cj (n:=1) (m:=0) rfl h⟩
theorem JT :
  aR P' w K mg base CX0 5 lX gD ["n","a","b"] (spD tF):=by
 refine T.x6.ok Cv (fun vs H Q E h=>aO h) (fun cdv A outer s H vs Q E hr h=>?_)
 exact ⟨_,(av (eU (fK (fL (aG (CC T) (Br.hm hr) rfl T.Gi T.Ca.kp T.xZ (aa (d_v 0) (aa (d_v 1) (aa (d_v 2) af)))))) (av qL) dc)),cj (n:=3) (m:=0) rfl h⟩
theorem eZ :
  aR P' w K mg base (CXE P' w az) 5 lX gD ["n","a","b"] (spX az bK):=by
 exact okY (n:=3) (m:=0) T.x6 Cv rfl rfl (fun cdv A outer s H E hr=>(fN (Ez (fK (fL (aG (CC T) (Br.hm hr) rfl T.Gi T.Ca.kp T.xZ (aa (d_v 0) (aa (d_v 1) (aa (d_v 2) af)))))) (fN (y_x (x_raise T.wg PySem.F.excBase_ValueError rfl))) IS)))
theorem JU :
  aR P' w K mg base CX0 1 n5 i7 ["groups","a","b"] (spD xK):=by
 refine T.Gv.ok JJ (fun vs H Q E h=>aO h) (fun cdv A outer s H vs Q E hr h=>?_)
 exact ⟨_,(av (s_r (lA 0 ["groups","a","b"] ["group"] (c_n 3 E_ rfl rfl) (d_v 0) (fun _ _ _ _ _=>gk) (fun _ _ _ _ _=>(Ni (vh hr (d_v 3) (bx (d_v 0) (d_v 2))) (bx (d_v 0) (d_v 1)) (d_v 3)))))),cj (n:=3) (m:=0) rfl h⟩
theorem JV :
  aR P' w K mg base CX0 1 n6 i8 ["layers","a","b"] (spD tG):=by
 refine T.Gw.ok wj (fun vs H Q E h=>aO h) (fun cdv A outer s H vs Q E hr h=>?_)
 exact ⟨_,(ai (gj PassesOwn.never rfl (Nm rfl T.ud (d_v 0)) (g_t rfl (bu 3 wj.nd (bu 4 wj.nd gh)))
  (av (eU (vj hr (bx (d_v 4) (d_v 1)) (bx (d_v 4) (d_v 2))) (av (s_r (cy (d_v 3) d_i))) dc)))
  (av (s_r d_i))),cj (n:=3) (m:=2) rfl h⟩
theorem CD :
  aR P' w K mg base CX0 5 n8 i9 ["n","record","k"] (spD qi):=by
 refine T.Ce.ok jt (fun vs H Q E h=>aO h) (fun cdv A outer s H vs Q E hr h=>?_)
 exact ⟨_,(ai (s_e (aG (JS T) (Br.hm hr) rfl T.Mi T.Gu.kp T.Cb (aa (d_v 2) af)))
  (ai (Ln 3 ["n","record","k","layers","numbers","moment","a","b","number"] ["layer"] jt.nd (c_n 9 Fb rfl rfl) (vn rfl T.dO (aa (d_v 2) af)) (fun _ _ _ _ _=>gk) (fun _ _ _ _ _=>(Ih rfl rfl T.rG rfl T.dO (aa (d_v 0) af))))
  (ai (s_a 4 jt.nd (bf af))
  (ai (gj PassesOwn.never rfl (Ls rfl T.oY (d_v 1)) (g_t rfl (bu 5 jt.nd (bu 6 jt.nd (bu 7 jt.nd gh))))
  (ai (s_a 8 jt.nd (aG (JV T) (Br.hm hr) rfl T.Mk T.Gw.kp T.Cd (aa (d_v 3) (aa (d_v 6) (aa (d_v 7) af)))))
  (ai (eU (HU (d_v 8) d_i) (av (FO 3 (h_ (d_v 8) d_i) (aG (JU T) (Br.hm hr) rfl T.Mj T.Gv.kp T.Cc (aa (bx (d_v 3) (h_ (d_v 8) d_i)) (aa (d_v 6) (aa (d_v 7) af)))))) dc)
  (av (xo 4 (d_v 8))))))
  (av (s_r (D8 rfl rfl T.rG rfl T.oY (d_v 4)))))))),cj (n:=3) (m:=6) rfl h⟩
theorem JX :
  aR P' w K mg base CX0 6 n9 i_ ["n","thing"] (spD gA):=by
 refine T.Gx.ok JK (fun vs H Q E h=>aO h) (fun cdv A outer s H vs Q E hr h=>?_)
 obtain ⟨ku,ur⟩:=T.oZ
 exact ⟨_,(ai (eU (t_w (w_or (fK (fL (aG (MP T) (Br.hm hr) rfl T.NY T.MB.kp T.Jt (aa (d_v 0) af)))) (w_or (fK (fL (sI AB (by rfl) rfl T.rG rfl T.aB (d_v 1)))) (xm (HU (jU rfl T.kr (aa (d_v 1) af)) (d_g rfl ur)))))) (av (s_r d_b)) dc)
  (ai (eU (fK (fL (FP rfl rfl T.Ge (aa (lA 1 ["n","thing"] ["tie"] (c_n 2 Fc rfl rfl) (d_v 1) (fun _ _ _ _ _=>gk) (fun _ _ _ _ _=>(aG (JQ T) (Br.hm hr) rfl T.Mg T.Gr.kp T.Cf (aa (d_v 0) (aa (d_v 2) af))))) af)))) (av (s_r d_b)) dc)
  (av (s_r (aG (JR T) (Br.hm hr) rfl T.Mh T.Gs.kp T.Cg (aa (lA 1 ["n","thing"] ["tie"] (c_n 2 Fe rfl rfl) (d_v 1) (fun _ _ _ _ _=>gk) (fun _ _ _ _ _=>(bx (d_v 2) d_i))) af)))))),cj (n:=2) (m:=0) rfl h⟩
theorem JY :
  aR P' w K mg base CX0 1 n_ ja ["record","t"] (spD xM):=by
 refine T.Gy.ok JL (fun vs H Q E h=>aO h) (fun cdv A outer s H vs Q E hr h=>?_)
 exact ⟨_,(av (s_r (lA 0 ["record","t"] ["tie"] (c_n 2 Ff rfl rfl) (d_v 0) (fun _ _ _ _ _=>qM (Lg (bx (d_v 2) d_i) (d_v 1))) (fun _ _ _ _ _=>(d_v 2))))),cj (n:=2) (m:=0) rfl h⟩
theorem CF :
  aR P' w K mg base CX0 7 oj jb ["thing"] (spD bJ):=by
 refine T.Cj.ok JM (fun vs H Q E h=>aO h) (fun cdv A outer s H vs Q E hr h=>?_)
 exact ⟨_,(ai (eU (t_w (w_or (fK (fL (sI kit_tuple (by rfl) rfl T.mE rfl T.aB (d_v 0)))) (xm (vj hr (jU rfl T.kr (aa (d_v 0) af)) d_i)))) (av (s_r d_b)) dc)
  (ai (eU (t_w (w_or (fK (fL (aG (CB T) (Br.hm hr) rfl T.Gh T.B8.kp T.xY (aa (bx (d_v 0) d_i) af)))) (xm (fK (fL (aG (JX T) (Br.hm hr) rfl T.Ml T.Gx.kp T.Ci (aa (bx (d_v 0) d_i) (aa (bx (d_v 0) d_i) af)))))))) (av (s_r d_b)) dc)
  (av (s_r (Le hr d_i (aG (CD T) (Br.hm hr) rfl T.Gk T.Ce.kp T.x8 (aa (bx (d_v 0) d_i) (aa (bx (d_v 0) d_i) (aa (bx (d_v 0) d_i) af))))))))),cj (n:=1) (m:=0) rfl h⟩
theorem CG :
  aR P' w K mg base CX0 8 lY gE ["thing"] (spD j5):=by
 refine T.ug.ok Cw (fun vs H Q E h=>aO h) (fun cdv A outer s H vs Q E hr h=>?_)
 exact ⟨_,(av (eU (fK (fL (aG (CF T) (Br.hm hr) rfl T.Gm T.Cj.kp T.x9 (aa (d_v 0) af)))) (av qL) dc)),cj (n:=1) (m:=0) rfl h⟩
theorem fT :
  aR P' w K mg base (CXE P' w aF) 8 lY gE ["thing"] (spX aF bS):=by
 exact okY (n:=1) (m:=0) T.ug Cw rfl rfl (fun cdv A outer s H E hr=>(fN (Ez (fK (fL (aG (CF T) (Br.hm hr) rfl T.Gm T.Cj.kp T.x9 (aa (d_v 0) af)))) (fN (y_x (x_raise T.zx PySem.F.excBase_ValueError rfl))) IS)))
theorem JZ :
  aR P' w K mg base CX0 6 oq jc ["n","record","k"] (spD xO):=by
 refine T.Gz.ok Cy (fun vs H Q E h=>aO h) (fun cdv A outer s H vs Q E hr h=>?_)
 exact ⟨_,(ai (s_a 3 Cy.nd (aG (CD T) (Br.hm hr) rfl T.Gk T.Ce.kp T.x8 (aa (d_v 0) (aa (d_v 1) (aa (d_v 2) af)))))
  (av (s_r (aY (aa (d_v 0) (aa (d_v 2) (aa (Lm ["n","record","k","numbers"] ["tie","number"] (c_t rfl (fun _ _ _ _ _=>(bu 4 yd (bu 5 yd gh)))) (Lu rfl T.Mb (aa (d_v 1) (aa (d_v 3) af))) (fun _ _ _ _ _=>qM (HU (d_v 5) d_i)) (fun _ _ _ _ _=>(d_v 4))) af))))))),cj (n:=3) (m:=1) rfl h⟩
theorem CH :
  aR P' w K mg base CX0 6 iw jd ["n","record","a","b","most","t"] (spD lP):=by
 refine T.lZ.ok wk (fun vs H Q E h=>aO h) (fun cdv A outer s H vs Q E hr h=>?_)
 exact ⟨_,(ai (s_e (aG (JT T) (Br.hm hr) rfl T.Gj T.x6.kp T.x_ (aa (d_v 0) (aa (d_v 2) (aa (d_v 3) af)))))
  (ai (s_a 6 wk.nd (aG (MN T) (Br.hm hr) rfl T.NW T.Mz.kp T.Ju (@aa _ _ _ _ _ (d_v 0) (@aa _ _ _ _ _ (aG (JY T) (Br.hm hr) rfl T.Mm T.Gy.kp T.Ck (aa (d_v 1) (aa (d_v 5) af))) (@aa _ _ _ _ _ (d_v 2) (@aa _ _ _ _ _ (d_v 3) (@aa _ _ _ _ _ (d_v 4) af rfl) rfl) rfl) rfl) rfl)))
  (av (s_r (aY (aa (jU rfl T.kr (aa (bx (d_v 6) d_i) af)) (aa (bx (d_v 6) d_i) (aa (bx (d_v 6) d_i) af)))))))),cj (n:=6) (m:=1) rfl h⟩
theorem d7 :
  aR P' w K mg base (CXE P' w az) 6 iw jd ["n","record","a","b","most","t"] (spX az aU):=by
 exact IV (n:=6) (m:=1) T.lZ wk rfl rfl (fun cdv A outer s H E hr=>(fN (y_x (nq (x_call (eZ T) (Br.hm hr) rfl T.Gj T.x6.kp T.x_ A0 (aa (d_v 0) (aa (d_v 2) (aa (d_v 3) af))))))))
theorem wz :
  aR P' w K mg base CX0 9 gC gF ["net","a","b","t"] (spD ig):=by
 refine T.iy.ok wo (fun vs H Q E h=>aO h) (fun cdv A outer s H vs Q E hr h=>?_)
 exact ⟨_,(ai (s_e (aG (CG T) (Br.hm hr) rfl T.B5 T.ug.kp T.uh (aa (d_v 0) af)))
  (av (s_r (aG (CH T) (Br.hm hr) rfl T.xX T.lZ.kp T.ya (@aa _ _ _ _ _ (bx (d_v 0) d_i) (@aa _ _ _ _ _ (bx (d_v 0) d_i) (@aa _ _ _ _ _ (d_v 1) (@aa _ _ _ _ _ (d_v 2) (@aa _ _ _ _ _ (bx (d_v 0) d_i) (@aa _ _ _ _ _ (d_v 3) af rfl) rfl) rfl) rfl) rfl) rfl))))),cj (n:=4) (m:=0) rfl h⟩
theorem l_ :
  aR P' w K mg base (CXE P' w az) 9 gC gF ["net","a","b","t"] (spX az bg):=by
 exact IV (n:=4) (m:=0) T.iy wo rfl rfl (fun cdv A outer s H E hr=>(LR (s_e (aG (CG T) (Br.hm hr) rfl T.B5 T.ug.kp T.uh (aa (d_v 0) af))) (fN (y_x (LA (x_call (d7 T) (Br.hm hr) rfl T.xX T.lZ.kp T.ya A0 (@aa _ _ _ _ _ (bx (d_v 0) d_i) (@aa _ _ _ _ _ (bx (d_v 0) d_i) (@aa _ _ _ _ _ (d_v 1) (@aa _ _ _ _ _ (d_v 2) (@aa _ _ _ _ _ (bx (d_v 0) d_i) (@aa _ _ _ _ _ (d_v 3) af rfl) rfl) rfl) rfl) rfl) rfl)))))))
theorem o7 :
  aR P' w K mg base (CXE P' w aF) 9 gC gF ["net","a","b","t"] (spX aF cU):=by
 exact IV (n:=4) (m:=0) T.iy wo rfl rfl (fun cdv A outer s H E hr=>(fN (y_x (nq (x_call (fT T) (Br.hm hr) rfl T.B5 T.ug.kp T.uh A0 (aa (d_v 0) af))))))
theorem wA :
  aR P' w K mg base CX0 1 ou je ["script","k"] (spD nE):=by
 refine T.yb.ok fD (fun vs H Q E h=>aO h) (fun cdv A outer s H vs Q E hr h=>?_)
 exact ⟨_,(ai (s_a 2 fD.nd d_i)
  (ai (eU (Lf (d_v 1) (jU rfl T.kr (aa (d_v 0) af))) (av (s_a 2 fD.nd (bx (d_v 0) (d_v 1)))) dc)
  (ai (eU (Lg (d_v 2) (gg d_i d_i)) (av (s_r (bf (aa (ic (d_v 2) (qV (qV (qV (qV (gg d_i d_i) (gg d_i d_i)) (gg d_i d_i)) (gg d_i d_i)) (gg d_i d_i))) af)))) dc)
  (ai (s_a 3 fD.nd (ic (cy (cy (cy (d_v 2) (ia (ia d_i (d_v 1)) (d_v 1))) (ia d_i (d_v 1))) d_i) d_i))
  (ai (s_a 4 fD.nd d_i)
  (ai (gj PassesOwn.never rfl (vn rfl T.dO (aa d_i af)) (g_n 5 fD.nd)
  (ai (s_a 3 fD.nd (ic (cy (cy (ia (d_v 3) d_i) (ia d_i (d_v 5))) d_i) d_i))
  (ai (s_a 3 fD.nd (ic (ia (d_v 3) (d_v 3)) d_i))
  (av (s_a 4 fD.nd (cy (ia (d_v 4) d_i) (ic (cy (ia (d_v 3) d_i) (d_v 1)) d_i)))))))
  (av (s_r (bf (aa (d_v 4) af)))))))))),cj (n:=2) (m:=4) rfl h⟩
theorem ck :
  aR P' w K mg base CX0 1 oz jf ["pool","many"] (spM b9):=by
 refine T.dH.ok Cz (fun vs H Q E h=>d_ h) (fun cdv A outer s H vs Q E hr h=>?_)
 exact ⟨_,(ai (s_a 2 Cz.nd (ic (bx (d_v 0) d_i) (d_v 1)))
  (ai (FO 0 d_i (Ld (bx (d_v 0) d_i) (d_v 1)))
  (av (s_r (d_v 2))))),ng (n:=2) (m:=1) rfl h⟩
theorem J0 :
  aR P' w K mg base CX0 2 oA jh ["pool"] (spM tH):=by
 refine T.GA.ok JN (fun vs H Q E h=>d_ h) (fun cdv A outer s H vs Q E hr h=>?_)
 exact ⟨_,(av (s_r (bx (bf (@aa _ _ _ _ _ d_i (@aa _ _ _ _ _ d_i (@aa _ _ _ _ _ d_i (@aa _ _ _ _ _ d_i (@aa _ _ _ _ _ d_i (@aa _ _ _ _ _ d_i (@aa _ _ _ _ _ d_i (@aa _ _ _ _ _ d_i af rfl) rfl) rfl) rfl) rfl) rfl) rfl) rfl)) (bq (ck T) (Br.hm hr) rfl T.dZ T.dH.kp T.dj (aa (d_v 0) (aa d_i af)))))),ng (n:=1) (m:=0) rfl h⟩
theorem J2 :
  aR P' w K mg base CX0 2 oB ji ["pool","n","most"] (spM tL):=by
 refine T.GB.ok cG (fun vs H Q E h=>d_ h) (fun cdv A outer s H vs Q E hr h=>?_)
 exact ⟨_,(ai (s_a 3 cG.nd (bq (ck T) (Br.hm hr) rfl T.dZ T.dH.kp T.dj (aa (d_v 0) (aa (cy (d_v 2) d_i) af))))
  (ai (s_a 4 cG.nd (bq (ck T) (Br.hm hr) rfl T.dZ T.dH.kp T.dj (aa (d_v 0) (aa d_i af))))
  (ai (s_a 5 cG.nd (bx (bf (aa d_i (aa d_i (aa (gg d_i d_i) (aa d_i af))))) (d_v 4)))
  (ai (s_a 6 cG.nd (bx (bf (aa d_i (aa (gg d_i d_i) af))) (Ll rfl T.Gf (aa (HS hr (d_v 4) d_i) af))))
  (ai (s_a 7 cG.nd (bq (ck T) (Br.hm hr) rfl T.dZ T.dH.kp T.dj (aa (d_v 0) (aa d_i af))))
  (ai (s_a 8 cG.nd (ia (bq (ck T) (Br.hm hr) rfl T.dZ T.dH.kp T.dj (aa (d_v 0) (aa (d_v 5) af))) (d_v 6)))
  (ai (s_a 9 cG.nd (bf af))
  (ai (gj PassesOwn.never rfl (vn rfl T.dO (aa (d_v 3) af)) (g_n 10 cG.nd)
  (ai (s_a 11 cG.nd (bq (ck T) (Br.hm hr) rfl T.dZ T.dH.kp T.dj (aa (d_v 0) (aa (d_v 1) af))))
  (ai (s_a 12 cG.nd (bq (ck T) (Br.hm hr) rfl T.dZ T.dH.kp T.dj (aa (d_v 0) (aa (d_v 1) af))))
  (ai (eU (vh hr (d_v 7) d_i) (av (s_a 12 cG.nd (ic (cy (d_v 11) d_i) (d_v 1)))) dc)
  (ai (eU (vh hr (d_v 7) d_i) (av (s_a 12 cG.nd (ic (ic (cy (cy (d_v 11) (ic (d_v 12) d_i)) d_i) (vm rfl rfl T.B3 (aa (d_v 1) (aa d_i af)))) (d_v 1)))) dc)
  (ai (xo 9 (aY (aa (d_v 8) (aa (vm rfl rfl T.B3 (aa (d_v 11) (aa (d_v 12) af))) (aa (Az rfl rfl T.Gg (aa (d_v 11) (aa (d_v 12) af))) af)))))
  (av (s_a 8 cG.nd (cy (cy (d_v 8) d_i) (ia (bq (ck T) (Br.hm hr) rfl T.dZ T.dH.kp T.dj (aa (d_v 0) (aa (d_v 5) af))) (d_v 6)))))))))))
  (av (s_r (d_v 9))))))))))),ng (n:=3) (m:=10) rfl h⟩
theorem J3 :
  aR P' w K mg base CX0 2 oE jj ["pool"] (spM tM):=by
 refine T.GC.ok CA (fun vs H Q E h=>d_ h) (fun cdv A outer s H vs Q E hr h=>?_)
 exact ⟨_,(@ai _ _ _ _ _ (@s_a _ _ _ _ 1 _ _ CA.nd (@bf _ _ _ _ (@aa _ _ _ _ _ d_n (@aa _ _ _ _ _ d_b (@aa _ _ _ _ _ d_b (@aa _ _ _ _ _ d_s (@aa _ _ _ _ _ (bf (aa d_i af)) (@aa _ _ _ _ _ (aY (aa d_i af)) (@aa _ _ _ _ _ (h_ (h_ d_i d_i) (bq (ck T) (Br.hm hr) rfl T.dZ T.dH.kp T.dj (aa (d_v 0) (aa (gg d_i d_i) af)))) (@aa _ _ _ _ _ (cy d_i (bq (ck T) (Br.hm hr) rfl T.dZ T.dH.kp T.dj (aa (d_v 0) (aa (gg d_i d_i) af)))) (@aa _ _ _ _ _ d_s af rfl) rfl) rfl) rfl) rfl) rfl) rfl) rfl) rfl)) rfl (by first | exact Or.inl rfl | exact Or.inr rfl) rfl (by first | exact Or.inl rfl | exact Or.inr rfl))
  (av (s_r (bx (d_v 1) (bq (ck T) (Br.hm hr) rfl T.dZ T.dH.kp T.dj (aa (d_v 0) (aa (jU rfl T.kr (aa (d_v 1) af)) af))))))),ng (n:=1) (m:=1) rfl h⟩
theorem J4 :
  aR P' w K mg base CX0 2 oF jl ["pool","net"] (spM tN):=by
 refine T.GD.ok ju (fun vs H Q E h=>d_ h) (fun cdv A outer s H vs Q E hr h=>?_)
 exact ⟨_,(ai (s_u rfl (bu 2 ju.nd (bu 3 ju.nd (bu 4 ju.nd gh))) (d_v 1))
  (@ai _ _ _ _ _ (@s_a _ _ _ _ 5 _ _ ju.nd (@bf _ _ _ _ (@aa _ _ _ _ _ d_n (@aa _ _ _ _ _ (bf af) (@aa _ _ _ _ _ (aY af) (@aa _ _ _ _ _ (HV rfl T.rG (aa (d_v 1) af)) (@aa _ _ _ _ _ (aY (aa (d_v 2) (aa (d_v 3) af))) (@aa _ _ _ _ _ (aY (aa (d_v 2) (aa (d_v 3) (aa (d_v 4) (aa d_i af))))) (@aa _ _ _ _ _ (aY (aa d_b (aa (d_v 3) (aa (bf af) af)))) (@aa _ _ _ _ _ (aY (aa (d_v 2) (aa d_b (aa (bf af) af)))) (@aa _ _ _ _ _ (aY (aa d_i (aa (d_v 3) (aa (bf af) af)))) (@aa _ _ _ _ _ (aY (aa (d_v 2) (aa d_i (aa (bf af) af)))) af rfl) rfl) rfl) rfl) rfl) rfl) rfl) rfl) rfl) rfl)) rfl (by first | exact Or.inl rfl | exact Or.inr rfl) rfl (by first | exact Or.inl rfl | exact Or.inr rfl))
  (ai (s_a 5 ju.nd (cy (d_v 5) (bf (@aa _ _ _ _ _ (aY (aa d_i (aa (d_v 3) (aa (bf af) af)))) (@aa _ _ _ _ _ (aY (aa (d_v 2) (aa d_i (aa (bf af) af)))) (@aa _ _ _ _ _ (aY (aa (d_v 2) (aa (d_v 3) (aa d_n af)))) (@aa _ _ _ _ _ (aY (aa (d_v 2) (aa (d_v 3) (aa (IQ (xj rfl T.mE (aa (d_v 4) af)) (aY (aa d_i af))) af)))) (@aa _ _ _ _ _ (aY (aa (d_v 2) (aa (d_v 3) (aa (bf (aa (aY (aa d_i (aa d_i (aa d_i af)))) af)) af)))) (@aa _ _ _ _ _ d_s af rfl) rfl) rfl) rfl) rfl) rfl))))
  (ai (s_a 5 ju.nd (cy (d_v 5) (bf (aa (aY (aa (d_v 2) (aa (d_v 3) (aa (bf (aa (aY (aa d_i (aa d_i (aa (d_v 2) af)))) af)) af)))) (aa (aY (aa (d_v 2) (aa (d_v 3) (aa (bf (aa (aY (aa (h_ d_i d_i) (aa d_i (aa d_i af)))) af)) af)))) (aa (aY (aa (d_v 2) (aa (d_v 3) (aa (bf (aa (bf (aa d_i (aa d_i (aa d_i af)))) af)) af)))) (aa (aY (aa (d_v 2) (aa d_i (aa (bf (aa (aY (aa d_i (aa d_i (aa d_i af)))) (aa (aY (aa d_i (aa d_i (aa d_i af)))) af))) af)))) af)))))))
  (av (s_r (bx (d_v 5) (bq (ck T) (Br.hm hr) rfl T.dZ T.dH.kp T.dj (aa (d_v 0) (aa (jU rfl T.kr (aa (d_v 5) af)) af)))))))))),ng (n:=2) (m:=4) rfl h⟩
theorem CI :
  aR P' w K mg base CX0 10 oG jm ["way","n","record","net","a","b"] (spD (nF az aF)):=by
 refine T.Cn.ok o6 (fun vs H Q E h=>aO h) (fun cdv A outer s H vs Q E hr h=>?_)
 exact ⟨_,(ai (LQ (IT (fun pn xe=>(av (eU (vh hr (d_v 0) d_i) (av (s_e (qT (CH T) (Br.hm hr) rfl T.xX T.lZ.kp T.rH (@aa _ _ _ _ _ (d_v 1) (@aa _ _ _ _ _ (d_v 2) (@aa _ _ _ _ _ (d_v 4) (@aa _ _ _ _ _ (d_v 5) (@aa _ _ _ _ _ d_i af rfl) rfl) rfl) rfl) rfl)))) (av (s_e (qT (wz T) (Br.hm hr) rfl T.ue T.iy.kp T.k9 (aa (d_v 3) (aa (d_v 4) (aa (d_v 5) af)))))))))) (LQ (Be (ie:=6) rfl rfl rfl o6.nd rfl rfl rfl T.oX T.jr (fun pn xe E hp=>(fN (Ez (vh hr (d_v 0) d_i) (fN (y_x (nq (qW (d7 T) (Br.hm hr) rfl T.xX T.lZ.kp T.rH hp (@aa _ _ _ _ _ (d_v 1) (@aa _ _ _ _ _ (d_v 2) (@aa _ _ _ _ _ (d_v 4) (@aa _ _ _ _ _ (d_v 5) (@aa _ _ _ _ _ d_i af rfl) rfl) rfl) rfl) rfl))))) (fN (y_x (nq (qW (l_ T) (Br.hm hr) rfl T.ue T.iy.kp T.k9 hp (aa (d_v 3) (aa (d_v 4) (aa (d_v 5) af)))))))))) (fun A' xe=>(ai (s_a 7 o6.nd (dD (xC (Ds:=[aZ,a_,bI]) T.bW T.bz (dm rfl T.fB (dm rfl T.fC (dm rfl T.ko xB))) (Nat.le_of_ble_eq_true rfl) rfl T.aB (d_v 6)) (dD (xC (Ds:=[aZ,a_,bI]) T.cB T.bA (dm rfl T.fB (dm rfl T.fC (dm rfl T.ko xB))) (Nat.le_of_ble_eq_true rfl) rfl T.aB (d_v 6)) lI)))
  (av (s_r (bf (aa (dD (lG T.bW T.eY rfl T.kj rfl T.aB (d_v 6)) (dD (lG T.cB T.fP rfl T.kj rfl T.aB (d_v 6)) lI)) (aa (dD (lG T.bW T.fQ rfl T.mD rfl T.aB (d_v 6)) (dD (lG T.cB T.gG rfl T.mD rfl T.aB (d_v 6)) lI)) (aa (dD (qS T.bW T.di rfl rfl T.dN rfl T.aB (d_v 6)) (dD (qS T.cB T.dG rfl rfl T.dN rfl T.aB (d_v 6)) lI)) (aa (d_v 7) af)))))))))) (Be (ie:=6) rfl rfl rfl o6.nd rfl rfl rfl T.oX T.kq (fun pn xe E hp=>(fN (Ez (vh hr (d_v 0) d_i) IS (fN (y_x (nq (qW (o7 T) (Br.hm hr) rfl T.ue T.iy.kp T.k9 hp (aa (d_v 3) (aa (d_v 4) (aa (d_v 5) af)))))))))) (fun A' xe=>(ai (s_a 7 o6.nd (dD (xC (Ds:=[aZ,a_,bI]) T.bW T.bz (dm rfl T.fB (dm rfl T.fC (dm rfl T.ko xB))) (Nat.le_of_ble_eq_true rfl) rfl T.aB (d_v 6)) (dD (xC (Ds:=[aZ,a_,bI]) T.cB T.bA (dm rfl T.fB (dm rfl T.fC (dm rfl T.ko xB))) (Nat.le_of_ble_eq_true rfl) rfl T.aB (d_v 6)) lI)))
  (av (s_r (bf (aa (dD (lG T.bW T.eY rfl T.kj rfl T.aB (d_v 6)) (dD (lG T.cB T.fP rfl T.kj rfl T.aB (d_v 6)) lI)) (aa (dD (lG T.bW T.fQ rfl T.mD rfl T.aB (d_v 6)) (dD (lG T.cB T.gG rfl T.mD rfl T.aB (d_v 6)) lI)) (aa (dD (qS T.bW T.di rfl rfl T.dN rfl T.aB (d_v 6)) (dD (qS T.cB T.dG rfl rfl T.dN rfl T.aB (d_v 6)) lI)) (aa (d_v 7) af))))))))))))
  (av (s_r (bf af)))),cj (n:=6) (m:=2) rfl h⟩
theorem J_ :
  aR P' w K mg base CX0 3 oH jn ["pool","n"] (spM tO):=by
 refine T.GF.ok wu (fun vs H Q E h=>d_ h) (fun cdv A outer s H vs Q E hr h=>?_)
 exact ⟨_,(ai (s_a 2 wu.nd (bq (J3 T) (Br.hm hr) rfl T.Mr T.GC.kp T.Co (aa (d_v 0) af)))
  (ai (s_a 3 wu.nd (bq (ck T) (Br.hm hr) rfl T.dZ T.dH.kp T.dj (aa (d_v 0) (aa (d_v 1) af))))
  (av (s_r (bx (bf (@aa _ _ _ _ _ (aY (aa (d_v 2) (aa (d_v 3) af))) (@aa _ _ _ _ _ (aY (aa (d_v 3) (aa (d_v 2) af))) (@aa _ _ _ _ _ (aY (aa (d_v 3) (aa (d_v 3) af))) (@aa _ _ _ _ _ (aY (aa (d_v 1) (aa (d_v 3) af))) (@aa _ _ _ _ _ (aY (aa (d_v 3) (aa (d_v 1) af))) (@aa _ _ _ _ _ (aY (aa (d_v 2) (aa (d_v 2) af))) af rfl) rfl) rfl) rfl) rfl) rfl)) (bq (ck T) (Br.hm hr) rfl T.dZ T.dH.kp T.dj (aa (d_v 0) (aa d_i af)))))))),ng (n:=2) (m:=2) rfl h⟩
theorem Ka :
  aR P' w K mg base CX0 11 oJ k8 ["script"] (spD (nG az aF)):=by
 refine T.MC.ok cH (fun vs H Q E h=>aO h) (fun cdv A outer s H vs Q E hr h=>?_)
 exact ⟨_,(ai (s_a 1 cH.nd (aG (wA T) (Br.hm hr) rfl T.B6 T.yb.kp T.um (aa (d_v 0) (aa d_i af))))
  (ai (s_a 2 cH.nd (bq (J0 T) (Br.hm hr) rfl T.Mp T.GA.kp T.Cq (aa (d_v 1) af)))
  (ai (s_a 3 cH.nd (cy d_i (bq (ck T) (Br.hm hr) rfl T.dZ T.dH.kp T.dj (aa (d_v 1) (aa d_i af)))))
  (ai (s_a 4 cH.nd (Ew (J2 T) (Br.hm hr) rfl T.Mq T.GB.kp T.Cr (aa (aG (wA T) (Br.hm hr) rfl T.B6 T.yb.kp T.um (aa (d_v 0) (aa d_i af))) (aa (d_v 2) (aa d_i af)))))
  (ai (s_a 5 cH.nd (aG (JZ T) (Br.hm hr) rfl T.Mn T.Gz.kp T.Cp (aa (d_v 2) (aa (d_v 4) (aa (d_v 3) af)))))
  (ai (gj PassesOwn.never rfl (vn rfl T.dO (aa (Az rfl rfl T.Gg (aa d_i (aa (vm rfl rfl T.B3 (aa (jU rfl T.kr (aa (d_v 0) af)) (aa d_i af))) af))) af)) (g_n 6 cH.nd)
  (ai (s_a 1 cH.nd (aG (wA T) (Br.hm hr) rfl T.B6 T.yb.kp T.um (aa (d_v 0) (aa (d_v 6) af))))
  (ai (s_u rfl (bu 7 cH.nd (bu 8 cH.nd gh)) (bq (J_ T) (Br.hm hr) rfl T.Mt T.GF.kp T.Ct (aa (d_v 1) (aa (d_v 2) af))))
  (ai (gj PassesOwn.never rfl (vn rfl T.dO (aa d_i af)) (g_n 9 cH.nd)
  (av (eU (vj hr (aG (CI T) (Br.hm hr) rfl T.Gn T.Cn.kp T.yc (@aa _ _ _ _ _ (d_v 9) (@aa _ _ _ _ _ (d_v 2) (@aa _ _ _ _ _ (d_v 4) (@aa _ _ _ _ _ (d_v 5) (@aa _ _ _ _ _ (d_v 7) (@aa _ _ _ _ _ (d_v 8) af rfl) rfl) rfl) rfl) rfl) rfl)) (bf (aa d_b (aa d_b (aa d_b (aa d_b af)))))) (av (s_r d_b)) dc)))
  (ai (s_a 10 cH.nd (bq (J4 T) (Br.hm hr) rfl T.Ms T.GD.kp T.Cs (aa (d_v 1) (aa (d_v 5) af))))
  (av (gj PassesOwn.never rfl (i_S (bf (aa (aY (aa (d_v 7) (aa (d_v 8) af))) (aa (aY (aa d_i (aa (h_ (d_v 2) d_i) af))) af)))) (g_t rfl (bu 11 cH.nd (bu 12 cH.nd gh)))
  (av (eU (vj hr (aG (CI T) (Br.hm hr) rfl T.Gn T.Cn.kp T.yc (@aa _ _ _ _ _ d_i (@aa _ _ _ _ _ (d_v 2) (@aa _ _ _ _ _ (d_v 4) (@aa _ _ _ _ _ (d_v 10) (@aa _ _ _ _ _ (d_v 11) (@aa _ _ _ _ _ (d_v 12) af rfl) rfl) rfl) rfl) rfl) rfl)) (bf (aa d_b (aa d_b (aa d_b (aa d_b af)))))) (av (s_r d_b)) dc)))))))))
  (av (s_r (Nj (HS hr (d_v 2) d_i) (p6 (HS hr (qT (wz T) (Br.hm hr) rfl T.ue T.iy.kp T.k9 (aa (d_v 5) (aa d_i (aa (h_ (d_v 2) d_i) af)))) (aG (wz T) (Br.hm hr) rfl T.ue T.iy.kp T.Cm (aa (d_v 5) (aa d_i (aa (h_ (d_v 2) d_i) (aa d_i af)))))))))))))))),cj (n:=1) (m:=12) rfl h⟩
end
theorem all_mk {l:PySem.W.OpenLaw} {w:World} {K:PySem.W.Frag} {h:Heap} {mg:Str→Option Value} {fa vX vY vZ v5 v7 v8 v9 v_ wc we nS nT nU nV nW nX nY nZ lX n5 n6 n8 n9 n_ oj lY oq iw gC ou oz oA oB oE oF oG oH oJ aZ aF az a_ bI br:Addr} {oK oM oN oO oQ oR oS oU oV oW iU iV iW iX iY iZ i0 i6 gD i7 i8 i9 i_ ja jb gE jc je jf jh ji jj jl jm jn k8:FuncData} (X:K.In h) (G:h.Ns mainGlobals mg) (hfa:mg "law" = some (.ref fa))
  {Kc rK:Option Addr} {Kd:Array (Option Value)} {Ke rL rM rN o8 rO:Value} {o9:Addr} {jo:Tok} {wB:Nat} {uu:Value} {uv:Option Addr} {uw:Array (Option Value)}
  {Kf rP:Option Addr} {Kg:Array (Option Value)} {Kh rQ rR rS o_ rT:Value} {pe:Addr} {jq:Tok} {Fg:Nat} {CJ:Value} {CK:Option Addr} {CL:Array (Option Value)}
  {ku:Tok}
  (CM:bH K "steps_of" (top 2) vX oK)
  (CN:bH K "free_steps" (top 3) vY oM)
  (CO:bH K "led_steps" (top 4) vZ oN)
  (CQ:bH K "shortest_ways" (top 5) v5 oO)
  (CS:bH K "lead_along" (top 6) v7 oQ)
  (CT:bH K "parted" (top 7) v8 oR)
  (CU:bH K "ways_apart" (top 1) v9 oS)
  (CV:bH K "is_whole" (top 16) v_ oU)
  (CW:bH K "is_within" (top 17) wc oV)
  (CY:bH K "is_places" (top 18) we oW)
  (ux:bH K "is_place" (top 19) nS iU)
  (uy:bH K "is_layers" (top 20) nT iV)
  (uz:bH K "is_moment" (top 21) nU iW)
  (uA:bH K "is_tie_either_way" (top 22) nV iX)
  (uB:bH K "is_tie" (top 23) nW iY)
  (uC:bH K "is_rising" (top 24) nX iZ)
  (uD:bH K "is_pair" (top 25) nY i0)
  (uE:bH K "look_at_layers" (top 26) nZ i6)
  (uF:bH K "look_at_pair" (top 27) lX gD)
  (uG:bH K "merged" (top 29) n5 i7)
  (uH:bH K "least_layer" (top 32) n6 i8)
  (uI:bH K "layered" (top 31) n8 i9)
  (uJ:bH K "is_record" (top 35) n9 i_)
  (uK:bH K "since" (top 36) n_ ja)
  (uL:bH K "is_net" (top 38) oj jb)
  (uM:bH K "look_at_net" (top 39) lY gE)
  (uN:bH K "net_of" (top 40) oq jc)
  (CZ:PySem.W.nsIn K mainGlobals "hang_of" = some (some (.ref iw))) (C0:K.lookup iw=some ⟨Ke,Kc,.func (PySem.W.fnOf "hang_of" "hang_of" (aL (top 42)) (aH (top 42)) (ah (top 42)) (.ref o9) rL rM rN rK o8 rO),Kd⟩) (C1:PySem.W.codeIn K o8 "hang_of" = true) (C2:PySem.W.keepIn K (.ref iw)=true)
  (yf:K.lookup o9=some ⟨uu,uv,.seq #[.int 0 jo] wB,uw⟩)
  (C3:PySem.W.nsIn K mainGlobals "hang" = some (some (.ref gC))) (C4:K.lookup gC=some ⟨Kh,Kf,.func (PySem.W.fnOf "hang" "hang" (aL (top 43)) (aH (top 43)) (ah (top 43)) (.ref pe) rQ rR rS rP o_ rT),Kg⟩) (C5:PySem.W.codeIn K o_ "hang" = true) (C6:PySem.W.keepIn K (.ref gC)=true)
  (yg:K.lookup pe=some ⟨CJ,CK,.seq #[.int 0 jq] Fg,CL⟩)
  (uO:bH K "_law_pool" (top 45) ou je)
  (uP:bH K "_law_take" (top 46) oz jf)
  (uQ:bH K "_law_many" (top 47) oA jh)
  (uR:bH K "_law_record" (top 48) oB ji)
  (uS:bH K "_law_odd" (top 51) oE jj)
  (uT:bH K "_law_no_net" (top 52) oF jl)
  (uU:bH K "_law_refused" (top 53) oG jm)
  (uV:bH K "_law_pair" (top 54) oH jn)
  (qu:bH K "law" (top 55) oJ k8)
  (fE:PySem.W.nsIn K mainGlobals "ValueError" = some none)
  (C7:PySem.W.nsIn K mainGlobals "all" = some none)
  (wC:PySem.W.nsIn K mainGlobals "bool" = some none)
  (wD:PySem.W.nsIn K mainGlobals "dict" = some none)
  (gH:PySem.W.nsIn K mainGlobals "enumerate" = some none)
  (C8:PySem.W.nsIn K mainGlobals "int" = some none)
  (fF:PySem.W.nsIn K mainGlobals "isinstance" = some none)
  (C9:PySem.W.nsIn K mainGlobals "len" = some none)
  (wF:PySem.W.nsIn K mainGlobals "list" = some none)
  (C_:PySem.W.nsIn K mainGlobals "max" = some none)
  (Dc:PySem.W.nsIn K mainGlobals "min" = some none)
  (rU:PySem.W.nsIn K mainGlobals "range" = some none)
  (jv:PySem.W.nsIn K mainGlobals "reversed" = some none)
  (pA:PySem.W.nsIn K mainGlobals "sorted" = some none)
  (rV:PySem.W.nsIn K mainGlobals "tuple" = some none)
  (Dd:PySem.W.nsIn K mainGlobals "zip" = some none)
  (gI:PySem.W.nsIn K mainGlobals "MOST_TIES" = some (some (.int 60 ku)))
  (jx:PySem.W.nsIn K mainGlobals "NoLayers" = some (some (.ref aZ)))
  (mF:PySem.W.nsIn K mainGlobals "NoNet" = some (some (.ref aF)))
  (kB:PySem.W.nsIn K mainGlobals "NoPair" = some (some (.ref az)))
  (jy:PySem.W.nsIn K mainGlobals "NoPlaces" = some (some (.ref a_)))
  (pB:PySem.W.nsIn K mainGlobals "NoTies" = some (some (.ref bI)))
  (jz:PySem.W.nsIn K mainGlobals "PlyError" = some (some (.ref br)))
  (fG:PySem.W.excIn K az bmV "ValueError.__new__" = true)
  (gJ:PySem.W.findIn K (.ref az) "__getattribute__" = some (some (.builtin "BaseException.__getattribute__")))
  (gK:PySem.W.findIn K (.ref az) "__getattr__" = some none)
  (gM:PySem.W.findIn K (.ref az) "__class__" = some (some (.builtin "object.__class__")))
  (gO:PySem.W.mroIn K az (.type "BaseException")=some true)
  (gP:PySem.W.mroIn K az (.type "object")=some true)
  (gQ:(PySem.W.clsIn K az).isSome=true)
  (gR:PySem.W.excIn K aF bmV "ValueError.__new__" = true)
  (jA:PySem.W.findIn K (.ref aF) "__getattribute__" = some (some (.builtin "BaseException.__getattribute__")))
  (jB:PySem.W.findIn K (.ref aF) "__getattr__" = some none)
  (jC:PySem.W.findIn K (.ref aF) "__class__" = some (some (.builtin "object.__class__")))
  (jD:PySem.W.mroIn K aF (.type "BaseException")=some true)
  (jE:PySem.W.mroIn K aF (.type "object")=some true)
  (jF:(PySem.W.clsIn K aF).isSome=true)
  (bM:PySem.W.kitOne K (.ref aF) (.type "ValueError")=some true)
  (bL:PySem.W.kitOne K (.ref az) (.type "ValueError")=some true)
  (cV:PySem.W.typeIn K (.ref br)=some (.type "type"))
  (cW:(PySem.W.clsIn K br).isSome=true)
  (cX:PySem.W.mroIn K br (.type "BaseException")=some true)
  (b4:PySem.W.mroIn K aF (.ref br)=some true)
  (bX:PySem.W.mroIn K az (.ref br)=some true)
  (cR:PySem.W.kitOne K (.ref aF) (.ref aF)=some true)
  (cI:PySem.W.kitOne K (.ref aF) (.ref az)=some false)
  (cJ:PySem.W.kitOne K (.ref az) (.ref aF)=some false)
  (cu:PySem.W.kitOne K (.ref az) (.ref az)=some true)
  (aP:PySem.W.kitAny K (.ref aF) (([aZ,a_,bI]:List Addr).map Value.ref)=some false)
  (aN:PySem.W.kitAny K (.ref az) (([aZ,a_,bI]:List Addr).map Value.ref)=some false) :
  ∃ fd:FuncData,(∀ (s:Shared) (v:Value),BindsTo s fd ⟨[v],[]⟩ [("script",v)])∧∀ base:Heap,K.In base→base.Ns mainGlobals mg→aR l.prog w K mg base CX0 11 fa fd ["script"] (spD (nG az aF)):=by
 have e:=hfa.symm.trans (qu.m X G)
 cases e
 have Jo:=CM.F.cD (ps:=["n","ties"]) rfl fun _ _ _ _ _ _ _ _=>rfl
 have Jp:=CN.F.cD (ps:=["steps","heads"]) rfl fun _ _ _ _ _ _ _ _=>rfl
 have Jm:=CO.F.cD (ps:=["steps","heads"]) rfl fun _ _ _ _ _ _ _ _=>rfl
 have E8:=CQ.F.cD (ps:=["steps","a"]) rfl fun _ _ _ _ _ _ _ _=>rfl
 have Jq:=CS.F.cD (ps:=["heads","way"]) rfl fun _ _ _ _ _ _ _ _=>rfl
 have Jr:=CT.F.Bd (ps:=["steps","heads","a","b","count"]) rfl fun _ _ _ _ _ _ _ _ _ _ _=>rfl
 have Ju:=CU.F.Bd (ps:=["n","ties","a","b","most"]) rfl fun _ _ _ _ _ _ _ _ _ _ _=>rfl
 have Js:=CV.F.eK (ps:=["thing"]) rfl fun _ _ _ _ _ _ _=>rfl
 have zy:=CW.F.gu (ps:=["thing","low","high"]) rfl fun _ _ _ _ _ _ _ _ _=>rfl
 have Jt:=CY.F.eK (ps:=["thing"]) rfl fun _ _ _ _ _ _ _=>rfl
 have qq:=ux.F.cD (ps:=["n","thing"]) rfl fun _ _ _ _ _ _ _ _=>rfl
 have xY:=uy.F.eK (ps:=["thing"]) rfl fun _ _ _ _ _ _ _=>rfl
 have B9:=uz.F.eK (ps:=["thing"]) rfl fun _ _ _ _ _ _ _=>rfl
 have B_:=uA.F.cD (ps:=["n","thing"]) rfl fun _ _ _ _ _ _ _ _=>rfl
 have Cf:=uB.F.cD (ps:=["n","thing"]) rfl fun _ _ _ _ _ _ _ _=>rfl
 have Cg:=uC.F.eK (ps:=["things"]) rfl fun _ _ _ _ _ _ _=>rfl
 have xZ:=uD.F.gu (ps:=["n","a","b"]) rfl fun _ _ _ _ _ _ _ _ _=>rfl
 have Cb:=uE.F.eK (ps:=["k"]) rfl fun _ _ _ _ _ _ _=>rfl
 have x_:=uF.F.gu (ps:=["n","a","b"]) rfl fun _ _ _ _ _ _ _ _ _=>rfl
 have Cc:=uG.F.gu (ps:=["groups","a","b"]) rfl fun _ _ _ _ _ _ _ _ _=>rfl
 have Cd:=uH.F.gu (ps:=["layers","a","b"]) rfl fun _ _ _ _ _ _ _ _ _=>rfl
 have x8:=uI.F.gu (ps:=["n","record","k"]) rfl fun _ _ _ _ _ _ _ _ _=>rfl
 have Ci:=uJ.F.cD (ps:=["n","thing"]) rfl fun _ _ _ _ _ _ _ _=>rfl
 have Ck:=uK.F.cD (ps:=["record","t"]) rfl fun _ _ _ _ _ _ _ _=>rfl
 have x9:=uL.F.eK (ps:=["thing"]) rfl fun _ _ _ _ _ _ _=>rfl
 have uh:=uM.F.eK (ps:=["thing"]) rfl fun _ _ _ _ _ _ _=>rfl
 have Cp:=uN.F.gu (ps:=["n","record","k"]) rfl fun _ _ _ _ _ _ _ _ _=>rfl
 have lZ:=xD (st:=top 42) C0 C1 C2
 have ya:Binds K (PySem.W.fnOf "hang_of" "hang_of" (aL (top 42)) (aH (top 42)) (ah (top 42)) (.ref o9) rL rM rN rK o8 rO) ["n","record","a","b","most","t"] []:=fun s us hIn hl=>match us,hl with | [_,_,_,_,_,_],_=>PySem.W.binds_K hIn rfl yf rfl rfl rfl
 have rH:Binds K (PySem.W.fnOf "hang_of" "hang_of" (aL (top 42)) (aH (top 42)) (ah (top 42)) (.ref o9) rL rM rN rK o8 rO) ["n","record","a","b","most","t"] [.int 0 jo]:=fun s us hIn hl=>IM (C:=fun us=>BindsTo s (PySem.W.fnOf "hang_of" "hang_of" (aL (top 42)) (aH (top 42)) (ah (top 42)) (.ref o9) rL rM rN rK o8 rO) ⟨us,[]⟩ ((["n","record","a","b","most","t"]:List Str).zip (us++[.int 0 jo]))) (by simpa using hl) fun _ _ _ _ _=>PySem.W.binds_K hIn rfl yf rfl rfl rfl
 have iy:=xD (st:=top 43) C4 C5 C6
 have Cm:Binds K (PySem.W.fnOf "hang" "hang" (aL (top 43)) (aH (top 43)) (ah (top 43)) (.ref pe) rQ rR rS rP o_ rT) ["net","a","b","t"] []:=fun s us hIn hl=>match us,hl with | [_,_,_,_],_=>PySem.W.binds_K hIn rfl yg rfl rfl rfl
 have k9:Binds K (PySem.W.fnOf "hang" "hang" (aL (top 43)) (aH (top 43)) (ah (top 43)) (.ref pe) rQ rR rS rP o_ rT) ["net","a","b","t"] [.int 0 jq]:=fun s us hIn hl=>IL (C:=fun us=>BindsTo s (PySem.W.fnOf "hang" "hang" (aL (top 43)) (aH (top 43)) (ah (top 43)) (.ref pe) rQ rR rS rP o_ rT) ⟨us,[]⟩ ((["net","a","b","t"]:List Str).zip (us++[.int 0 jq]))) (by simpa using hl) fun _ _ _=>PySem.W.binds_K hIn rfl yg rfl rfl rfl
 have um:=uO.F.cD (ps:=["script","k"]) rfl fun _ _ _ _ _ _ _ _=>rfl
 have dj:=uP.F.cD (ps:=["pool","many"]) rfl fun _ _ _ _ _ _ _ _=>rfl
 have Cq:=uQ.F.eK (ps:=["pool"]) rfl fun _ _ _ _ _ _ _=>rfl
 have Cr:=uR.F.gu (ps:=["pool","n","most"]) rfl fun _ _ _ _ _ _ _ _ _=>rfl
 have Co:=uS.F.eK (ps:=["pool"]) rfl fun _ _ _ _ _ _ _=>rfl
 have Cs:=uT.F.cD (ps:=["pool","net"]) rfl fun _ _ _ _ _ _ _ _=>rfl
 have yc:=uU.F.IP (ps:=["way","n","record","net","a","b"]) rfl fun _ _ _ _ _ _ _ _ _ _ _ _=>rfl
 have Ct:=uV.F.cD (ps:=["pool","n"]) rfl fun _ _ _ _ _ _ _ _=>rfl
 refine ⟨_,fun s v=>qu.NC (fun _ _ _ _ _ _ _=>rfl) s v,fun base Xb _=>?_⟩
 have T:Txt mg K base _ _ _ _ _ _ _ _ _ _ _ _ _ _ _ _ _ _ _ _ _ _ _ _ _ _ _ _ _ _ _ _ _ _ _ _ _ _ _ _ _ _ _ _ _ _ _ _ _ _ _ _ _ _ _ _ _ _ _ _ _ _ _ _ _ _ _ _ _ _ _ _ _ _ _ _ _ _ _ _ _ _ _ _:=⟨mgo X G jx,mgo X G mF,mgo X G kB,mgo X G jy,mgo X G pB,mgo X G jz,sV Xb (mgo X G kB) fG,⟨⟨gJ,gK,gM,gO,gP⟩,gQ⟩,sV Xb (mgo X G mF) gR,⟨⟨jA,jB,jC,jD,jE⟩,jF⟩,bM,bL,⟨cV,cW,cX,b4⟩,⟨cV,cW,cX,bX⟩,cR,cI,cJ,cu,aP,aN,mno X G fE,mno X G C7,mno X G wC,mno X G wD,mno X G gH,mno X G C8,mno X G fF,mno X G C9,mno X G wF,mno X G C_,mno X G Dc,mno X G rU,mno X G jv,mno X G pA,mno X G rV,mno X G Dd,⟨_,mgo X G gI⟩,CM.m X G,CN.m X G,CO.m X G,CQ.m X G,CS.m X G,CT.m X G,CU.m X G,CV.m X G,CW.m X G,CY.m X G,ux.m X G,uy.m X G,uz.m X G,uA.m X G,uB.m X G,uC.m X G,uD.m X G,uE.m X G,uF.m X G,uG.m X G,uH.m X G,uI.m X G,uJ.m X G,uK.m X G,uL.m X G,uM.m X G,uN.m X G,mgo X G CZ,mgo X G C3,uO.m X G,uP.m X G,uQ.m X G,uR.m X G,uS.m X G,uT.m X G,uU.m X G,uV.m X G,qu.m X G,CM.F,CN.F,CO.F,CQ.F,CS.F,Jm,E8,CT.F,Jo,Jp,Jq,Jr,CU.F,CV.F,Js,CW.F,zy,CY.F,ux.F,uy.F,uz.F,qq,B9,uA.F,B_,uB.F,uC.F,uD.F,xY,uE.F,xZ,uF.F,uG.F,uH.F,Cb,Cc,Cd,uI.F,Jt,Cf,Cg,uJ.F,uK.F,x8,Ci,uL.F,x9,uM.F,uN.F,Ju,x_,Ck,lZ,uh,ya,rH,iy,uO.F,uP.F,dj,uQ.F,uR.F,uS.F,uT.F,Cm,k9,uU.F,Co,uV.F,Cp,um,Cq,Cr,Cs,yc,Ct,qu.F⟩
 exact Ka T
theorem walk {aM aX:Nat} {l:PySem.W.OpenLaw} {q:Program} {loose:List Str} {XP:(Str→Option Value)→Heap→Prop} {YP:World→Heap→Prop} {d:DefRec} {K:Params→PySem.W.Frag} (hn:l.most=some 63) (hdf:d.params.defaults=[])
  (hY:∀ (w:World) (h:Heap),YP w h→(K w.params).In h) (M:∀ ns:List Int,ns.length≤63→nG aM aX [.lst (ns.map Dat.int)]=some (.val (.bl true))) (hK:∀ w:World,AF (K w.params)=true)
  (F:∀ (w:World) (mg:Str→Option Value) (fa:Addr) (h:Heap),(K w.params).In h→h.Ns mainGlobals mg→mg d.name=some (.ref fa) →
   ∃ fd:FuncData,(∀ (s:Shared) (u:Value),BindsTo s fd ⟨[u],[]⟩ [("script",u)])∧∀ base:Heap,(K w.params).In base→base.Ns mainGlobals mg→aR l.prog w (K w.params) mg base CX0 11 fa fd ["script"] (spD (nG aM aX))) :
  PySem.W.WalkO q loose XP YP l.row.toRowW d [] (fun f vs=>PySem.call f vs):=
 L2.Du (n:=63) (k:=11) (x := "script") (CX:=fun _=>CX0) (sp:=fun _=>spD (nG aM aX)) hn (by decide) hdf ⟨rfl,by decide,by decide⟩ hY F
  (fun w H a ns hl hO hS=>Ia (M ns hl) (hK w) hS) fun _ _ _ _ _ z=>z
open PySem PySem.W PySem.W.X
theorem De {q:Program} {loose:List Str} {XP:(Str→Option Value)→Heap→Prop} {r:RowW} {d:DefRec} {kwd:List (Str×Expr)} {run:Value→List Value→Sem Value} {K:Params→Frag} {as:List Addr} {n t:Nat} (e:∀ P,as=(K P).map (·.1))
  (W:WalkO q loose XP (fun w h=>(K w.params).In h) r d kwd run):WalkX q loose XP (obsZ as) (valZ K n t) r d kwd run:=
 fun w s₀ s₁ mg mb G y a o pm cd doc dV kV ho hd hcd hD hmg hg args vals as' L=>W w s₀ s₁ mg mb G (InK.keeps w _ _ (z_facts e y).2.1 L.keeps) a o pm cd doc dV kV ho hd hcd hD hmg hg args vals as'
end Q
noncomputable def PySem.W.Fast.tw14422453538637508166:PySem.Program:=PySem.Challenge.pw_sinceply_k27_hangs_refused
theorem PySem.W.Fast.te14422453538637508166:PySem.Challenge.pw_sinceply_k27_hangs_refused=PySem.W.Fast.tw14422453538637508166:=rfl
namespace PySem.W.Fast
def tw4149543496542462762:=0
def tw10678934980074015853:=0
def tw3966773998356947797:=0
def tw9224929026459976229:=0
def tw8078376490133883112:=0
def tw12788713644102373994:=0
def tw6728481432827880804:=0
def tw18021093072518085728:=0
def tw3862598840897658065:=0
def tw10637164052032653792:=0
def tw10997767984392514026:=0
def tw2941923862366025520:=0
def tw1705461588798954788:=0
def tw14307449386795249293:=0
def tw9497067586554557165:=0
def tw4380883089867211775:=0
def tw2959288221697249168:=0
def tw18015038343633729935:=0
def tw15272286232912969857:=0
def tw7595350062270430483:=0
def tw3294372123806204117:=0
def tw5606947293616990616:=0
def tw2059115808092771860:=0
def tw14774804024379488720:=0
def tw12445748046715091710:=0
def tw9669831349378411474:=0
def tw15163825180219191640:=0
def tw1996007537513289677:=0
def tw8500223343554536793:=0
def tw67089962557693170:=0
def tw16421451601248365376:=0
def tw2605520619352294786:=0
def tw9353262759574162343:=0
def tw7136130863525282337:=0
def tw10220099866512178754:=0
def tw11735326878853079675:=0
def tw11879226155425800359:=0
def tw13154354954396332488:=0
def tw5377809549741710125:=0
def tw17462602479832101051:=0
def tw15645216542096683565:=0
def tw5264525349303391058:=0
def tw18078709853622305035:=0
def tw16488250117965467002:=0
def tw17321610195202674736:=0
def tw7027361468724528303:=0
def tw8358236906092400428:=0
def tw9983263817691782857:=0
def tw4616235866994095197:=0
def tw11417825957776807669:=0
def tw14792883528711263922:=0
def tw1742781439273021159:=0
def tw9751422321355142465:=0
def tw10293189477340822248:=0
def tw17380654539060908744:=0
def tw8468205598399759239:=0
def tw6799238512221479300:=0
def tw9925368407432745360:=0
def tw16993445461617962568:=0
def tw2677031008076339396:=0
def tw3886717725542608648:=0
def tw3120877641990346309:=0
def tw10705501207778620492:=0
def tw12167934270327151355:=0
def tw18373083491996021911:=0
def tw757291384187418032:=0
def tw4094997428464511801:=0
def tw1099265213677640716:=0
def tw2004437596231261575:=0
def tw12243003568510190711:=0
def tw12801057109372866072:=0
def tw11637501028848994238:=0
def tw13812149554678405975:=0
def tw15133145517968050628:=0
def tw8538867903483247345:=0
def tw142141928445009144:=0
def tw1079682781770945553:=0
def tw12224915923223118226:=0
def tw7435229648017324924:=0
def tw3106724787735680311:=0
def tw8303723584057636567:=0
def tw10912893320222401274:=0
def tw4531661164164644471:=0
def tw3489443528256503221:=0
def tw11139158986192511485:=0
def tw14218489594537824657:=0
def tw3653780725776113649:=0
def tw6548722895586343490:=0
def tw17644164548009103331:=0
def tw37798044764817980:=0
def tw1194655944319941170:=0
def tw5972967700695161303:=0
def tw15201862396772657230:=0
def tw2630761254122255672:=0
def tw16737257987798468412:=0
def tw2063387234822554820:=0
def tw4422812857666425389:=0
def tw17570567473466735743:=0
def tw11178049429959583791:=0
def tw9451013422830137276:=0
def tw15026654775572522699:=0
def tw10803487229254423055:=0
def tw7893108585368841363:=0
def tw11245225180385731215:=0
def tw3289473648130546483:=0
def tw12954166949724275891:=0
def tw3405207737245868714:=0
def tw17302778021419795272:=0
def tw10422170417920343073:=0
def tw6362566115845609851:=0
def tw3876027583480883063:=0
def tw8339734649476936554:=0
def tw2342952547407544017:=0
def tw8444874381738923156:=0
def tw4383849068710037095:=0
def tw3687829240910677:=0
def tw7994651724350926147:=0
def tw6612587670372778753:=0
def tw4178771723382046439:=0
def tw17006347888814966311:=0
def tw755765095250895954:=0
def tw7506405647480975973:=0
def tw6495580171859367944:=0
def tw789363549890826301:=0
def tw11121287897585496783:=0
def tw7474216554301968361:=0
def tw5182738658955747102:=0
def tw578403664133731501:=0
def tw8335536734139739615:=0
def tw8875970277475166059:=0
def tw14115241897560499884:=0
def tw12162217502120336304:=0
def tw579713253252025016:=0
def tw11371015988102780294:=0
def tw16372804244122355403:=0
def tw9002998150332245514:=0
def tw3679654300419967123:=0
def tw4241411544127479865:=0
def tw17625107090059233220:=0
def tw8715675540341233516:=0
def tw16224199516966679456:=0
def tw17326982494846892451:=0
def tw8460466524976082129:=0
def tw9637670122204977736:=0
def tw10894637699704591261:=0
def tw3461329677651784903:=0
def tw14277760130917801809:=0
def tw6116166930240991039:=0
def tw16651153625046126228:=0
def tw14898124639209901166:=0
def tw3023928354669264898:=0
def tw2443596589174954652:=0
def tw2665728793790363897:=0
def tw15929860727708170891:=0
def tw1003494166542831046:=0
def tw15244440585769658477:=0
def tw3907686069976539869:=0
def tw394086145052956214:=0
def tw12533102872464847100:=0
def tw14360008388137524064:=0
def tw2567473921512425701:=0
def tw15427553569678336954:=0
def tw15935113790548676537:=0
def tw216884058655003525:=0
def tw14010086364895054861:=0
def tw6779330070846473359:=0
def tw16647506999637649493:=0
def tw14694116756496828171:=0
def tw4184632068237062812:=0
def tw8548083880827954643:=0
def tw10891874361849482604:=0
def tw4012647742001154722:=0
def tw381699219203547121:=0
def tw5076656821913731127:=0
def tw17072006866785786355:=0
def tw1285289079775150856:=0
def tw10714175069642496096:=0
def tw1368325169080830798:=0
def tw7470928616589149866:=0
def tw6236736743130983176:=0
def tw1518779145655811221:=0
def tw9809723807045589275:=0
def tw11391957873886312573:=0
def tw1747040261313467399:=0
def tw8652286097465929579:=0
def tw111129997284908581:=0
def tw17023977082085980715:=0
def tw4490437262037912415:=0
def tw5250621142470247486:=0
def tw11126146101688616597:=0
def tw7351179855976012460:=0
def tw10965447611265918876:=0
def tw4504170476706840130:=0
def tw805364528055335848:=0
def tw17610408019372354210:=0
def tw12486767006516478053:=0
def tw931416489292594543:=0
def tw17631298558665589370:=0
def tw5364679411651405964:=0
def tw13521025091950713581:=0
def tw5642787901295113515:=0
def tw13118436101746852019:=0
def tw17758506559758754948:=0
def tw6270384791368400238:=0
def tw9814336642715547748:=0
def tw13467724036394638410:=0
def tw13139663984072943683:=0
def tw333050295071594980:=0
def tw8353383677661113305:=0
def tw2257616252830365958:=0
def tw16806761586832206140:=0
def tw9084956488620909121:=0
def tw7139619740121471936:=0
def tw5627209536489283229:=0
def tw7232672045165560996:=0
def tw6055590462809352536:=0
def tw321943467776172225:=0
def tw1717889877947613394:=0
def tw3705232463625503831:=0
def tw9734439523186753874:=0
def tw5643213544530082405:=0
def tw9190777154482181136:=0
def tw16922257140733739421:=0
def tw498993743709682266:=0
def tw7237281595301555388:=0
def tw16880633905342629181:=0
def tw15388478572772114715:=0
def tw5618142951367929500:=0
def tw15883840014618470962:=0
def tw16098396136625532965:=0
def tw10023012034262931491:=0
def tw3030417195391898219:=0
def tw8198271441600571782:=0
def tw15837521552604794044:=0
def tw12551878118968666484:=0
def tw13548839161838334034:=0
def tw950927480445337768:=0
def tw13080074985913112902:=0
def tw5752680059630049115:=0
def tw5139337127947629593:=0
def tw12698775641281058725:=0
def tw7043115493444310406:=0
def tw9948676162071675928:=0
def tw12910892885369240896:=0
def tw2704674187703234056:=0
def tw4331548045332408582:=0
def tw9553165496699838086:=0
def tw17130420768443640910:=0
def tw9914588529193080565:=0
def tw6039703779622031048:=0
def tw6055485351485137236:=0
def tw13940370232489728892:=0
def tw3319126041812299389:=0
def tw3826290088236999850:=0
def tw5413431169159251060:=0
def tw8113600202234965697:=0
def tw15468859511959220370:=0
def tw1145547237901950286:=0
def tw9109779344334399332:=0
def tw11847829361881929265:=0
def tw6439538318261880684:=0
def tw13299935278449413303:=0
def tw16138472978238034812:=0
def tw14215543616274171905:=0
def tw9165068411523601384:=0
def tw7702902303913874918:=0
def tw4525712331779266350:=0
def tw13521947775948666336:=0
def tw9985258322693453358:=0
def tw3737615458522300292:=0
def tw783304472054973548:=0
def tw7338867682949636415:=0
def tw7829840660128543848:=0
def tw7901954150952055445:=0
def tw12845710490875346034:=0
def tw17699505536289430226:=0
def tw13325793958226091474:=0
def tw8596568157230701848:=0
def tw5493271298831463119:=0
def tw699062403368828906:=0
def tw15748113147148779816:=0
def tw15042741196031309214:=0
def tw4795544850084791622:=0
def tw9410075436482160264:=0
def tw17087680811129942539:=0
def tw1066553509790547676:=0
def tw3628007406359098050:=0
def tw17789872826341361166:=0
def tw18356807137943416711:=0
def tw13876537170146045045:=0
def tw8997981401563299705:=0
def tw6994833985275634934:=0
def tw9336548455490850338:=0
def tw8981352213202613597:=0
def tw12103353767452031462:=0
def tw9805575431301568777:=0
def tw6521413458980802305:=0
def tw13086009200960794683:=0
def tw5562031240833394998:=0
def tw15794809168110385599:=0
def tw13548163029668275583:=0
def tw3699280918276065257:=0
def tw8385458112777317462:=0
def tw5595782292133946563:=0
def tw8543687992390577918:=0
def tw10873223831199999744:=0
def tw17143459641440622459:=0
def tw14128847384665387378:=0
def tw16098226960802627668:=0
def tw16490371188113743258:=0
def tw133443779801974955:=0
def tw6023859283155711181:=0
def tw10938923822858765780:=0
def tw9621173259395308706:=0
def tw17742817252484524771:=0
def tw9790509252965936930:=0
def tw3164828860181794573:=0
def tw15496074023962464674:=0
def tw14593415658631479396:=0
def tw9608663624866611668:=0
def tw9357811244038608365:=0
def tw15338218903566035676:=0
def tw2231502352456591107:=0
def tw15530360647898751374:=0
def tw17514451472803293582:=0
def tw8521701598099772217:=0
def tw4072698262798850977:=0
end PySem.W.Fast
open PySem PySem.W PyProof.Rows
set_option maxRecDepth 100000 in
set_option maxHeartbeats 0 in
theorem PySem.Challenge.cw_sinceply_k27_hangs_refused_holds : PySem.Challenge.rw_sinceply_k27_hangs_refused.Holds := by
 w_on;o_law;z_head;(case hw=>w_witness2)
 k_fill
 refine' Q.De (fun _=>rfl) (Q.walk (l:=PySem.Challenge.rw_sinceply_k27_hangs_refused) rfl rfl (fun w h Y=>Y) (P.math _ _ ?ne) ?noL ?fnS)
 case noL=>intro w;rfl
 case fnS=>
  intro w mg fa h KX G hmg
  refine' Q.all_mk KX G hmg ?CM ?CN ?CO ?CQ ?CS ?CT ?CU ?CV ?CW ?CY ?ux ?uy ?uz ?uA ?uB ?uC ?uD ?uE ?uF ?uG ?uH ?uI ?uJ ?uK ?uL ?uM ?uN ?CZ ?C0 ?C1 ?C2 ?yf ?C3 ?C4 ?C5 ?C6 ?yg ?uO ?uP ?uQ ?uR ?uS ?uT ?uU ?uV ?qu ?fE ?C7 ?wC ?wD ?gH ?C8 ?fF ?C9 ?wF ?C_ ?Dc ?rU ?jv ?pA ?rV ?Dd ?gI ?jx ?mF ?kB ?jy ?pB ?jz ?fG ?gJ ?gK ?gM ?gO ?gP ?gQ ?gR ?jA ?jB ?jC ?jD ?jE ?jF ?bM ?bL ?cV ?cW ?cX ?b4 ?bX ?cR ?cI ?cJ ?cu ?aP ?aN
  (case CM=>refine' Br.aJ ?e ?l ?c ?k;(case e=>k_is);(case l=>k_is);(case c=>k_is);(case k=>k_is))
  (case CN=>refine' Br.aJ ?e ?l ?c ?k;(case e=>k_is);(case l=>k_is);(case c=>k_is);(case k=>k_is))
  (case CO=>refine' Br.aJ ?e ?l ?c ?k;(case e=>k_is);(case l=>k_is);(case c=>k_is);(case k=>k_is))
  (case CQ=>refine' Br.aJ ?e ?l ?c ?k;(case e=>k_is);(case l=>k_is);(case c=>k_is);(case k=>k_is))
  (case CS=>refine' Br.aJ ?e ?l ?c ?k;(case e=>k_is);(case l=>k_is);(case c=>k_is);(case k=>k_is))
  (case CT=>refine' Br.aJ ?e ?l ?c ?k;(case e=>k_is);(case l=>k_is);(case c=>k_is);(case k=>k_is))
  (case CU=>refine' Br.aJ ?e ?l ?c ?k;(case e=>k_is);(case l=>k_is);(case c=>k_is);(case k=>k_is))
  (case CV=>refine' Br.aJ ?e ?l ?c ?k;(case e=>k_is);(case l=>k_is);(case c=>k_is);(case k=>k_is))
  (case CW=>refine' Br.aJ ?e ?l ?c ?k;(case e=>k_is);(case l=>k_is);(case c=>k_is);(case k=>k_is))
  (case CY=>refine' Br.aJ ?e ?l ?c ?k;(case e=>k_is);(case l=>k_is);(case c=>k_is);(case k=>k_is))
  (case ux=>refine' Br.aJ ?e ?l ?c ?k;(case e=>k_is);(case l=>k_is);(case c=>k_is);(case k=>k_is))
  (case uy=>refine' Br.aJ ?e ?l ?c ?k;(case e=>k_is);(case l=>k_is);(case c=>k_is);(case k=>k_is))
  (case uz=>refine' Br.aJ ?e ?l ?c ?k;(case e=>k_is);(case l=>k_is);(case c=>k_is);(case k=>k_is))
  (case uA=>refine' Br.aJ ?e ?l ?c ?k;(case e=>k_is);(case l=>k_is);(case c=>k_is);(case k=>k_is))
  (case uB=>refine' Br.aJ ?e ?l ?c ?k;(case e=>k_is);(case l=>k_is);(case c=>k_is);(case k=>k_is))
  (case uC=>refine' Br.aJ ?e ?l ?c ?k;(case e=>k_is);(case l=>k_is);(case c=>k_is);(case k=>k_is))
  (case uD=>refine' Br.aJ ?e ?l ?c ?k;(case e=>k_is);(case l=>k_is);(case c=>k_is);(case k=>k_is))
  (case uE=>refine' Br.aJ ?e ?l ?c ?k;(case e=>k_is);(case l=>k_is);(case c=>k_is);(case k=>k_is))
  (case uF=>refine' Br.aJ ?e ?l ?c ?k;(case e=>k_is);(case l=>k_is);(case c=>k_is);(case k=>k_is))
  (case uG=>refine' Br.aJ ?e ?l ?c ?k;(case e=>k_is);(case l=>k_is);(case c=>k_is);(case k=>k_is))
  (case uH=>refine' Br.aJ ?e ?l ?c ?k;(case e=>k_is);(case l=>k_is);(case c=>k_is);(case k=>k_is))
  (case uI=>refine' Br.aJ ?e ?l ?c ?k;(case e=>k_is);(case l=>k_is);(case c=>k_is);(case k=>k_is))
  (case uJ=>refine' Br.aJ ?e ?l ?c ?k;(case e=>k_is);(case l=>k_is);(case c=>k_is);(case k=>k_is))
  (case uK=>refine' Br.aJ ?e ?l ?c ?k;(case e=>k_is);(case l=>k_is);(case c=>k_is);(case k=>k_is))
  (case uL=>refine' Br.aJ ?e ?l ?c ?k;(case e=>k_is);(case l=>k_is);(case c=>k_is);(case k=>k_is))
  (case uM=>refine' Br.aJ ?e ?l ?c ?k;(case e=>k_is);(case l=>k_is);(case c=>k_is);(case k=>k_is))
  (case uN=>refine' Br.aJ ?e ?l ?c ?k;(case e=>k_is);(case l=>k_is);(case c=>k_is);(case k=>k_is))
  (case CZ=>k_is)
  (case C0=>k_is)
  (case C1=>k_is)
  (case C2=>k_is)
  (case yf=>k_is)
  (case C3=>k_is)
  (case C4=>k_is)
  (case C5=>k_is)
  (case C6=>k_is)
  (case yg=>k_is)
  (case uO=>refine' Br.aJ ?e ?l ?c ?k;(case e=>k_is);(case l=>k_is);(case c=>k_is);(case k=>k_is))
  (case uP=>refine' Br.aJ ?e ?l ?c ?k;(case e=>k_is);(case l=>k_is);(case c=>k_is);(case k=>k_is))
  (case uQ=>refine' Br.aJ ?e ?l ?c ?k;(case e=>k_is);(case l=>k_is);(case c=>k_is);(case k=>k_is))
  (case uR=>refine' Br.aJ ?e ?l ?c ?k;(case e=>k_is);(case l=>k_is);(case c=>k_is);(case k=>k_is))
  (case uS=>refine' Br.aJ ?e ?l ?c ?k;(case e=>k_is);(case l=>k_is);(case c=>k_is);(case k=>k_is))
  (case uT=>refine' Br.aJ ?e ?l ?c ?k;(case e=>k_is);(case l=>k_is);(case c=>k_is);(case k=>k_is))
  (case uU=>refine' Br.aJ ?e ?l ?c ?k;(case e=>k_is);(case l=>k_is);(case c=>k_is);(case k=>k_is))
  (case uV=>refine' Br.aJ ?e ?l ?c ?k;(case e=>k_is);(case l=>k_is);(case c=>k_is);(case k=>k_is))
  (case qu=>refine' Br.aJ ?e ?l ?c ?k;(case e=>k_is);(case l=>k_is);(case c=>k_is);(case k=>k_is))
  (case fE=>k_is)
  (case C7=>k_is)
  (case wC=>k_is)
  (case wD=>k_is)
  (case gH=>k_is)
  (case C8=>k_is)
  (case fF=>k_is)
  (case C9=>k_is)
  (case wF=>k_is)
  (case C_=>k_is)
  (case Dc=>k_is)
  (case rU=>k_is)
  (case jv=>k_is)
  (case pA=>k_is)
  (case rV=>k_is)
  (case Dd=>k_is)
  (case gI=>k_is)
  (case jx=>k_is)
  (case mF=>k_is)
  (case kB=>k_is)
  (case jy=>k_is)
  (case pB=>k_is)
  (case jz=>k_is)
  (case fG=>first | k_is | kit_is | kernel_rfl)
  (case gJ=>first | k_is | kit_is | kernel_rfl)
  (case gK=>first | k_is | kit_is | kernel_rfl)
  (case gM=>first | k_is | kit_is | kernel_rfl)
  (case gO=>first | k_is | kit_is | kernel_rfl)
  (case gP=>first | k_is | kit_is | kernel_rfl)
  (case gQ=>first | k_is | kit_is | kernel_rfl)
  (case gR=>first | k_is | kit_is | kernel_rfl)
  (case jA=>first | k_is | kit_is | kernel_rfl)
  (case jB=>first | k_is | kit_is | kernel_rfl)
  (case jC=>first | k_is | kit_is | kernel_rfl)
  (case jD=>first | k_is | kit_is | kernel_rfl)
  (case jE=>first | k_is | kit_is | kernel_rfl)
  (case jF=>first | k_is | kit_is | kernel_rfl)
  (case bM=>first | k_is | kit_is | kernel_rfl)
  (case bL=>first | k_is | kit_is | kernel_rfl)
  (case cV=>first | k_is | kit_is | kernel_rfl)
  (case cW=>first | k_is | kit_is | kernel_rfl)
  (case cX=>first | k_is | kit_is | kernel_rfl)
  (case b4=>first | k_is | kit_is | kernel_rfl)
  (case bX=>first | k_is | kit_is | kernel_rfl)
  (case cR=>first | k_is | kit_is | kernel_rfl)
  (case cI=>first | k_is | kit_is | kernel_rfl)
  (case cJ=>first | k_is | kit_is | kernel_rfl)
  (case cu=>first | k_is | kit_is | kernel_rfl)
  (case aP=>first | k_is | kit_is | kernel_rfl)
  (case aN=>first | k_is | kit_is | kernel_rfl)
 case ne=>decide
end
