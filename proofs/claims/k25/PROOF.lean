import PyProof.Rows.All
import Wide.All
import OpenK.AllK
import Wide.FinOn
import Lean
import PyProof.EqAt
import PyProof.EqKinds
import PyProof.TupleCall
import KE.KRevIter
import PyProof.EnumMake
import PyProof.EnumFor
import PyProof.ListRange
import PyProof.Rows.Range3
import PyProof.ZipIter
import PyProof.SumWalk
import PyProof.WalksMore
import PyProof.Rows.SetFrom
import PyProof.SetRoads
import PyProof.Rows.SortRunsK
import PyProof.Rows.SortWalk
import KE.KSortTup
import PyProof.Rows.Own
import PyProof.StationsW
import OpenK.KRaise
import KE.KIsAll
import PyProof.ExcArgsOwn
import PyProof.RulesAs
import PyProof.Ns1
import PyProof.Rows.Catch
import OpenK.KOwn
import PyProof.ExcBaseAll.ValueError
import KE.KDictSum
import PyProof.AttrMiss
import PyProof.IsiH_list
import KE.KDictOf
import PyProof.DictList
import KE.KDictList
import PyProof.FactsAll.set
import PyProof.Rows.TupAdd
import KE.KDictMeth
import PyProof.DictWalks
import PyProof.TupleKey
import PyProof.DictStraight
import PyProof.IsRules
import KE.KRevSl
import PySem.Challenge.RW_sinceply_k25_hangs_told
noncomputable section
set_option Elab.async false
set_option linter.all false

set_option maxRecDepth 100000
namespace L2
open PySem PySem.Spec PyProof.Rows
noncomputable abbrev Key:=Sum Int Str
noncomputable def nP:Key→Value→Bool
 | .inl k,v=>Value.isInt k v
 | .inr x,v=>Value.isStrOf x v
noncomputable def Lh (w:World):Key→Int
 | .inl k=>hashInt k
 | .inr x=>hashStr w x
theorem bg:∀ {k:Key} {v:Value},nP k v=true→(∃ i t,k=Sum.inl i∧v=Value.int i t)∨(∃ x t,k=Sum.inr x∧v=Value.str x t)
 | .inl i,v,h=>by
  obtain ⟨t,e⟩:=Value.isInt_shape (k:=i) (v:=v) h
  exact .inl ⟨i,t,rfl,e⟩
 | .inr x,v,h=>by
  obtain ⟨t,e⟩:=Value.isStrOf_shape (x:=x) (v:=v) h
  exact .inr ⟨x,t,rfl,e⟩
theorem wX (i:Int) (t:Tok):nP (.inl i) (.int i t)=true:=by simp [nP,Value.isInt]
theorem wY (x:Str) (t:Tok):nP (.inr x) (.str x t)=true:=by simp [nP,Value.isStrOf]
theorem F1 (a b:Int):decide ((Sum.inl a:Key)=Sum.inl b)=(a == b):=by
 by_cases e:a=b
 ·subst e;simp
 ·have h:¬ (Sum.inl a:Key)=Sum.inl b:=fun q=>e (Sum.inl.inj q)
  rw [decide_eq_false h]
  exact (beq_eq_false_iff_ne.mpr e).symm
theorem F2 (a b:Str):decide ((Sum.inr a:Key)=Sum.inr b)=decide (a=b):=by
 by_cases e:a=b
 ·subst e;simp
 ·have h:¬ (Sum.inr a:Key)=Sum.inr b:=fun q=>e (Sum.inr.inj q)
  rw [decide_eq_false h,decide_eq_false e]
theorem F3 (a:Int) (b:Str):decide ((Sum.inl a:Key)=Sum.inr b)=false:=decide_eq_false (fun q=>nomatch q)
theorem F4 (a:Str) (b:Int):decide ((Sum.inr a:Key)=Sum.inl b)=false:=decide_eq_false (fun q=>nomatch q)
noncomputable def aS (prog:Program) (w:World):PySem.KeyKind prog w Key where
 is:=nP
 hash:=Lh w
 inj:=fun v a b ha hb=>by
  rcases bg ha with ⟨i,t,rfl,rfl⟩ | ⟨x,t,rfl,rfl⟩
  ·rcases bg hb with ⟨j,u,rfl,e⟩ | ⟨y,u,rfl,e⟩
   ·injection e with e1 _;rw [e1]
   ·exact nomatch e
  ·rcases bg hb with ⟨j,u,rfl,e⟩ | ⟨y,u,rfl,e⟩
   ·exact nomatch e
   ·injection e with e1 _;rw [e1]
 byValue:=fun k v h=>by
  rcases bg h with ⟨i,t,rfl,rfl⟩ | ⟨x,t,rfl,rfl⟩<;>rfl
 pyHash:=fun hv h=>by
  rcases bg hv with ⟨i,t,rfl,rfl⟩ | ⟨x,t,rfl,rfl⟩
  ·exact wpAny_pyHash_int h
  ·exact wpAny_pyHash_str h
 eqBool:=fun hu hv h=>by
  rcases bg hu with ⟨i,t,rfl,rfl⟩ | ⟨x,t,rfl,rfl⟩
  ·rcases bg hv with ⟨j,u,rfl,rfl⟩ | ⟨y,u,rfl,rfl⟩
   ·rw [F1] at h;exact wpAny_eqBool_int h
   ·rw [F3] at h;exact SeqAt.EqAt.int_str i t y u _ _ _ _ h
  ·rcases bg hv with ⟨j,u,rfl,rfl⟩ | ⟨y,u,rfl,rfl⟩
   ·rw [F4] at h;exact SeqAt.EqAt.str_int x t j u _ _ _ _ h
   ·rw [F2] at h;exact wpAny_eqBool_str h
 «strs»:=fun k x t v h=>by
  rcases bg h with ⟨i,u,rfl,e⟩ | ⟨y,u,rfl,e⟩
  ·exact nomatch e
  ·injection e with e1 _
   subst e1
   cases v<;>rfl
theorem qx (prog:Program) (w:World) (i:Int) (t:Tok):(aS prog w).is (.inl i) (.int i t)=true:=wX i t
theorem qy (prog:Program) (w:World) (x:Str) (t:Tok):(aS prog w).is (.inr x) (.str x t)=true:=wY x t
inductive V where
 | non | bl (b:Bool) | int (i:Int) | str (x:Str) | byt (b:Array UInt8) | flt (b:UInt64) | ref (a:Addr) | ty (n:String)
 deriving DecidableEq
noncomputable def RelV:V→Value→Prop
 | .non,u=>u=Value.none
 | .bl b,u=>u=Value.bool b
 | .int i,u=>∃ t,u=Value.int i t
 | .str x,u=>∃ t,u=Value.str x t
 | .byt b,u=>∃ t,u=Value.bytes b t
 | .flt b,u=>∃ t,u=Value.float b t
 | .ref a,u=>u=Value.ref a
 | .ty n,u=>u=Value.type n
noncomputable abbrev Vals:List V→List Value→Prop:=Paired RelV
theorem Vals.length {xs:List V} {us:List Value} (r:Vals xs us):xs.length=us.length:=Paired.length r
theorem Vals.get:∀ {xs:List V} {us:List Value} {i:Nat} {x:V},Vals xs us→xs[i]?=some x→∃ u,us[i]?=some u∧RelV x u
 | _,_,_,_,.nil,e=>by simp at e
 | _,_,0,_,.cons r _,e=>by simp at e;subst e;exact ⟨_,rfl,r⟩
 | _,_,i+1,x,.cons _ t,e=>by
  obtain ⟨u,h1,h2⟩:=Vals.get (i:=i) (x:=x) t (by simpa using e)
  exact ⟨u,by simpa using h1,h2⟩
theorem Vals.set {x:V} {u:Value} (r:RelV x u):∀ {xs:List V} {us:List Value} (i:Nat),Vals xs us→Vals (xs.set i x) (us.set i u)
 | _,_,_,.nil=>.nil
 | _,_,0,.cons _ t=>.cons r t
 | _,_,i+1,.cons q t=>.cons q (Vals.set r i t)
theorem Vals.append:∀ {xs ys:List V} {us ws:List Value},Vals xs us→Vals ys ws→Vals (xs++ys) (us++ws)
 | _,_,_,_,.nil,s=>s
 | _,_,_,_,.cons r t,s=>.cons r (Vals.append t s)
noncomputable def iK:Option V→Option Value→Prop
 | some v,some u=>RelV v u
 | none,none=>True
 | _,_=>False
noncomputable def KV {κ:Type}:List (κ×V)→List (κ×Value)→Prop:=Paired fun (p:κ×V) (q:κ×Value)=>p.1=q.1∧RelV p.2 q.2
noncomputable def kV:Key→V
 | .inl i=>.int i
 | .inr x=>.str x
inductive HO where
 | lst (xs:List V)
 | tup (xs:List V)
 | dK (kvs:List (Key×V)) | dT (kvs:List (List Key×V))
 | set (S:Int→Bool) (n:Nat)
 | ins (C dx:Addr) (fs:List (Str×V))
 | own (x:Addr)
 | xd (fs:List (Str×V))
 | met (f x:Addr)
 | rng (lo hi:Int)
 | frz (o:Obj) (u:HO)
 | tbl (ps:Array Value)
 | ext (φ:Heap→Prop)
noncomputable abbrev Hp:=Addr→Option HO
noncomputable def upd (H:Hp) (a:Addr) (o:HO):Hp:=fun b=>if b=a then some o else H b
theorem au {H:Hp} {a:Addr} {o:HO}:upd H a o a=some o:=by unfold upd;rw [if_pos rfl]
theorem aq {H:Hp} {a b:Addr} {o:HO} (h:b≠a):upd H a o b=H b:=by unfold upd;rw [if_neg h]
theorem I0 {H:Hp} {a b:Addr} {o u:HO} (h:H a=some o) (h':H b=some u) (d:o≠u):a≠b:=by
 intro e;subst e;rw [h] at h';exact d (Option.some.inj h')
theorem aM {H:Hp} {a b:Addr} {o:HO} (h:H a=some o) (h':H b=none):a≠b:=by
 intro e;subst e;rw [h] at h';cases h'
section
variable (P:Program) (w:World)
noncomputable def aX (H:Hp) (h:Heap) (a:Addr):HO→Prop
 | .lst xs=>xs.length≤sizeLine∧∃ (its:List Value) (n:Nat),Vals xs its∧h.get? a=some { cls:=.type "list",data:=.seq its.toArray n }
 | .tup xs=>xs.length≤sizeLine∧∃ its:List Value,Vals xs its∧IsTup h a its.toArray
 | .dK kvs=>kvs.length≤sizeLine∧(a == sysModules)=false∧∃ vs,KV kvs vs∧h.DictOf (aS P w) a vs
 | .dT kvs=>kvs.length≤sizeLine∧(a == sysModules)=false∧∃ xs:List (List Key×Addr×Value),
   Paired (fun (p:List Key×V) (q:List Key×Addr×Value)=>p.1=q.1∧H q.2.1=some (.tup (p.1.map kV))∧RelV p.2 q.2.2) kvs xs ∧
   ∃ o es ep,h.get? a=some o∧o.ExactDict∧o.data=.dict es ep∧es.toList=xs.map (entryOfKey (tupleKind (aS P w)))∧(xs.map (·.1)).Nodup
 | .set S n=>h.SetOf (intKind P w) a S n
 | .ins C dx fs=>H dx=some (.own a)∧fs.length≤1000∧dx≠a∧h.get? a=some (PySem.W.instObj C dx) ∧
   ∃ mA,h.Ns1 dx mA∧(∀ f,iK (fs.lookup f) (mA f))∧PySem.Within mA (fs.map (·.1))
 | .own _=>∃ o,h.get? a=some o
 | .xd fs=>∃ mA,h.Ns1 a mA∧∀ f,iK (fs.lookup f) (mA f)
 | .rng lo hi=>∃ t u v,h.get? a=some { cls:=.type "range",data:=.fields #[.int lo t,.int hi u,.int 1 v] }
 | .frz o u=>h.get? a=some o∧aX H h a u
 | .tbl ps=>h.get? a=some { cls:=.none,data:=.fields ps }
 | .met f x=>h.get? a=some (PySem.W.methodObj (.ref f) (.ref x))
 | .ext φ=>φ h∧(∃ o,h.get? a=some o)∧∀ h1 h2:Heap,φ h1→(∀ o,h1.get? a=some o→h2.get? a=some o)→φ h2
noncomputable def HOk (H:Hp) (h:Heap):Prop:=∀ a o,H a=some o→aX P w H h a o
end
section
variable {P:Program} {w:World} {H H':Hp} {h h':Heap} {a:Addr} {o:HO}
theorem aX.lt (x:aX P w H h a o):a<h.objs.size:=by
 cases o with
 | lst xs=>obtain ⟨_,_,_,_,e⟩:=x;exact Heap.lt_size e
 | tup xs=>obtain ⟨_,_,_,p⟩:=x;exact p.lt
 | dK kvs=>obtain ⟨_,_,_,_,o,_,_,e,_⟩:=x;exact Heap.lt_size e
 | dT kvs=>obtain ⟨_,_,_,_,o,_,_,e,_⟩:=x;exact Heap.lt_size e
 | set S n=>obtain ⟨o,_,_,_,e,_⟩:=x;exact Heap.lt_size e
 | ins C dx fs=>obtain ⟨_,_,_,e,_⟩:=x;exact Heap.lt_size e
 | own y=>obtain ⟨_,e⟩:=x;exact Heap.lt_size e
 | xd fs=>obtain ⟨_,⟨_,_,_,e,_⟩,_⟩:=x;exact Heap.lt_size e
 | rng lo hi=>obtain ⟨_,_,_,e⟩:=x;exact Heap.lt_size e
 | frz ob u=>obtain ⟨e,_⟩:=x;exact Heap.lt_size e
 | tbl ps=>exact Heap.lt_size (show h.get? a=some _ from x)
 | met f y=>exact Heap.lt_size (show h.get? a=some _ from x)
 | ext φ=>obtain ⟨_,⟨_,e⟩,_⟩:=x;exact Heap.lt_size e
theorem Paired.F5 {α β:Type} {F G:α→β→Prop}:∀ {l₁:List α} {l₂:List β},Paired F l₁ l₂→(∀ a b,F a b→G a b)→Paired G l₁ l₂
 | _,_,.nil,_=>.nil
 | _,_,.cons r t,f=>.cons (f _ _ r) (Paired.F5 t f)
theorem aX.stay (x:aX P w H h a o) (k:∀ b u,(b=a∨H b=some (.own a))→h.get? b=some u→h'.get? b=some u)
  (ho:∀ b,H b=some (.own a)→H' b=some (.own a)) (ht:∀ b xs,H b=some (.tup xs)→H' b=some (.tup xs)):aX P w H' h' a o:=by
 induction o with
 | lst xs=>obtain ⟨z,its,n,r,e⟩:=x;exact ⟨z,its,n,r,k _ _ (.inl rfl) e⟩
 | tup xs=>obtain ⟨z,its,r,ob,e,c⟩:=x;exact ⟨z,its,r,ob,k _ _ (.inl rfl) e,c⟩
 | dK kvs=>obtain ⟨z,y,vs,r,ob,es,ep,e,c⟩:=x;exact ⟨z,y,vs,r,ob,es,ep,k _ _ (.inl rfl) e,c⟩
 | dT kvs=>
  obtain ⟨z,y,xs,r,ob,es,ep,e,c⟩:=x
  exact ⟨z,y,xs,Paired.F5 r fun p q z=>⟨z.1,ht _ _ z.2.1,z.2.2⟩,ob,es,ep,k _ _ (.inl rfl) e,c⟩
 | set S n=>obtain ⟨ob,es,ep,t,e,c⟩:=x;exact ⟨ob,es,ep,t,k _ _ (.inl rfl) e,c⟩
 | ins C dx fs=>
  obtain ⟨d,z,ne,e,mA,⟨od,es,ep,e2,c⟩,r⟩:=x
  exact ⟨ho _ d,z,ne,k _ _ (.inl rfl) e,mA,⟨od,es,ep,k _ _ (.inr d) e2,c⟩,r⟩
 | own y=>obtain ⟨ob,e⟩:=x;exact ⟨ob,k _ _ (.inl rfl) e⟩
 | xd fs=>obtain ⟨mA,⟨od,es,ep,e,c⟩,r⟩:=x;exact ⟨mA,⟨od,es,ep,k _ _ (.inl rfl) e,c⟩,r⟩
 | rng lo hi=>obtain ⟨t,u,v,e⟩:=x;exact ⟨t,u,v,k _ _ (.inl rfl) e⟩
 | frz ob u ih=>obtain ⟨e,q⟩:=x;exact ⟨k _ _ (.inl rfl) e,ih q⟩
 | tbl ps=>
  have e:h.get? a=some { cls:=.none,data:=.fields ps }:=x
  show h'.get? a=some { cls:=.none,data:=.fields ps }
  exact k a _ (.inl rfl) e
 | met f y=>
  have e:h.get? a=some (PySem.W.methodObj (.ref f) (.ref y)):=x
  show h'.get? a=some (PySem.W.methodObj (.ref f) (.ref y))
  exact k a _ (.inl rfl) e
 | ext φ=>obtain ⟨p,⟨o,e⟩,st⟩:=x;exact ⟨st _ _ p fun o q=>k _ _ (.inl rfl) q,⟨o,k _ _ (.inl rfl) e⟩,st⟩
theorem HOk.lt (x:HOk P w H h) (e:H a=some o):a<h.objs.size:=(x a o e).lt
theorem HOk.fresh (x:HOk P w H h) (e:h.objs.size≤a):H a=none:=by
 cases q:H a with
 | none=>rfl
 | some u=>exact absurd (Nat.lt_of_lt_of_le (x.lt q) e) (Nat.lt_irrefl _)
theorem HOk.kept (x:HOk P w H h) (k:∀ b u,h.get? b=some u→h'.get? b=some u):HOk P w H h':=fun a o e=>
 (x a o e).stay (fun b u _ q=>k b u q) (fun _ q=>q) fun _ _ q=>q
theorem HOk.laid (x:HOk P w H h) (k:∀ b u,h.get? b=some u→h'.get? b=some u) (hp:h.objs.size≤a) (new:aX P w (upd H a o) h' a o):HOk P w (upd H a o) h':=fun b u e=>by
 have hn:=x.fresh hp
 by_cases hb:b=a
 ·subst hb;rw [au] at e;cases e;exact new
 ·rw [aq hb] at e
  exact (x b u e).stay (fun c v _ q=>k c v q) (fun c q=>by rw [aq (aM q hn)];exact q) fun c xs q=>by rw [aq (aM q hn)];exact q
end
noncomputable def Rd (H:Hp) (a:Addr) (u:HO):Prop:=H a=some u∨∃ o,H a=some (.frz o u)
theorem Rd.ok {P:Program} {w:World} {H:Hp} {h:Heap} {a:Addr} {u:HO} (r:Rd H a u) (x:HOk P w H h):aX P w H h a u:=by
 rcases r with r | ⟨o,r⟩
 ·exact x a u r
 ·obtain ⟨_,q⟩:=x a _ r
  exact q
noncomputable def Mut:Option HO→Prop
 | some (.lst _)=>True
 | some (.dK _)=>True
 | some (.dT _)=>True
 | some (.set _ _)=>True
 | some (.ins _ _ _)=>True
 | some (.ext _)=>True
 | _=>False
section
variable {P:Program} {w:World} {H:Hp} {h h':Heap} {x e:Addr} {o':HO}
theorem HOk.write (ok:HOk P w H h) (mu:Mut (H x)) (he:e=x∨H e=some (.own x)) (k:∀ b u,b≠e→h.get? b=some u→h'.get? b=some u) (heo:∃ u,h'.get? e=some u)
  (new:aX P w (upd H x o') h' x o'):HOk P w (upd H x o') h':=fun b u q=>by
 have I_:∀ c y,H c=some (.own y)→c≠x:=fun c y r z=>by subst z;rw [r] at mu;exact mu
 have Li:∀ c xs,H c=some (.tup xs)→c≠x:=fun c xs r z=>by subst z;rw [r] at mu;exact mu
 by_cases hb:b=x
 ·subst hb;rw [au] at q;cases q;exact new
 ·rw [aq hb] at q
  by_cases hbe:b=e
  ·have q':H b=some (.own x):=by
    rcases he with z | z
    ·exact absurd (hbe.trans z) hb
    ·rw [hbe];exact z
   rw [q] at q';cases q'
   obtain ⟨v,hv⟩:=heo
   exact ⟨v,by rw [hbe];exact hv⟩
  ·refine (ok b u q).stay (fun c v hc r=>k c v ?_ r) (fun c r=>by rw [aq (I_ c b r)];exact r) fun c xs r=>by rw [aq (Li c xs r)];exact r
   rcases hc with rfl | hc
   ·exact hbe
   ·rintro rfl
    rcases he with z | z
    ·exact I_ c b hc z
    ·rw [hc] at z;cases z;exact hb rfl
end
structure Un (fs ex:List Addr) (H H':Hp) (h h':Heap):Prop where
 keep:∀ b o,h.get? b=some o→H b=none→b∉fs→b∉ex→h'.get? b=some o
 slot:∀ b o,h.get? b=some o→H b=none→b∈fs→b∉ex→∃ sl,h'.get? b=some { o with slots:=sl }
 free:∀ b o,h.get? b=some o→H b=none→b∉ex→H' b=none
 there:∀ b o,h.get? b=some o→b∉ex→∃ o',h'.get? b=some o'
 tups:∀ b xs,H b=some (.tup xs)→H' b=some (.tup xs)
 oY:∀ b o u,H b=some (.frz o u)→H' b=some (.frz o u)
 qz:∀ b ps,H b=some (.tbl ps)→∃ more,H' b=some (.tbl (ps++more))
section
variable {fs fs' ex ex':List Addr} {H H1 H2:Hp} {h h1 h2 h':Heap} {a x e:Addr} {o:HO}
theorem Un.any (u:Un fs ex H H1 h h1) {b:Addr} {ob:Obj} (q:h.get? b=some ob) (n:H b=none) (hx:b∉ex):∃ sl,h1.get? b=some { ob with slots:=sl }:=by
 by_cases hb:b∈fs
 ·exact u.slot b ob q n hb hx
 ·exact ⟨ob.slots,u.keep b ob q n hb hx⟩
theorem Un.kept (k:∀ b u,h.get? b=some u→h'.get? b=some u):Un fs ex H H h h':=
 ⟨fun b ob q _ _ _=>k b ob q,fun b ob q _ _ _=>⟨ob.slots,k b ob q⟩,fun _ _ _ n _=>n,fun b ob q _=>⟨ob,k b ob q⟩,fun _ _ q=>q,fun _ _ _ q=>q,fun _ ps q=>⟨#[],by rw [q];simp⟩⟩
theorem Un.refl:Un fs ex H H h h:=Un.kept fun _ _ q=>q
theorem Un.laid (k:∀ b u,h.get? b=some u→h'.get? b=some u) (hp:h.objs.size≤a) (hn:H a=none):Un fs ex H (upd H a o) h h' where
 keep:=fun b u q _ _ _=>k b u q
 slot:=fun b u q _ _ _=>⟨u.slots,k b u q⟩
 free:=fun b u q n _=>by rw [aq (Nat.ne_of_lt (Nat.lt_of_lt_of_le (Heap.lt_size q) hp))];exact n
 there:=fun b u q _=>⟨u,k b u q⟩
 tups:=fun b xs q=>by rw [aq (aM q hn)];exact q
 oY:=fun b u xs q=>by rw [aq (aM q hn)];exact q
 qz:=fun b ps q=>⟨#[],by rw [aq (aM q hn),q];simp⟩
theorem Un.write (mu:Mut (H x)) (he:e=x∨H e=some (.own x)) (k:∀ b u,b≠e→h.get? b=some u→h'.get? b=some u) (heo:∃ u,h'.get? e=some u):Un fs ex H (upd H x o) h h':=by
 have hx:∀ b,H b=none→b≠x:=fun b n z=>by subst z;rw [n] at mu;exact mu
 have hb:∀ b,H b=none→b≠e:=fun b n z=>by
  subst z
  rcases he with r | r
  ·exact hx b n r
  ·rw [n] at r;cases r
 have hm:∀ b u,H b=some u→¬ Mut (some u)→b≠x:=fun b u q nm z=>by subst z;rw [q] at mu;exact nm mu
 refine ⟨fun b u q n _ _=>k b u (hb b n) q,fun b u q n _ _=>⟨u.slots,k b u (hb b n) q⟩,fun b u q n _=>by rw [aq (hx b n)];exact n,fun b u q _=>?_,
  fun b xs q=>by rw [aq (hm b _ q fun z=>z)];exact q,fun b u xs q=>by rw [aq (hm b _ q fun z=>z)];exact q,fun b ps q=>⟨#[],by rw [aq (hm b _ q fun z=>z),q];simp⟩⟩
 by_cases hbe:b=e
 ·subst hbe;exact heo
 ·exact ⟨u,k b u hbe q⟩
end
noncomputable def trk (h:Heap) (H:Hp):List Addr:=(List.range h.objs.size).filter fun a=>(H a).isSome
noncomputable def oZ (h:Heap) (H:Hp):Heap:=PySem.W.hideAll h (trk h H)
theorem wZ (h:Heap) (H:Hp):(oZ h H).objs.size=h.objs.size:=PySem.W.hideAll_size _ _
theorem yJ {h:Heap} {H:Hp} {b:Addr} {o:Obj} (e:h.get? b=some o) (n:H b=none):(oZ h H).get? b=some o:=
 PySem.W.hideAll_get _ e fun hm=>by
  have q:(H b).isSome=true:=(List.mem_filter.mp hm).2
  rw [n] at q;simp at q
theorem Cp {h:Heap} {H:Hp} {b:Addr} {o:Obj} (e:(oZ h H).get? b=some o):h.get? b=some o∧H b=none:=by
 have e':h.get? b=some o:=PySem.W.of_hideAll (trk h H) e
 refine ⟨e',?_⟩
 cases q:H b with
 | none=>rfl
 | some x=>
  have hm:b∈trk h H:=List.mem_filter.mpr ⟨List.mem_range.mpr (Heap.lt_size e'),by simp [q]⟩
  have z:(oZ h H).get? b=none:=PySem.W.hideAll_none (trk h H) hm
  rw [z] at e;cases e
structure Mod (K:PySem.W.Frag) (mg:Str→Option Value) (base:Heap):Prop where
 kin:K.In base
 glob:base.Ns mainGlobals mg
 blt:∃ mb,base.Ns builtinsNs mb∧∀ x:Str,x ≠ "__name__" → mb x=bootBuiltins x
 nolimit:base.NoLimit
structure Cx where
 prog:Program
 w:World
 K:PySem.W.Frag
 mg:Str→Option Value
 base:Heap
 A:Around
 N:List Str
 s₀:Shared
 H₀:Hp
 env:Env
 outer:List Env
 stack:List Env
 ex:List Addr
 fn:Str→Bool
 calm:Bool
 pn:List (Addr×Obj)
 xe:Value→Shared→Prop
noncomputable def frs (l:List Env):List Addr:=l.filterMap (·.frame)
noncomputable abbrev Cx.fs (X:Cx):List Addr:=frs X.outer
noncomputable def Vis (sc:Scope) (x:Str):Prop:=sc.names.lookup x=some .local∨sc.names.lookup x=some .cell∨sc.names.lookup x=some .free
noncomputable def Loc (sc:Scope) (x:Str):Prop:=sc.names.lookup x=some .local∨sc.names.lookup x=some .cell
noncomputable def Look (env:Env) (h:Heap) (m:Str→Option Value) (x:Str) (u:Value):Prop:=
 (env.kindOf x=some .local∧m x=some u)∨((env.kindOf x=some .cell∨env.kindOf x=some .free)∧∃ c,env.cells.lookup x=some c∧h.IsCell c (some u))
structure Cx.Ok (X:Cx):Prop where
 mod:Mod X.K X.mg X.base
 kind:X.env.scope.kind=.function
 glob:X.env.globals=mainGlobals
 blt:X.env.builtins=builtinsNs
 above:X.s₀.heap.objs.size≤X.env.locals
 inj:∀ x y c,X.env.cells.lookup x=some c→X.env.cells.lookup y=some c→x=y
 has:∀ x,(X.env.kindOf x=some .cell∨X.env.kindOf x=some .free)→∃ c,X.env.cells.lookup x=some c
 cab:∀ x c,X.fn x=true→X.env.cells.lookup x=some c→X.s₀.heap.objs.size≤c
 hd:X.calm=true→X.A.handled=none
 frames:X.A.frames=some X.stack
 stk:X.stack=X.outer∨(X.stack=X.env::X.outer∧X.env.frame=some X.env.locals)
 exf:∀ b∈X.ex,b≠X.env.locals∧∀ x c,X.env.cells.lookup x=some c→c≠b
 bs:∀ b o,X.base.get? b=some o→X.s₀.heap.get? b=some o∧X.H₀ b=none
 bsz:X.base.objs.size≤X.s₀.heap.objs.size
 yK:∀ b o,X.base.get? b=some o→b∉X.ex
 Cq:∀ b∈X.ex,b∉X.fs
 kR:X.s₀.heap.FunFrames X.base X.outer
 frf:∀ b∈X.fs,X.H₀ b=none
structure Inv (X:Cx) (pins:List (Addr×Obj)) (σ:List (Option V)) (H:Hp) (s:Shared):Prop where
 ok:X.Ok
 os:s.os=X.s₀.os
 bare:AllBare s.gens
 base:Un X.fs X.ex X.H₀ H X.s₀.heap s.heap
 loc:∃ m,s.heap.Ns X.env.locals m∧∀ (i:Nat) (x:Str) (v:V),X.N[i]?=some x→σ[i]?=some (some v)→Vis X.env.scope x→∃ u,RelV v u∧Look X.env s.heap m x u
 cell:∀ x c,X.env.cells.lookup x=some c→∃ v,s.heap.IsCell c v
 free:H X.env.locals=none
 gG:∀ x c,X.env.cells.lookup x=some c→H c=none
 pin:∀ p∈X.pn++pins,s.heap.get? p.1=some p.2∧H p.1=none∧p.1≠X.env.locals∧p.1∉X.fs∧∀ v,p.2.data≠.cell v
 hok:HOk X.prog X.w H s.heap
 len:σ.length=X.N.length
section
variable {X:Cx} {pins:List (Addr×Obj)} {σ:List (Option V)} {H H':Hp} {s:Shared} {h':Heap}
theorem Cx.Ok.Lj (ok:X.Ok) {b:Addr} {o:Obj} (e:X.base.get? b=some o):b∉X.fs:=fun hb=>by
 have:=(ok.kR.mem hb).1
 rw [e] at this;cases this
theorem Inv.bs (I:Inv X pins σ H s):∀ b o,X.base.get? b=some o→s.heap.get? b=some o∧H b=none:=fun b o e=>
 ⟨I.base.keep b o (I.ok.bs b o e).1 (I.ok.bs b o e).2 (I.ok.Lj e) (I.ok.yK b o e),I.base.free b o (I.ok.bs b o e).1 (I.ok.bs b o e).2 (I.ok.yK b o e)⟩
theorem Inv.bk (I:Inv X pins σ H s):∀ b o,X.base.get? b=some o→s.heap.get? b=some o:=fun b o e=>(I.bs b o e).1
theorem Inv.mod (I:Inv X pins σ H s):Mod X.K X.mg X.base:=I.ok.mod
theorem Inv.kIn (I:Inv X pins σ H s):X.K.In s.heap:=I.ok.mod.kin.keeps I.bk
theorem Inv.lt (I:Inv X pins σ H s):X.env.locals<s.heap.objs.size:=let ⟨_,hn,_⟩:=I.loc;hn.lt
theorem Inv.sz (I:Inv X pins σ H s):X.s₀.heap.objs.size≤s.heap.objs.size:=Nat.le_trans I.ok.above (Nat.le_of_lt I.lt)
theorem Inv.Lk (I:Inv X pins σ H s) {a:Addr} (h:s.heap.objs.size≤a):a∉X.fs:=fun hb=>by
 obtain ⟨_,o,ho,_⟩:=I.ok.kR.mem hb
 exact absurd (Nat.lt_of_lt_of_le (Heap.lt_size ho) (Nat.le_trans I.sz h)) (Nat.lt_irrefl _)
theorem Inv.cne (I:Inv X pins σ H s):∀ x c,X.env.cells.lookup x=some c→c≠X.env.locals:=fun x c e z=>by
 obtain ⟨v,o,ho,hd⟩:=I.cell x c e
 obtain ⟨m,⟨o',es,ep,ho',hd',_⟩,_⟩:=I.loc
 rw [z,ho'] at ho;cases ho;rw [hd'] at hd;cases hd
theorem Inv.kR (I:Inv X pins σ H s):s.heap.FunFrames X.base X.outer:=by
 have all:∀ (l:List Env),(∀ b∈frs l,b∈X.fs)→X.s₀.heap.FunFrames X.base l→s.heap.FunFrames X.base l:=by
  intro l
  induction l with
  | nil=>intro _ _;trivial
  | cons env r ih=>
   intro hs hl
   obtain ⟨hk,⟨L,o,hf,hn,ho,hd⟩,hr⟩:=hl
   have hL:L∈X.fs:=hs L (by unfold frs;rw [List.filterMap_cons,hf];exact List.mem_cons_self)
   obtain ⟨sl,e⟩:=I.base.slot L o ho (I.ok.frf L hL) hL fun z=>I.ok.Cq L z hL
   exact ⟨hk,⟨L,_,hf,hn,e,hd⟩,ih (fun b hb=>hs b (by unfold frs;rw [List.filterMap_cons,hf];exact List.mem_cons_of_mem _ hb)) hr⟩
 exact all X.outer (fun _ hb=>hb) I.ok.kR
theorem Inv.stack (I:Inv X pins σ H s):s.heap.FunFrames X.base X.stack:=by
 rcases I.ok.stk with e | ⟨e,hf⟩
 ·rw [e];exact I.kR
 ·rw [e]
  obtain ⟨m,hn,_⟩:=I.loc
  refine .cons (by rw [I.ok.kind];decide) hf hn ?_ I.kR
  exact Heap.get?_none_of_le (Nat.le_trans I.ok.bsz I.ok.above)
theorem Inv.sY (I:Inv X pins σ H s):∀ b∈frs X.stack,b∈X.env.locals::X.fs:=fun b hb=>by
 rcases I.ok.stk with e | ⟨e,hf⟩
 ·rw [e] at hb;exact List.mem_cons_of_mem _ hb
 ·rw [e] at hb
  unfold frs at hb
  rw [List.filterMap_cons,hf] at hb
  exact hb
theorem Inv.u9 (I:Inv X pins σ H s):∀ b∈frs X.stack,H b=none:=fun b hb=>by
 rcases List.mem_cons.mp (I.sY b hb) with e | hb
 ·rw [e];exact I.free
 ·obtain ⟨_,o,ho,_⟩:=I.ok.kR.mem hb
  exact I.base.free b o ho (I.ok.frf b hb) fun z=>I.ok.Cq b z hb
theorem Inv.step {g':Array GenState} {t':Nat} {d':Drawn} {ch:List Addr} (I:Inv X pins σ H s)
  (hch:∀ b∈ch,(b∈X.ex∨X.s₀.heap.objs.size≤b)∧b≠X.env.locals∧(∀ x c,X.env.cells.lookup x=some c→c≠b)∧∀ p∈X.pn++pins,p.1≠b)
  (keep:∀ b o,b≠X.env.locals→b∉X.fs→b∉ch→s.heap.get? b=some o→H b=none→h'.get? b=some o)
  (slot:∀ b o,b≠X.env.locals→b∈X.fs→b∉ch→s.heap.get? b=some o→H b=none→∃ sl,h'.get? b=some { o with slots:=sl }) (free:∀ b o,b∉ch→s.heap.get? b=some o→H b=none→H' b=none)
  (there:∀ b o,b∉ch→s.heap.get? b=some o→∃ o',h'.get? b=some o')
  (tups:∀ b xs,H b=some (.tup xs)→H' b=some (.tup xs)) (oY:∀ b o u,H b=some (.frz o u)→H' b=some (.frz o u)) (qz:∀ b ps,H b=some (.tbl ps)→∃ more,H' b=some (.tbl (ps++more)))
  (ns:∀ m,s.heap.Ns X.env.locals m→h'.Ns X.env.locals m) (hok:HOk X.prog X.w H' h') (hg:AllBare g') :
  Inv X pins σ H' { s with heap:=h',gens:=g',drawn:=d',toks:=t' }:=by
 have neL:∀ b o,X.s₀.heap.get? b=some o→b≠X.env.locals:=fun b o e=>Nat.ne_of_lt (Nat.lt_of_lt_of_le (Heap.lt_size e) I.ok.above)
 have neC:∀ b o,X.s₀.heap.get? b=some o→b∉X.ex→b∉ch:=fun b o e hx hb=>by
  rcases (hch b hb).1 with z | z
  ·exact hx z
  ·exact absurd (Nat.lt_of_lt_of_le (Heap.lt_size e) z) (Nat.lt_irrefl _)
 have cellK:∀ x c,X.env.cells.lookup x=some c→∀ v,s.heap.IsCell c v→h'.IsCell c v:=fun x c e v ⟨o,ho,hd⟩=>by
  have nch:c∉ch:=fun z=>(hch c z).2.2.1 x c e rfl
  by_cases hc:c∈X.fs
  ·obtain ⟨sl,q⟩:=slot c o (I.cne x c e) hc nch ho (I.gG x c e)
   exact ⟨_,q,hd⟩
  ·exact ⟨o,keep c o (I.cne x c e) hc nch ho (I.gG x c e),hd⟩
 refine ⟨I.ok,I.os,hg,⟨fun b o e n hb hx=>?_,fun b o e n hb hx=>?_,fun b o e n hx=>?_,fun b o e hx=>?_,fun b xs e=>tups b xs (I.base.tups b xs e),fun b o xs e=>oY b o xs (I.base.oY b o xs e),fun b ps e=>?_⟩,?_,fun x c e=>?_,?_,fun x c e=>?_,fun p hp=>?_,hok,I.len⟩
 ·exact keep b o (neL b o e) hb (neC b o e hx) (I.base.keep b o e n hb hx) (I.base.free b o e n hx)
 ·obtain ⟨sl,e1⟩:=I.base.slot b o e n hb hx
  obtain ⟨sl',e2⟩:=slot b _ (neL b o e) hb (neC b o e hx) e1 (I.base.free b o e n hx)
  exact ⟨sl',e2⟩
 ·obtain ⟨o',e1⟩:=I.base.there b o e hx
  exact free b o' (neC b o e hx) e1 (I.base.free b o e n hx)
 ·obtain ⟨o',e1⟩:=I.base.there b o e hx
  exact there b o' (neC b o e hx) e1
 ·obtain ⟨m1,e1⟩:=I.base.qz b ps e
  obtain ⟨m2,e2⟩:=qz b _ e1
  exact ⟨m1++m2,by rw [e2,Array.append_assoc]⟩
 ·obtain ⟨m,hn,hl⟩:=I.loc
  refine ⟨m,ns m hn,fun i x v e1 e2 e3=>?_⟩
  obtain ⟨u,r,l⟩:=hl i x v e1 e2 e3
  refine ⟨u,r,?_⟩
  rcases l with l | ⟨k,c,e,z⟩
  ·exact .inl l
  ·exact .inr ⟨k,c,e,cellK x c e _ z⟩
 ·obtain ⟨v,z⟩:=I.cell x c e
  exact ⟨v,cellK x c e v z⟩
 ·obtain ⟨m,⟨o,_,_,ho,_⟩,_⟩:=I.loc
  exact free _ o (fun z=>(hch _ z).2.1 rfl) ho I.free
 ·obtain ⟨v,o,ho,hd⟩:=I.cell x c e
  exact free c o (fun z=>(hch c z).2.2.1 x c e rfl) ho (I.gG x c e)
 ·obtain ⟨e,n,ne,nf,d⟩:=I.pin p hp
  have nch:p.1∉ch:=fun z=>(hch p.1 z).2.2.2 p hp rfl
  exact ⟨keep p.1 p.2 ne nf nch e n,free p.1 p.2 nch e n,ne,nf,d⟩
theorem Inv.un {t':Nat} (I:Inv X pins σ H s) (u:Un X.fs [] H H' s.heap h') (hok:HOk X.prog X.w H' h'):Inv X pins σ H' { s with heap:=h',toks:=t' }:=by
 obtain ⟨m,⟨o,es,ep,ho,r⟩,_⟩:=id I.loc
 obtain ⟨sl,hL⟩:=u.any ho I.free (by simp)
 exact I.step (g':=s.gens) (d':=s.drawn) (ch:=[]) (fun _ z=>nomatch z) (fun b o _ hb _ e n=>u.keep b o e n hb (by simp)) (fun b o _ hb _ e n=>u.slot b o e n hb (by simp)) (fun b o _ e n=>u.free b o e n (by simp)) (fun b o _ e=>u.there b o e (by simp)) u.tups u.oY u.qz (fun m' hm=>by
  obtain ⟨o',es',ep',ho',r'⟩:=hm
  rw [ho] at ho';cases ho'
  exact ⟨_,es',ep',hL,r'⟩) hok I.bare
theorem Inv.call {g':Array GenState} {t':Nat} {d':Drawn} {ch:List Addr} (I:Inv X pins σ H s) (u:Un (frs X.stack) ch H H' s.heap h') (hok:HOk X.prog X.w H' h') (hg:AllBare g')
  (hch:∀ b∈ch,(b∈X.ex∨X.s₀.heap.objs.size≤b)∧b≠X.env.locals∧(∀ x c,X.env.cells.lookup x=some c→c≠b)∧∀ p∈X.pn++pins,p.1≠b) :
  Inv X pins σ H' { s with heap:=h',gens:=g',drawn:=d',toks:=t' }:=by
 obtain ⟨m,⟨o,es,ep,ho,r⟩,_⟩:=id I.loc
 obtain ⟨sl,hL⟩:=u.any ho I.free fun z=>(hch _ z).2.1 rfl
 exact I.step (ch:=ch) hch (fun b o hL hb hc e n=>u.keep b o e n (fun z=>(List.mem_cons.mp (I.sY b z)).elim hL hb) hc) (fun b o _ _ hc e n=>u.any e n hc) (fun b o hc e n=>u.free b o e n hc) (fun b o hc e=>u.there b o e hc) u.tups u.oY u.qz (fun m' hm=>by
  obtain ⟨o',es',ep',ho',r'⟩:=hm
  rw [ho] at ho';cases ho'
  exact ⟨_,es',ep',hL,r'⟩) hok hg
theorem Inv.turned {t':Nat} {it:Addr} (I:Inv X pins σ H s) (k:∀ b o,b≠it→s.heap.get? b=some o→h'.get? b=some o) (hn:H it=none) (hL:it≠X.env.locals)
  (h1:it∈X.ex∨X.s₀.heap.objs.size≤it) (h2:∀ x c,X.env.cells.lookup x=some c→c≠it) (h3:∀ p∈X.pn++pins,p.1≠it):Inv X pins σ H { s with heap:=h',toks:=t' }:=by
 have nit:∀ b u,H b=some u→b≠it:=fun b u e z=>by rw [z,hn] at e;cases e
 refine I.step (g':=s.gens) (d':=s.drawn) (ch:=[it]) (fun b hb=>?_) (fun b o _ _ hc e _=>k b o (fun z=>hc (by simp [z])) e) (fun b o _ _ hc e _=>⟨o.slots,k b o (fun z=>hc (by simp [z])) e⟩) (fun _ _ _ _ n=>n)
  (fun b o hc e=>⟨o,k b o (fun z=>hc (by simp [z])) e⟩) (fun _ _ e=>e) (fun _ _ _ e=>e) (fun b ps e=>⟨#[],by rw [e];simp⟩) (fun m hm=>?_) (fun b u e=>?_) I.bare
 ·have e:b=it:=by simpa using hb
  subst e
  exact ⟨h1,hL,h2,h3⟩
 ·obtain ⟨o,es,ep,ho,r⟩:=hm
  exact ⟨o,es,ep,k _ o (Ne.symm hL) ho,r⟩
 ·refine (I.hok b u e).stay (fun c v hc q=>k c v ?_ q) (fun _ q=>q) fun _ _ q=>q
  rcases hc with z | z
  ·rw [z];exact nit b u e
  ·exact nit c _ z
theorem Inv.tok (I:Inv X pins σ H s) (t:Nat):Inv X pins σ H { s with toks:=t }:=I.un (h':=s.heap) (t':=t) Un.refl I.hok
theorem Inv.kept {t':Nat} (I:Inv X pins σ H s) (k:∀ b u,s.heap.get? b=some u→h'.get? b=some u):Inv X pins σ H { s with heap:=h',toks:=t' }:=I.un (Un.kept k) (I.hok.kept k)
theorem Inv.laid {a:Addr} {o:HO} {t':Nat} (I:Inv X pins σ H s) (k:∀ b u,s.heap.get? b=some u→h'.get? b=some u) (hp:s.heap.objs.size≤a) (new:aX X.prog X.w (upd H a o) h' a o) :
  Inv X pins σ (upd H a o) { s with heap:=h',toks:=t' }:=I.un (Un.laid k hp (I.hok.fresh hp)) (I.hok.laid k hp new)
theorem Inv.write {x e:Addr} {o:HO} {t':Nat} (I:Inv X pins σ H s) (mu:Mut (H x)) (he:e=x∨H e=some (.own x)) (k:∀ b u,b≠e→s.heap.get? b=some u→h'.get? b=some u) (heo:∃ u,h'.get? e=some u)
  (new:aX X.prog X.w (upd H x o) h' x o):Inv X pins σ (upd H x o) { s with heap:=h',toks:=t' }:=I.un (Un.write mu he k heo) (I.hok.write mu he k heo new)
theorem Inv.u_ {EF:List (Addr×Obj)} (I:Inv X pins σ H s) (h:∀ p∈EF,s.heap.get? p.1=some p.2∧H p.1=none∧p.1≠X.env.locals∧p.1∉X.fs∧∀ v,p.2.data≠.cell v):Inv X EF σ H s:=
 ⟨I.ok,I.os,I.bare,I.base,I.loc,I.cell,I.free,I.gG,fun p hp=>(List.mem_append.mp hp).elim (fun z=>I.pin p (List.mem_append_left _ z)) (h p),I.hok,I.len⟩
theorem qA {N:List Str} (hN:N.Nodup) {i j:Nat} {x:Str} (a:N[i]?=some x) (b:N[j]?=some x):i=j:=by
 obtain ⟨h1,e1⟩:=List.getElem?_eq_some_iff.mp a
 obtain ⟨h2,e2⟩:=List.getElem?_eq_some_iff.mp b
 exact (List.getElem_inj hN).mp (e1.trans e2.symm)
theorem nQ {M:Model} {A:Around} {E:Value→Shared→Prop} {i:Nat} {x:Str} {v:V} {u:Value} {Q:Unit→Shared→Prop} (I:Inv X pins σ H s) (hN:X.N.Nodup) (hi:X.N[i]?=some x) (hx:Loc X.env.scope x) (r:RelV v u)
  (h:∀ s',Inv X pins (σ.set i (some v)) H s'→(∃ a,Heap.SameBut a s.heap s'.heap∧(a=X.env.locals∨X.env.cells.lookup x=some a))→Q () s') (hf:X.fn x=true∨X.env.scope.names.lookup x=some .local:=by first | exact .inl rfl | exact .inr rfl | assumption):wpAny M A (storeName X.env x u) Q E s:=by
 obtain ⟨m,hn,hl⟩:=id I.loc
 have hcls:(X.env.scope.kind == .class||(X.env.scope.kind == .module&&X.env.locals != X.env.globals))=false:=by rw [I.ok.kind];rfl
 have hiσ:i<σ.length:=by rw [I.len];exact (List.getElem?_eq_some_iff.mp hi).1
 have cne:=I.cne
 have tracked:∀ {a:Addr} {h':Heap},(∃ o,s.heap.get? a=some o∧H a=none)→Heap.SameBut a s.heap h'→HOk X.prog X.w H h':=fun {a h'} ha hs b ob e=>by
  obtain ⟨_,_,hfree⟩:=ha
  refine (I.hok b ob e).stay (fun c w' hc q=>(hs.2 c ?_).trans q) (fun _ q=>q) fun _ _ q=>q
  rintro rfl
  rcases hc with rfl | hc
  ·rw [hfree] at e;cases e
  ·rw [hfree] at hc;cases hc
 rcases hx with hk | hk
 ·refine wpAny_storeName_local hk hn (fun h' hn' hs=>?_) hcls
  obtain ⟨oL,_,_,hoL,_⟩:=id hn
  refine h _ ⟨I.ok,I.os,I.bare,⟨fun b o e n hb hx=>?_,fun b o e n hb hx=>?_,I.base.free,fun b o e hx=>?_,I.base.tups,I.base.oY,I.base.qz⟩,⟨_,hn',fun j y v' e1 e2 e3=>?_⟩,fun y c e=>?_,I.free,I.gG,fun p hp=>?_,tracked ⟨oL,hoL,I.free⟩ hs,by simpa using I.len⟩ ⟨_,hs,.inl rfl⟩
  ·exact (hs.2 b (Nat.ne_of_lt (Nat.lt_of_lt_of_le (Heap.lt_size e) I.ok.above))).trans (I.base.keep b o e n hb hx)
  ·obtain ⟨sl,e1⟩:=I.base.slot b o e n hb hx
   exact ⟨sl,(hs.2 b (Nat.ne_of_lt (Nat.lt_of_lt_of_le (Heap.lt_size e) I.ok.above))).trans e1⟩
  ·obtain ⟨o',e1⟩:=I.base.there b o e hx
   exact ⟨o',(hs.2 b (Nat.ne_of_lt (Nat.lt_of_lt_of_le (Heap.lt_size e) I.ok.above))).trans e1⟩
  ·by_cases hj:j=i
   ·subst hj
    rw [hi] at e1;cases e1
    rw [List.getElem?_set_self hiσ] at e2
    cases e2
    exact ⟨u,r,.inl ⟨hk,by simp⟩⟩
   ·rw [List.getElem?_set_ne (Ne.symm hj)] at e2
    obtain ⟨u',r',q⟩:=hl j y v' e1 e2 e3
    refine ⟨u',r',?_⟩
    rcases q with ⟨k,e⟩ | ⟨k,c,e,z⟩
    ·refine .inl ⟨k,?_⟩
     have:y≠x:=fun e=>hj (qA hN e1 (e▸hi))
     simp [this,e]
    ·exact .inr ⟨k,c,e,z.sameBut hs (cne y c e)⟩
  ·obtain ⟨w',z⟩:=I.cell y c e
   exact ⟨w',z.sameBut hs (cne y c e)⟩
  ·obtain ⟨e,n,ne,nf,d⟩:=I.pin p hp
   exact ⟨(hs.2 p.1 ne).trans e,n,ne,nf,d⟩
 ·have hfn:X.fn x=true:=by
   rcases hf with z | z
   ·exact z
   ·rw [z] at hk;cases hk
  obtain ⟨c,hc⟩:=I.ok.has x (.inl hk)
  obtain ⟨w',z⟩:=I.cell x c hc
  refine wpAny_storeName_cell I.ok.kind hk hc z (fun h' hc' hs=>?_)
  obtain ⟨oc,hoc,Ll⟩:=id z
  refine h { s with heap:=h' } ⟨I.ok,I.os,I.bare,⟨fun b o e n hb hx=>?_,fun b o e n hb hx=>?_,I.base.free,fun b o e hx=>?_,I.base.tups,I.base.oY,I.base.qz⟩,⟨m,hn.sameBut hs (Ne.symm (cne x c hc)),fun j y v' e1 e2 e3=>?_⟩,fun y c' e=>?_,I.free,I.gG,fun p hp=>?_,tracked ⟨oc,hoc,I.gG x c hc⟩ hs,by simpa using I.len⟩ ⟨c,hs,.inr hc⟩
  ·exact (hs.2 b (Nat.ne_of_lt (Nat.lt_of_lt_of_le (Heap.lt_size e) (I.ok.cab x c hfn hc)))).trans (I.base.keep b o e n hb hx)
  ·obtain ⟨sl,e1⟩:=I.base.slot b o e n hb hx
   exact ⟨sl,(hs.2 b (Nat.ne_of_lt (Nat.lt_of_lt_of_le (Heap.lt_size e) (I.ok.cab x c hfn hc)))).trans e1⟩
  ·obtain ⟨o',e1⟩:=I.base.there b o e hx
   exact ⟨o',(hs.2 b (Nat.ne_of_lt (Nat.lt_of_lt_of_le (Heap.lt_size e) (I.ok.cab x c hfn hc)))).trans e1⟩
  ·by_cases hj:j=i
   ·subst hj
    rw [hi] at e1;cases e1
    rw [List.getElem?_set_self hiσ] at e2
    cases e2
    exact ⟨u,r,.inr ⟨.inl hk,c,hc,hc'⟩⟩
   ·rw [List.getElem?_set_ne (Ne.symm hj)] at e2
    obtain ⟨u',r',q⟩:=hl j y v' e1 e2 e3
    refine ⟨u',r',?_⟩
    rcases q with q | ⟨k,c',e,z'⟩
    ·exact .inl q
    ·refine .inr ⟨k,c',e,z'.sameBut hs ?_⟩
     rintro rfl
     exact hj (qA hN e1 (I.ok.inj _ _ _ e hc▸hi))
  ·by_cases hcc:c'=c
   ·subst hcc;exact ⟨_,hc'⟩
   ·obtain ⟨w2,z2⟩:=I.cell y c' e
    exact ⟨w2,z2.sameBut hs hcc⟩
  ·obtain ⟨e,n,ne,nf,d⟩:=I.pin p hp
   refine ⟨(hs.2 p.1 ?_).trans e,n,ne,nf,d⟩
   intro q
   rw [q,hoc] at e
   have q':oc=p.2:=Option.some.inj e
   exact d w' (by rw [← q'];exact Ll)
theorem qB {M:Model} {A:Around} {E:Value→Shared→Prop} {i:Nat} {x:Str} {v:V} {u:Value} {Q:Unit→Shared→Prop} (I:Inv X pins σ H s) (hN:X.N.Nodup) (hi:X.N[i]?=some x) (hx:Loc X.env.scope x) (r:RelV v u)
  (h:∀ s',Inv X pins (σ.set i (some v)) H s'→Q () s') (hf:X.fn x=true∨X.env.scope.names.lookup x=some .local:=by first | exact .inl rfl | exact .inr rfl | assumption):wpAny M A (storeName X.env x u) Q E s:=
 nQ I hN hi hx r (fun s' I' _=>h s' I') hf
theorem Inv.Ja {s':Shared} {ch:List Addr} (I:Inv X pins σ H s) (ho:s'.os=s.os) (u:Un (frs X.stack) ch H H' s.heap s'.heap) (hok:HOk X.prog X.w H' s'.heap) (hg:AllBare s'.gens)
  (hch:∀ b∈ch,(b∈X.ex∨X.s₀.heap.objs.size≤b)∧b≠X.env.locals∧(∀ x c,X.env.cells.lookup x=some c→c≠b)∧∀ p∈X.pn++pins,p.1≠b):Inv X pins σ H' s':=by
 obtain ⟨h',g',d',t',o'⟩:=s'
 have e:o'=s.os:=ho
 subst e
 exact I.call (g':=g') (t':=t') (d':=d') u hok hg hch
end
noncomputable abbrev XK:=Value→Option Addr→Hp→Prop
noncomputable abbrev St:=List (Option V)
noncomputable abbrev VK:=V→Hp→Prop
noncomputable abbrev TE:=St→Hp→VK→Prop
noncomputable abbrev TT:=St→Hp→(Bool→Hp→Prop)→Prop
noncomputable abbrev TA:=St→Hp→(List V→Hp→Prop)→Prop
structure Ends where
 nx:St→Hp→Prop
 rt:VK
 bk:St→Hp→Prop:=fun _ _=>False
 ct:St→Hp→Prop:=fun _ _=>False
noncomputable abbrev TS:=Ends→St→Hp→Prop
noncomputable def EP (X:Cx) (pins:List (Addr×Obj)) (σ:St) (Q:VK) (u:Value) (s':Shared):Prop:=∃ v H',Inv X pins σ H' s'∧RelV v u∧Q v H'
noncomputable def TP (X:Cx) (pins:List (Addr×Obj)) (σ:St) (Q:Bool→Hp→Prop) (b:Bool) (s':Shared):Prop:=∃ H',Inv X pins σ H' s'∧Q b H'
noncomputable def AP (X:Cx) (pins:List (Addr×Obj)) (σ:St) (Q:List V→Hp→Prop) (us:List Value) (s':Shared):Prop:=∃ vs H',Inv X pins σ H' s'∧Vals vs us∧Q vs H'
noncomputable def SP (X:Cx) (pins:List (Addr×Obj)) (D:Ends) (f:Flow) (s':Shared):Prop:=
 match f with
 | .next=>∃ σ' H',Inv X pins σ' H' s'∧D.nx σ' H'
 | .brk=>∃ σ' H',Inv X pins σ' H' s'∧D.bk σ' H'
 | .cont=>∃ σ' H',Inv X pins σ' H' s'∧D.ct σ' H'
 | .ret u=>∃ v σ' H',Inv X pins σ' H' s'∧RelV v u∧D.rt v H'
noncomputable def PE (X:Cx) (e:Expr) (t:TE):Prop:=
 ∀ (pins:List (Addr×Obj)) (s:Shared) (σ:St) (H:Hp) (Q:VK),Inv X pins σ H s→t σ H Q→wpAny (model X.prog X.w) X.A (eval e X.env) (EP X pins σ Q) X.xe s
noncomputable def PT (X:Cx) (e:Expr) (t:TT):Prop:=
 ∀ (pins:List (Addr×Obj)) (s:Shared) (σ:St) (H:Hp) (Q:Bool→Hp→Prop),Inv X pins σ H s→t σ H Q→wpAny (model X.prog X.w) X.A (isTrue e X.env (eval e X.env)) (TP X pins σ Q) X.xe s
noncomputable def PW (X:Cx) (e:Expr) (t:TT):Prop:=
 ∀ (whole:Sem Value) (pins:List (Addr×Obj)) (s:Shared) (σ:St) (H:Hp) (Q:Bool→Hp→Prop),Inv X pins σ H s→t σ H Q→wpAny (model X.prog X.w) X.A (isTrue e X.env whole) (TP X pins σ Q) X.xe s
theorem PW.pt {X:Cx} {e:Expr} {t:TT} (h:PW X e t):PT X e t:=h _
noncomputable def PA (X:Cx) (es:List Expr) (t:TA):Prop:=
 ∀ (pos:Pos) (pins:List (Addr×Obj)) (s:Shared) (σ:St) (H:Hp) (Q:List V→Hp→Prop),Inv X pins σ H s→t σ H Q→wpAny (model X.prog X.w) X.A (spliced (backTo pos (starEach es X.env))) (AP X pins σ Q) X.xe s
noncomputable def PS (X:Cx) (st:Stmt) (t:TS):Prop:=
 ∀ (pins:List (Addr×Obj)) (s:Shared) (σ:St) (H:Hp) (D:Ends),Inv X pins σ H s→t D σ H→wpAny (model X.prog X.w) X.A (exec st X.env) (SP X pins D) X.xe s
noncomputable def PSs (X:Cx) (st:List Stmt) (t:TS):Prop:=
 ∀ (pins:List (Addr×Obj)) (s:Shared) (σ:St) (H:Hp) (D:Ends),Inv X pins σ H s→t D σ H→wpAny (model X.prog X.w) X.A (execs st X.env) (SP X pins D) X.xe s
theorem thn {α:Type} {t:Sem α} {Q Q':α→Shared→Prop} {M:Model} {A:Around} {E:Value→Shared→Prop} {s:Shared} (h:wpAny M A t Q E s) (hQ:∀ a s,Q a s→Q' a s):wpAny M A t Q' E s:=wpAny_mono h hQ fun _ _ x=>x
section
variable {X:Cx}
noncomputable def fB (i:Nat):TE:=fun σ H Q=>∃ v,σ[i]?=some (some v)∧Q v H
noncomputable def tC (v:V):TE:=fun _ H Q=>Q v H
theorem bP {i:Nat} {x:Str} {pos:Pos} (hN:X.N[i]?=some x) (hv:Vis X.env.scope x) (hd:(x == ("__debug__" : Str))=false:=by decide) (hcd:(x == ("__classdict__" : Str))=false:=by decide):PE X (.Name x pos) (fB i):=by
 intro pins s σ H Q I h
 obtain ⟨v,e,h⟩:=h
 obtain ⟨m,hn,hl⟩:=I.loc
 obtain ⟨u,r,l⟩:=hl i x v hN e hv
 have fin:EP X pins σ Q u s:=⟨v,H,I,r,h⟩
 rcases l with ⟨hk,hm⟩ | ⟨hk,c,hc,hcell⟩
 ·exact wpAny_Name (wpAny_loadName_local I.ok.kind hk hn hm fin) hd
 ·rcases hk with hk | hk
  ·exact wpAny_Name (wpAny_loadName_cell I.ok.kind hk hc hcell fin) hd
  ·exact wpAny_Name (wpAny_loadName_free I.ok.kind hk hc hcell fin hcd) hd
theorem kT {i j pos}:PE X (.Constant (.int i) j pos) (tC (.int i)):=fun _ _ _ H _ I h=>wpAny_Constant_int ⟨.int i,H,I.tok _,⟨_,rfl⟩,h⟩
theorem Jb {b j pos}:PE X (.Constant (.bool b) j pos) (tC (.bl b)):=fun _ _ _ H _ I h=>Constant_bool ⟨.bl b,H,I,rfl,h⟩
theorem F6 {j pos}:PE X (.Constant .none j pos) (tC .non):=fun _ _ _ H _ I h=>Constant_none ⟨.non,H,I,rfl,h⟩
noncomputable def Gl (X:Cx) (x:Str):Prop:=X.env.kindOf x=some .globalImplicit
theorem vc {E:Value→Shared→Prop} {pins:List (Addr×Obj)} {s:Shared} {σ:St} {H:Hp} {x:Str} {u:Value} {pos:Pos} {Q:Value→Shared→Prop} (I:Inv X pins σ H s) (hg:Gl X x) (hm:X.mg x=some u) (h:Q u s)
  (hd:(x == ("__debug__" : Str))=false:=by decide):wpAny (model X.prog X.w) X.A (eval (.Name x pos) X.env) Q E s:=
 Calls.Name_function_global I.ok.kind hg (Calls.loadGlobal_global (by rw [I.ok.glob];exact I.mod.glob.keeps I.bk) hm h) hd
theorem kU {E:Value→Shared→Prop} {pins:List (Addr×Obj)} {s:Shared} {σ:St} {H:Hp} {x:Str} {u:Value} {pos:Pos} {Q:Value→Shared→Prop} (I:Inv X pins σ H s) (hg:Gl X x) (hm:X.mg x=none) (hv:bootBuiltins x=some u) (h:Q u s)
  (hn:x ≠ "__name__" := by decide) (hd:(x == ("__debug__" : Str))=false:=by decide):wpAny (model X.prog X.w) X.A (eval (.Name x pos) X.env) Q E s:=by
 obtain ⟨mb,h1,h2⟩:=I.mod.blt
 exact Calls.Name_function_global I.ok.kind hg (Calls.loadGlobal_builtin (by rw [I.ok.glob];exact I.mod.glob.keeps I.bk) hm (by rw [I.ok.blt];exact h1.keeps I.bk) ((h2 x hn).trans hv) h) hd
theorem Cr {x:Str} {v:V} {u:Value} {pos:Pos} (hg:Gl X x) (hm:X.mg x=none) (hv:bootBuiltins x=some u) (r:RelV v u) (hn:x ≠ "__name__" := by decide) (hd:(x == ("__debug__" : Str))=false:=by decide):PE X (.Name x pos) (tC v):=
 fun _ _ _ H _ I h=>kU I hg hm hv ⟨v,H,I,r,h⟩ hn hd
variable {a b:Expr} {ta tb:TE} {pos:Pos}
noncomputable def PC (X:Cx) (op:CmpOp) (a b:Expr) (t:TE):Prop:=
 ∀ (pins:List (Addr×Obj)) (s:Shared) (σ:St) (H:Hp) (Q:VK),Inv X pins σ H s→t σ H Q →
  wpAny (model X.prog X.w) X.A (eval a X.env) (fun v s₁=>wpAny (model X.prog X.w) X.A (eval b X.env) (fun u s₂=>wpAny (model X.prog X.w) X.A (compareOp op v u) (EP X pins σ Q) X.xe s₂) X.xe s₁) X.xe s
noncomputable def tB (t:TE):TT:=fun σ H Q=>t σ H fun x H1=>∃ c,x=.bl c∧Q c H1
theorem yL {op:CmpOp} {t:TE} (h:PC X op a b t) (h1:behindInMarks op b=false:=by first | exact Jc _ (by decide) (by decide) | rfl):PT X (.Compare a [op] [b] pos) (tB t):=by
 intro pins s σ H Q I hw
 refine wpAny_isTrue_Compare1 (thn (h pins s σ H _ I hw) fun v s1 h1=>thn h1 fun u s2 h2=>thn h2 fun c s3 ⟨x,H1,I1,r1,q1⟩=>?_) h1
 obtain ⟨d,rfl,q⟩:=q1
 cases r1
 exact wpAny_truthy_bool ⟨H1,I1,q⟩
theorem F7 {e:Expr} {t:TE} (h:PE X e t) (he:∀ whole,isTrue e X.env whole=(do let v ← whole;standAt e.pos;holding [v] (truthy v)):=by intro _;rfl):PT X e (tB t):=by
 intro pins s σ H Q I hw
 refine isTrue_plain (thn (h pins s σ H _ I hw) fun v s1 ⟨x,H1,I1,r1,q1⟩=>?_) (he _)
 obtain ⟨d,rfl,q⟩:=q1
 cases r1
 exact wpAny_truthy_bool ⟨H1,I1,q⟩
variable {tA tB':TT} {rest:List Expr}
noncomputable def ku (t u:TT):TT:=fun σ H Q=>t σ H fun c H1=>if c=true then u σ H1 Q else Q false H1
noncomputable def tOr (t u:TT):TT:=fun σ H Q=>t σ H fun c H1=>if c=true then Q true H1 else u σ H1 Q
noncomputable def b9 (t:TT):TT:=fun σ H Q=>t σ H fun c H1=>Q (!c) H1
theorem pw_and1 (ha:PT X a tA):PW X (.BoolOp .And [a] pos) tA:=by
 intro wh pins s σ H Q I h
 refine isTrue_and (thn (ha pins s σ H Q I h) fun c s1 e=>?_)
 cases c with
 | true=>exact isTrue_and_nil e
 | false=>exact e
theorem pw_or1 (ha:PT X a tA):PW X (.BoolOp .Or [a] pos) tA:=by
 intro wh pins s σ H Q I h
 refine isTrue_or (thn (ha pins s σ H Q I h) fun c s1 e=>?_)
 cases c with
 | false=>exact isTrue_or_nil e
 | true=>exact e
theorem pw_and (ha:PT X a tA) (hb:PW X (.BoolOp .And (b::rest) pos) tB'):PW X (.BoolOp .And (a::b::rest) pos) (ku tA tB'):=by
 intro wh pins s σ H Q I h
 refine isTrue_and (thn (ha pins s σ H _ I h) fun c s1 ⟨H1,I1,q1⟩=>?_)
 cases c with
 | true=>exact hb wh pins s1 σ H1 Q I1 q1
 | false=>exact ⟨H1,I1,q1⟩
theorem pw_or (ha:PT X a tA) (hb:PW X (.BoolOp .Or (b::rest) pos) tB'):PW X (.BoolOp .Or (a::b::rest) pos) (tOr tA tB'):=by
 intro wh pins s σ H Q I h
 refine isTrue_or (thn (ha pins s σ H _ I h) fun c s1 ⟨H1,I1,q1⟩=>?_)
 cases c with
 | true=>exact ⟨H1,I1,q1⟩
 | false=>exact hb wh pins s1 σ H1 Q I1 q1
theorem F8 (ha:PT X a tA):PT X (.UnaryOp .Not a pos) (b9 tA):=by
 intro pins s σ H Q I h
 exact isTrue_not (ha pins s σ H (fun c H1=>Q (!c) H1) I h)
noncomputable def EG (ta tb:TE):TE:=fun σ H Q=>ta σ H fun x H1=>∃ c,x=.bl c∧if c=true then tb σ H1 Q else Q (.bl false) H1
noncomputable def EH (ta:TE):TE:=fun σ H Q=>ta σ H fun x H1=>∃ c,x=.bl c∧Q (.bl (!c)) H1
theorem F9 {op} {t:TE} (h:PE X a t):PE X (.BoolOp op [a] pos) t:=fun pins s σ H Q I hw=>BoolOp_one (h pins s σ H Q I hw)
theorem F_ (ha:PE X a ta) (hb:PE X (.BoolOp .And (b::rest) pos) tb):PE X (.BoolOp .And (a::b::rest) pos) (EG ta tb):=by
 intro pins s σ H Q I h
 refine BoolOp_and (thn (ha pins s σ H _ I h) fun v s1 ⟨x,H1,I1,r1,q1⟩=>?_)
 obtain ⟨c,rfl,q1⟩:=q1
 cases r1
 refine wpAny_truthy_bool ?_
 cases c with
 | true=>exact hb pins s1 σ H1 Q I1 q1
 | false=>exact ⟨.bl false,H1,I1,rfl,q1⟩
theorem Ga (ha:PE X a ta):PE X (.UnaryOp .Not a pos) (EH ta):=by
 intro pins s σ H Q I h
 refine UnaryOp_ (thn (ha pins s σ H _ I h) fun v s1 ⟨x,H1,I1,r1,q1⟩=>?_)
 obtain ⟨c,rfl,q1⟩:=q1
 cases r1
 exact not_of (wpAny_truthy_bool ⟨.bl (!c),H1,I1,rfl,q1⟩)
end
noncomputable def SqL (K:PySem.W.Frag) (H:Hp) (a:Addr) (xs:List V):Prop:=
 Rd H a (.lst xs) ∨
  ∃ (o:Obj) (its:Array Value) (n:Nat),K.lookup a=some o∧o.cls=.type "list" ∧ o.dict=none∧o.data=.seq its n∧its.size≤sizeLine∧Vals xs its.toList
noncomputable def SqT (K:PySem.W.Frag) (H:Hp) (a:Addr) (xs:List V):Prop:=
 Rd H a (.tup xs) ∨
  ∃ (o:Obj) (its:Array Value) (n:Nat),K.lookup a=some o∧o.cls=.type "tuple" ∧ o.data=.seq its n∧its.size≤sizeLine∧Vals xs its.toList
noncomputable def Lm:Value→Option V
 | .none=>some .non
 | .bool b=>some (.bl b)
 | .int i _=>some (.int i)
 | .str x _=>some (.str x)
 | .bytes b _=>some (.byt b)
 | .float b _=>some (.flt b)
 | .ref a=>some (.ref a)
 | .type n=>some (.ty n)
 | _=>none
theorem RelV.abs {x:V} {u:Value} (r:RelV x u):Lm u=some x:=by
 cases x with
 | non=>cases r;rfl
 | bl _=>cases r;rfl
 | int _=>obtain ⟨t,rfl⟩:=r;rfl
 | str _=>obtain ⟨t,rfl⟩:=r;rfl
 | byt _=>obtain ⟨t,rfl⟩:=r;rfl
 | flt _=>obtain ⟨t,rfl⟩:=r;rfl
 | ref _=>cases r;rfl
 | ty _=>cases r;rfl
theorem RelV.inj {x y:V} {u:Value} (r:RelV x u) (q:RelV y u):x=y:=Option.some.inj (r.abs.symm.trans q.abs)
theorem Vals.inj:∀ {xs ys:List V} {us:List Value},Vals xs us→Vals ys us→xs=ys
 | _,_,_,.nil,.nil=>rfl
 | _,_,_,.cons r t,.cons r' t'=>by rw [r.inj r',Vals.inj t t']
section
variable {X:Cx} {pins:List (Addr×Obj)} {σ:St} {H:Hp} {s:Shared} {a:Addr} {xs ys:List V}
theorem SqT.of {K:PySem.W.Frag} (h:H a=some (.tup xs)):SqT K H a xs:=.inl (.inl h)
theorem Inv.list (I:Inv X pins σ H s) (h:SqL X.K H a xs):∃ its:List Value,Vals xs its∧PlainL s.heap a its.toArray∧xs.length≤sizeLine:=by
 rcases h with h | ⟨o,its,n,hk,hc,hd,hs,hz,r⟩
 ·obtain ⟨z,its,n,r,e⟩:=h.ok I.hok
  exact ⟨its,r,⟨_,n,e,rfl,rfl,rfl⟩,z⟩
 ·refine ⟨its.toList,r,⟨o,n,I.kIn a o hk,hc,hd,by simpa using hs⟩,?_⟩
  have e:=r.length
  simp only [Array.length_toList] at e
  omega
theorem Inv.tuple (I:Inv X pins σ H s) (h:SqT X.K H a xs):∃ its:List Value,Vals xs its∧IsTup s.heap a its.toArray∧xs.length≤sizeLine:=by
 rcases h with h | ⟨o,its,n,hk,hc,hs,hz,r⟩
 ·obtain ⟨z,its,r,p⟩:=h.ok I.hok
  exact ⟨its,r,p,z⟩
 ·refine ⟨its.toList,r,⟨o,I.kIn a o hk,hc,n,by simpa using hs⟩,?_⟩
  have e:=r.length
  simp only [Array.length_toList] at e
  omega
theorem Inv.yM (I:Inv X pins σ H s) (h:SqL X.K H a xs) (h':SqL X.K H a ys):xs=ys:=by
 obtain ⟨its,r,⟨o,n,e,_,_,d⟩,_⟩:=I.list h
 obtain ⟨its',r',⟨o',n',e',_,_,d'⟩,_⟩:=I.list h'
 rw [e] at e';cases e'
 rw [d] at d'
 injection d' with d1 _
 have:its=its':=by simpa using congrArg Array.toList d1
 subst this
 exact r.inj r'
theorem Inv.w_ (I:Inv X pins σ H s) (h:SqT X.K H a xs) (h':SqT X.K H a ys):xs=ys:=by
 obtain ⟨its,r,⟨o,e,_,n,d⟩,_⟩:=I.tuple h
 obtain ⟨its',r',⟨o',e',_,n',d'⟩,_⟩:=I.tuple h'
 rw [e] at e';cases e'
 rw [d] at d'
 injection d' with d1 _
 have:its=its':=by simpa using congrArg Array.toList d1
 subst this
 exact r.inj r'
end
noncomputable abbrev Cx.nH (X:Cx) (E:Value→Shared→Prop):Cx:={ X with xe:=E }
noncomputable abbrev Cx.nox (X:Cx):Cx:=X.nH fun _ _=>False
theorem Cx.Ok.nH {X:Cx} (ok:X.Ok) (E:Value→Shared→Prop):(X.nH E).Ok:=
 ⟨ok.mod,ok.kind,ok.glob,ok.blt,ok.above,ok.inj,ok.has,ok.cab,ok.hd,ok.frames,ok.stk,ok.exf,ok.bs,ok.bsz,ok.yK,ok.Cq,ok.kR,ok.frf⟩
theorem Cx.Ok.fC {X:Cx} {E:Value→Shared→Prop} (ok:(X.nH E).Ok):X.Ok:=
 ⟨ok.mod,ok.kind,ok.glob,ok.blt,ok.above,ok.inj,ok.has,ok.cab,ok.hd,ok.frames,ok.stk,ok.exf,ok.bs,ok.bsz,ok.yK,ok.Cq,ok.kR,ok.frf⟩
section
variable {X:Cx} {pins:List (Addr×Obj)} {σ:St} {H:Hp} {s:Shared} {E:Value→Shared→Prop}
theorem Inv.nH (I:Inv X pins σ H s) (E:Value→Shared→Prop):Inv (X.nH E) pins σ H s:=⟨I.ok.nH E,I.os,I.bare,I.base,I.loc,I.cell,I.free,I.gG,I.pin,I.hok,I.len⟩
theorem Inv.fC (I:Inv (X.nH E) pins σ H s):Inv X pins σ H s:=⟨I.ok.fC,I.os,I.bare,I.base,I.loc,I.cell,I.free,I.gG,I.pin,I.hok,I.len⟩
theorem SP.fC {D:Ends} {f:Flow} {s':Shared} (h:SP (X.nH E) pins D f s'):SP X pins D f s':=by
 cases f with
 | next=>obtain ⟨σ',H',I,q⟩:=h;exact ⟨σ',H',I.fC,q⟩
 | brk=>obtain ⟨σ',H',I,q⟩:=h;exact ⟨σ',H',I.fC,q⟩
 | cont=>obtain ⟨σ',H',I,q⟩:=h;exact ⟨σ',H',I.fC,q⟩
 | ret u=>obtain ⟨v,σ',H',I,r,q⟩:=h;exact ⟨v,σ',H',I.fC,r,q⟩
theorem PSs.nox {st:List Stmt} {t:TS} (h:PSs X.nox st t):PSs X st t:=fun pins s σ H D I hw=>
 wpAny_mono (h pins s σ H D (I.nH _) hw) (fun _ _ q=>q.fC) fun _ _ z=>False.elim z
end
section
variable {X:Cx} {st:Stmt} {rest:List Stmt} {t u:TS} {e:Expr} {te:TE} {pos:Pos}
noncomputable def vd:TS:=fun D σ H=>D.nx σ H
noncomputable def gC (t u:TS):TS:=fun D σ H=>t { D with nx:=u D } σ H
theorem o4:PSs X [] vd:=fun _ _ σ H _ I h=>wpAny_execs_nil ⟨σ,H,I,h⟩
theorem bh (h1:PS X st t) (h2:PSs X rest u):PSs X (st::rest) (gC t u):=by
 intro pins s σ H D I h
 refine wpAny_execs_cons (thn (h1 pins s σ H { D with nx:=u D } I h) fun f s1 q=>?_)
 cases f with
 | next=>
  obtain ⟨σ',H',I',q⟩:=q
  exact h2 pins s1 σ' H' D I' q
 | ret v=>exact q
 | brk=>exact q
 | cont=>exact q
theorem dH (h1:PS X st t):PSs X [st] t:=by
 intro pins s σ H D I h
 refine wpAny_execs_cons (thn (h1 pins s σ H D I h) fun f s1 q=>?_)
 cases f with
 | next=>exact wpAny_execs_nil q
 | ret v=>exact q
 | brk=>exact q
 | cont=>exact q
theorem Inv.quiet {pins:List (Addr×Obj)} {σ:St} {H:Hp} {s:Shared} (I:Inv X pins σ H s):interactive X.env=false:=by simp [interactive,I.ok.kind]
noncomputable def iM (te:TE):TS:=fun D σ H=>te σ H fun _ H1=>D.nx σ H1
theorem dI (he:PE X e te) (hs:swapsWith e none pos.line X.env=pure false:=by rfl):PS X (.Expr e pos) (iM te):=by
 intro pins s σ H D I h
 exact wpAny_Expr_any (thn (he pins s σ H _ I h) fun v s1 ⟨x,H1,I1,r1,q1⟩=>⟨σ,H1,I1,q1⟩) I.quiet hs
noncomputable def yN (te:TE):TS:=fun D σ H=>te σ H D.rt
theorem o5 (he:PE X e te):PS X (.Return (some e) pos) (yN te):=by
 intro pins s σ H D I h
 exact wpAny_Return_some (thn (he pins s σ H _ I h) fun v s1 ⟨x,H1,I1,r1,q1⟩=>⟨x,σ,H1,I1,r1,q1⟩)
noncomputable def Cs (c:TT) (t u:TS):TS:=fun D σ H=>c σ H fun b H1=>if b=true then t D σ H1 else u D σ H1
theorem yO {c:Expr} {a b:List Stmt} {tc:TT} (hc:PT X c tc) (ha:PSs X a t) (hb:PSs X b u):PS X (.If c a b pos) (Cs tc t u):=by
 intro pins s σ H D I h
 refine wpAny_If (thn (hc pins s σ H _ I h) fun d s1 ⟨H1,I1,q1⟩=>?_)
 cases d with
 | true=>exact ha pins s1 σ H1 D I1 q1
 | false=>exact hb pins s1 σ H1 D I1 q1
noncomputable def Gb:TS:=fun _ _ _=>False
theorem yP:PS X st Gb:=fun _ _ _ _ _ _ h=>h.elim
end
noncomputable abbrev TG:=V→St→Hp→(St→Hp→Prop)→Prop
noncomputable abbrev TGs:=List V→St→Hp→(St→Hp→Prop)→Prop
noncomputable def PG (X:Cx) (target:Expr) (t:TG):Prop:=
 ∀ (pins:List (Addr×Obj)) (s:Shared) (σ:St) (H:Hp) (v:V) (u:Value) (Q:St→Hp→Prop),Inv X pins σ H s→RelV v u→t v σ H Q →
  wpAny (model X.prog X.w) X.A (assign target X.env u) (fun _ s'=>∃ σ' H',Inv X pins σ' H' s'∧Q σ' H') X.xe s
noncomputable def PGs (X:Cx) (ts:List Expr) (t:TGs):Prop:=
 ∀ (pins:List (Addr×Obj)) (s:Shared) (σ:St) (H:Hp) (vs:List V) (us:List Value) (Q:St→Hp→Prop),Inv X pins σ H s→Vals vs us→t vs σ H Q →
  wpAny (model X.prog X.w) X.A (assignInOrder ((assignEach ts X.env).map (·.2)) us) (fun _ s'=>∃ σ' H',Inv X pins σ' H' s'∧Q σ' H') X.xe s
noncomputable abbrev Gd:=V→V→V→Hp→(Hp→Prop)→Prop
noncomputable def Jd (X:Cx) (t:Gd):Prop:=
 ∀ (pins:List (Addr×Obj)) (s:Shared) (σ:St) (H:Hp) (o i v:V) (ov iv u:Value) (Q:Hp→Prop),Inv X pins σ H s→RelV o ov→RelV i iv→RelV v u→t o i v H Q →
  wpAny (model X.prog X.w) X.A (setItem ov iv u) (fun _ s'=>∃ H',Inv X pins σ H' s'∧Q H') X.xe s
section
variable {X:Cx} {pos:Pos}
noncomputable def cE (i:Nat):TG:=fun v σ H Q=>Q (σ.set i (some v)) H
theorem kH {i:Nat} {x:Str} (hN:X.N.Nodup) (hi:X.N[i]?=some x) (hx:Loc X.env.scope x) (hf:X.fn x=true∨X.env.scope.names.lookup x=some .local:=by first | exact .inl rfl | exact .inr rfl | assumption):PG X (.Name x pos) (cE i):=by
 intro pins s σ H v u Q I r h
 exact wpAny_assign_Name (qB I hN hi hx r (fun s' I'=>⟨_,H,I',h⟩) hf)
noncomputable def Je:TGs:=fun vs σ H Q=>vs=[]∧Q σ H
noncomputable def EI (t:TG) (u:TGs):TGs:=fun vs σ H Q=>∃ v r,vs=v::r∧t v σ H fun σ' H'=>u r σ' H' Q
theorem Ct:PGs X [] Je:=by
 intro pins s σ H vs us Q I r h
 obtain ⟨e,h⟩:=h
 subst e
 cases r
 exact assignInOrder_nil ⟨σ,H,I,h⟩
theorem yQ {e:Expr} {es:List Expr} {t:TG} {u:TGs} (h1:PG X e t) (h2:PGs X es u)
  (hs:(assignEach (e::es) X.env).map (·.2)=assign e X.env::(assignEach es X.env).map (·.2):=by rfl):PGs X (e::es) (EI t u):=by
 intro pins s σ H vs us Q I r h
 obtain ⟨v,vr,e1,h⟩:=h
 subst e1
 cases r with
 | cons r rr=>
  rw [hs]
  refine assignInOrder_cons (thn (h1 pins s σ H _ _ _ I r h) fun _ s1 ⟨σ1,H1,I1,q1⟩=>?_)
  exact h2 pins s1 σ1 H1 _ _ Q I1 rr q1
noncomputable def Ge (K:PySem.W.Frag) (n:Nat) (t:TGs):TG:=fun v σ H Q=>∃ a xs,v=.ref a∧SqT K H a xs∧xs.length=n∧t xs σ H Q
theorem yR {es:List Expr} {k:Nat} {t:TGs} {n:Nat} (hc:X.calm=true) (h:PGs X es t)
  (hn:(assignEach es X.env).length=n:=by rfl) (hst:(assignEach es X.env).findIdx? (·.1)=none:=by rfl):PG X (.Tuple es k pos) (Ge X.K n t):=by
 intro pins s σ H v u Q I r hw
 obtain ⟨a,xs,e1,hq,hl,hw⟩:=hw
 subst e1
 cases r
 obtain ⟨its,rv,ht,hz⟩:=I.tuple hq
 refine assign_Tuple_tuple (I.ok.hd hc) ht (by simp [hn,← hl,rv.length]) hst fun h' hx=>?_
 have I1:Inv X pins σ H { s with heap:=h' }:=I.kept (t':=s.toks) fun b o e=>hx b o (Nat.ne_of_lt (Heap.lt_size e)) e
 exact h pins _ σ H xs _ Q I1 (by simpa using rv) hw
noncomputable def kB (to ti:TE) (t:Gd):TG:=fun v σ H Q=>to σ H fun o H1=>ti σ H1 fun i H2=>t o i v H2 fun H3=>Q σ H3
theorem Gf {o i:Expr} {to ti:TE} {t:Gd} (ho:PE X o to) (hi:PE X i ti) (hs:Jd X t)
  (ha:∀ v,assign (.Subscript o i pos) X.env v=(do
   let ov ← holding [v] (eval o X.env)
   let iv ← holding [v,ov] (eval i X.env)
   standAt pos
   holding [v,ov,iv] (setItem ov iv v)
   release [v,ov,iv] []):=by intro _;rfl):PG X (.Subscript o i pos) (kB to ti t):=by
 intro pins s σ H v u Q I r h
 rw [ha]
 refine wpAny_bind (wpAny_holding (thn (ho pins s σ H _ I h) fun ov s1 ⟨x,H1,I1,r1,q1⟩=>?_))
 refine wpAny_bind (wpAny_holding (thn (hi pins s1 σ H1 _ I1 q1) fun iv s2 ⟨y,H2,I2,r2,q2⟩=>?_))
 refine wpAny_bind (wpAny_standAt (wpAny_bind (wpAny_holding (thn (hs pins s2 σ H2 x y v ov iv u _ I2 r1 r2 r q2) fun _ s3 ⟨H3,I3,q3⟩=>?_))))
 exact wpAny_release ⟨σ,H3,I3,q3⟩
noncomputable def iN (te:TE) (g:TG):TS:=fun D σ H=>te σ H fun x H1=>g x σ H1 D.nx
theorem yS {tg e:Expr} {te:TE} {g:TG} (he:PE X e te) (hg:PG X tg g) (hs:swapsWithSole [tg] e pos.line X.env=pure false:=by rfl) (hw:swappedStores [tg] e X.env=pure none:=by rfl)
  (h1:(assignEach [tg] X.env).map (·.2)=[assign tg X.env]:=by rfl):PS X (.Assign [tg] e pos) (iN te g):=by
 intro pins s σ H D I h
 refine wpAny_Assign_stores (thn (he pins s σ H _ I h) fun v s1 ⟨x,H1,I1,r1,q1⟩=>?_) hs hw
 rw [h1]
 exact thn (hg pins s1 σ H1 x v _ I1 r1 q1) fun _ s2 q=>q
theorem kW {i:Nat} {x:Str} {e:Expr} {te:TE} {pos':Pos} (hN:X.N.Nodup) (hi:X.N[i]?=some x) (hx:Loc X.env.scope x) (he:PE X e te) (hs:swapsWith e (some (.Name x pos')) pos.line X.env=pure false:=by rfl) (hf:X.fn x=true∨X.env.scope.names.lookup x=some .local:=by first | exact .inl rfl | exact .inr rfl | assumption) :
  PS X (.Assign [.Name x pos'] e pos) (iN te (cE i)):=by
 intro pins s σ H D I h
 refine wpAny_Assign_Name (thn (he pins s σ H _ I h) fun v s1 ⟨y,H1,I1,r1,q1⟩=>?_) hs
 exact qB I1 hN hi hx r1 (fun s2 I2=>⟨_,H1,I2,q1⟩) hf
end
section
variable {X:Cx} {pos:Pos}
noncomputable def yT (c:TT) (tb:TS):TS:=fun D σ H=>∃ W:Nat→St→Hp→Prop,(∃ m,W m σ H)∧∀ m σ H,W m σ H →
 c σ H fun b H1=>if b=true then ∃ N:St→Hp→Prop,(∀ σ' H',N σ' H'→∃ m',m'<m∧W m' σ' H')∧tb { D with nx:=N,ct:=N,bk:=D.nx } σ H1 else D.nx σ H1
theorem yU {c:Expr} {body:List Stmt} {tc:TT} {tb:TS} (hp:PassesOwn (model X.prog X.w) X.A X.env X.xe) (hc:PT X c tc) (hb:PSs X body tb):PS X (.While c body [] pos) (yT tc tb):=by
 intro pins s σ H D I h
 obtain ⟨W,⟨m0,w0⟩,turn⟩:=h
 refine wpAny_While (codeAny_whileLoop (fun n s'=>∃ σ' H',Inv X pins σ' H' s'∧W n σ' H') ?_ m0 ⟨σ,H,I,w0⟩)
 rintro n s1 ⟨σ1,H1,I1,w1⟩
 refine wpAny_passesOwn hp (thn (hc pins s1 σ1 H1 _ I1 (turn n σ1 H1 w1)) fun b s2 ⟨H2,I2,q2⟩=>?_)
 cases b with
 | true=>
  obtain ⟨N,hN,q2⟩:=q2
  rw [if_pos rfl]
  refine wpAny_passesOwn hp (thn (hb pins s2 σ1 H2 _ I2 q2) fun f s3 q3=>?_)
  cases f with
  | next=>
   obtain ⟨σ3,H3,I3,n3⟩:=q3
   obtain ⟨m',hm,w3⟩:=hN σ3 H3 n3
   exact ⟨m',hm,σ3,H3,I3,w3⟩
  | cont=>
   obtain ⟨σ3,H3,I3,n3⟩:=q3
   obtain ⟨m',hm,w3⟩:=hN σ3 H3 n3
   exact ⟨m',hm,σ3,H3,I3,w3⟩
  | brk=>exact q3
  | ret v=>exact q3
 | false=>
  rw [if_neg Bool.false_ne_true]
  exact wpAny_execs_nil ⟨σ1,H2,I2,q2⟩
end
structure It where
 go:Nat→Hp→Prop
 yld:Nat→Hp→V→Hp→Prop
 stop:Nat→Hp→Prop
noncomputable def qC (X:Cx) (pins:List (Addr×Obj)) (H:Hp) (b:Addr):Prop:=
 H b=none∧b≠X.env.locals∧b∉X.fs∧(b∈X.ex∨X.s₀.heap.objs.size≤b)∧(∀ x c,X.env.cells.lookup x=some c→c≠b)∧∀ p∈X.pn++pins,p.1≠b
theorem Inv.Cu {X:Cx} {pins:List (Addr×Obj)} {σ:St} {H H':Hp} {s:Shared} {b:Addr} (I:Inv X pins σ H s) (hb:s.heap.objs.size≤b) (hn:H' b=none):qC X pins H' b:=by
 refine ⟨hn,Nat.ne_of_gt (Nat.lt_of_lt_of_le I.lt hb),I.Lk hb,.inr (Nat.le_trans I.sz hb),fun x c e z=>?_,fun p hp z=>?_⟩
 ·obtain ⟨v,q⟩:=I.cell x c e
  exact absurd (Nat.lt_of_lt_of_le q.lt (by rw [z];exact hb)) (Nat.lt_irrefl _)
 ·exact absurd (Nat.lt_of_lt_of_le (Heap.lt_size (I.pin p hp).1) (by rw [z];exact hb)) (Nat.lt_irrefl _)
structure Turn (P:Program) (w:World) (K:PySem.W.Frag) (tg:Expr) (J:It) (fp:List Addr) (it:Addr) (tn:Nat→Heap→Prop):Prop where
 mem:it∈fp
 obj:∀ i h,tn i h→∀ b∈fp,∃ o,h.get? b=some o∧∀ v,o.data≠.cell v
 keep:∀ i h h',tn i h→(∀ b∈fp,∀ o,h.get? b=some o→h'.get? b=some o)→tn i h'
 item:∀ (X:Cx),X.prog=P→X.w=w→X.K=K→X.calm=true→∀ (i:Nat) (pins:List (Addr×Obj)) (s:Shared) (σ:St) (H:Hp) (E:Value→Shared→Prop),Inv X pins σ H s→(∀ b∈fp,qC X pins H b)→tn i s.heap→J.go i H →
  wpAny (model P w) X.A (pyNext (.ref it)) (fun r s1=>∃ u,r=some u ∧
   wpAny (model P w) X.A (letOwnedTupleGo tg (.ref it) u) (fun _ s2=>∃ x H',Inv X pins σ H' s2∧RelV x u∧J.yld i H x H'∧tn (i+1) s2.heap∧∀ b∈fp,H' b=none) E s1) E s
 done:∀ (X:Cx),X.prog=P→X.w=w→X.K=K→X.calm=true→∀ (i:Nat) (pins:List (Addr×Obj)) (s:Shared) (σ:St) (H:Hp) (E:Value→Shared→Prop),Inv X pins σ H s→(∀ b∈fp,qC X pins H b)→tn i s.heap→J.stop i H →
  wpAny (model P w) X.A (pyNext (.ref it)) (fun r s1=>r=none∧Inv X pins σ H s1) E s
 self:∀ (A:Around) (i:Nat) (s:Shared) (Q:Value→Shared→Prop) (E:Value→Shared→Prop),tn i s.heap→Q (.ref it) s→wpAny (model P w) A (pyIter (.ref it)) Q E s
noncomputable abbrev TI:=St→Hp→(It→Hp→Prop)→Prop
noncomputable def PIE (X:Cx) (pins:List (Addr×Obj)) (σ:St) (tg:Expr) (R:It→Hp→Prop) (itv:Value) (s2:Shared):Prop:=
 ∃ (it:Addr) (fp:List Addr) (tn:Nat→Heap→Prop) (J:It) (H':Hp),itv=.ref it∧Inv X pins σ H' s2∧Turn X.prog X.w X.K tg J fp it tn∧tn 0 s2.heap∧(∀ b∈fp,qC X pins H' b)∧R J H'
noncomputable def PI (X:Cx) (tg iter:Expr) (wi:TI):Prop:=
 ∀ (pins:List (Addr×Obj)) (s:Shared) (σ:St) (H:Hp) (R:It→Hp→Prop),Inv X pins σ H s→wi σ H R →
  wpAny (model X.prog X.w) X.A (eval iter X.env) (fun v s1=>wpAny (model X.prog X.w) X.A (pyIter v) (PIE X pins σ tg R) X.xe s1) X.xe s
theorem ve {M:Model} {A:Around} {E:Value→Shared→Prop} {s:Shared} {tg:Expr} {it:Addr} {u:Value} {o:Obj} {n:String} {vs:Array Value} {Q:Unit→Shared→Prop} (ho:s.heap.get? it=some o) (hc:o.cls=.type n) (hd:o.data=.fields vs)
  (hn:["enumerate","zip","dict_itemiterator","dict_reverseitemiterator","odict_iterator","itertools.zip_longest","itertools.pairwise"].contains n=false) (hQ:Q () s):wpAny M A (letOwnedTupleGo tg (.ref it) u) Q E s:=by
 unfold letOwnedTupleGo
 cases tg<;>first
  | exact wpAny_pure hQ
  | (cases u<;>first
    | exact wpAny_pure hQ
    | (refine wpAny_bind (wpAny_load ho ?_)
       rw [hc,hd]
       show wpAny M A (if (["enumerate","zip","dict_itemiterator","dict_reverseitemiterator","odict_iterator","itertools.zip_longest","itertools.pairwise"].contains n&&vs[0]? == some (rawInt _))=true then _ else _) Q E s
       rw [if_neg (by intro h;rw [hn,Bool.false_and] at h;cases h)]
       exact wpAny_pure hQ))
noncomputable def Itl (K:PySem.W.Frag) (a:Addr):It:=
 ⟨fun i H=>∃ xs x,SqL K H a xs∧xs[i]?=some x,fun i H x H'=>H'=H∧∀ xs,SqL K H a xs→xs[i]?=some x,fun i H=>∃ xs,SqL K H a xs∧xs.length≤i⟩
noncomputable def Itt (K:PySem.W.Frag) (a:Addr):It:=
 ⟨fun i H=>∃ xs x,SqT K H a xs∧xs[i]?=some x,fun i H x H'=>H'=H∧∀ xs,SqT K H a xs→xs[i]?=some x,fun i H=>∃ xs,SqT K H a xs∧xs.length≤i⟩
noncomputable def Itr (lo:Int) (n:Nat):It:=⟨fun i _=>i<n,fun i H x H'=>H'=H∧x=.int (lo+i),fun i _=>n≤i⟩
theorem xg {P:Program} {w:World} {K:PySem.W.Frag} {tg:Expr} (a it:Addr):Turn P w K tg (Itl K a) [it] it (fun i h=>h.IsListIter it a i) where
 mem:=by simp
 obj:=fun i h st b hb=>by
  have e:b=it:=by simpa using hb
  subst e
  obtain ⟨o,e,c,d⟩:=st
  exact ⟨o,e,fun v z=>by rw [d] at z;cases z⟩
 keep:=fun i h h' st k=>st.at fun o e=>k it (by simp) o e
 item:=by
  intro X hP hw hK hc i pins s σ H E I hf st hg
  subst hP hw hK
  obtain ⟨xs,x,hq,hx⟩:=hg
  obtain ⟨its,rv,p,hz⟩:=I.list hq
  obtain ⟨u,hu,ru⟩:=rv.get hx
  obtain ⟨f0,f1,f2,f3,f4,f5⟩:=hf it (by simp)
  refine wpAny_pyNext_list_item st p.isList (x:=u) (by simpa using hu) fun h' st' sb=>?_
  have I1:Inv X pins σ H { s with heap:=h' }:=I.turned (t':=s.toks) (fun b o hb e=>(sb.2 b hb).trans e) f0 f1 f3 f4 f5
  obtain ⟨o,e,c,d⟩:=id st'
  exact ⟨u,rfl,ve (s:={ s with heap:=h' }) e c d (by decide) ⟨x,H,I1,ru,⟨rfl,fun ys hy=>by rw [I.yM hy hq];exact hx⟩,st',fun b hb=>(hf b hb).1⟩⟩
 done:=by
  intro X hP hw hK hc i pins s σ H E I hf st hg
  subst hP hw hK
  obtain ⟨xs,hq,hx⟩:=hg
  obtain ⟨its,rv,p,hz⟩:=I.list hq
  obtain ⟨f0,f1,f2,f3,f4,f5⟩:=hf it (by simp)
  have hl:=rv.length
  exact wpAny_pyNext_list_end (I.ok.hd hc) st p.isList (by simp;omega) fun h' eb=>⟨rfl,I.turned (t':=s.toks) (fun b o hb e=>eb b o hb e) f0 f1 f3 f4 f5⟩
 self:=fun _ _ _ _ _ st h=>wpAny_pyIter_listiter st h
theorem sZ {P:Program} {w:World} {K:PySem.W.Frag} {tg:Expr} (a it:Addr):Turn P w K tg (Itt K a) [it] it (fun i h=>h.IsTupleIter it a i) where
 mem:=by simp
 obj:=fun i h st b hb=>by
  have e:b=it:=by simpa using hb
  subst e
  obtain ⟨o,e,c,d⟩:=st
  exact ⟨o,e,fun v z=>by rw [d] at z;cases z⟩
 keep:=fun i h h' st k=>st.at fun o e=>k it (by simp) o e
 item:=by
  intro X hP hw hK hc i pins s σ H E I hf st hg
  subst hP hw hK
  obtain ⟨xs,x,hq,hx⟩:=hg
  obtain ⟨its,rv,p,hz⟩:=I.tuple hq
  obtain ⟨u,hu,ru⟩:=rv.get hx
  obtain ⟨f0,f1,f2,f3,f4,f5⟩:=hf it (by simp)
  refine wpAny_pyNext_tuple_item st (show s.heap.IsTuple a its.toArray from p) (x:=u) (by simpa using hu) fun h' st' sb=>?_
  have I1:Inv X pins σ H { s with heap:=h' }:=I.turned (t':=s.toks) (fun b o hb e=>(sb.2 b hb).trans e) f0 f1 f3 f4 f5
  obtain ⟨o,e,c,d⟩:=id st'
  exact ⟨u,rfl,ve (s:={ s with heap:=h' }) e c d (by decide) ⟨x,H,I1,ru,⟨rfl,fun ys hy=>by rw [I.w_ hy hq];exact hx⟩,st',fun b hb=>(hf b hb).1⟩⟩
 done:=by
  intro X hP hw hK hc i pins s σ H E I hf st hg
  subst hP hw hK
  obtain ⟨xs,hq,hx⟩:=hg
  obtain ⟨its,rv,p,hz⟩:=I.tuple hq
  obtain ⟨f0,f1,f2,f3,f4,f5⟩:=hf it (by simp)
  have hl:=rv.length
  exact wpAny_pyNext_tuple_end (I.ok.hd hc) st (show s.heap.IsTuple a its.toArray from p) (by simp;omega) fun h' eb=>⟨rfl,I.turned (t':=s.toks) (fun b o hb e=>eb b o hb e) f0 f1 f3 f4 f5⟩
 self:=fun _ _ _ _ _ st h=>wpAny_pyIter_tupleiter st h
theorem s_ {P:Program} {w:World} {K:PySem.W.Frag} {tg:Expr} (it:Addr) (lo:Int) (n:Nat):Turn P w K tg (Itr lo n) [it] it (fun i h=>IsRangeIter h it (lo+(i:Nat)*1) ((n:Int)-(i:Nat)) 1) where
 mem:=by simp
 obj:=fun i h st b hb=>by
  have e:b=it:=by simpa using hb
  subst e
  exact ⟨_,st,fun v z=>by
   have z':Data.fields _=Data.cell v:=z
   cases z'⟩
 keep:=fun i h h' st k=>k it (by simp) _ st
 item:=by
  intro X hP hw hK hc i pins s σ H E I hf st hg
  subst hP hw hK
  obtain ⟨f0,f1,f2,f3,f4,f5⟩:=hf it (by simp)
  have W:=Walks.range (prog:=X.prog) (w:=X.w) (I.ok.hd hc) it lo 1 n
  refine W.item i s _ _ hg st fun v h' tk hv st' kk=>?_
  obtain ⟨t,rfl⟩:=hv
  have I1:Inv X pins σ H { s with heap:=h',toks:=tk }:=I.turned (fun b o hb e=>kk b o (by simpa using hb) e) f0 f1 f3 f4 f5
  refine ⟨_,rfl,ve (s:={ s with heap:=h',toks:=tk }) (n := "range_iterator") st' rfl rfl (by decide) ⟨.int (lo+i),H,I1,⟨t,?_⟩,⟨rfl,rfl⟩,st',fun b hb=>(hf b hb).1⟩⟩
  rw [Int.mul_one]
 done:=by
  intro X hP hw hK hc i pins s σ H E I hf st hg
  subst hP hw hK
  obtain ⟨f0,f1,f2,f3,f4,f5⟩:=hf it (by simp)
  exact wpAny_pyNext_range_end (I.ok.hd hc) st (by have:n≤i:=hg;omega) fun h' eb=>⟨rfl,I.turned (t':=s.toks) (fun b o hb e=>eb b o hb e) f0 f1 f3 f4 f5⟩
 self:=fun _ _ _ _ _ st h=>wpAny_pyIter_rangeiter st h
section
variable {X:Cx} {tg:Expr}
noncomputable def kX (K:PySem.W.Frag) (tl:TE):TI:=fun σ H R=>tl σ H fun x H1=>∃ a,x=.ref a∧(∃ xs,SqL K H1 a xs)∧R (Itl K a) H1
noncomputable def yV (K:PySem.W.Frag) (tl:TE):TI:=fun σ H R=>tl σ H fun x H1=>∃ a,x=.ref a∧(∃ xs,SqT K H1 a xs)∧R (Itt K a) H1
theorem kI {l:Expr} {tl:TE} (hl:PE X l tl):PI X tg l (kX X.K tl):=by
 intro pins s σ H R I h
 refine thn (hl pins s σ H _ I h) fun v s1 ⟨x,H1,I1,r1,q1⟩=>?_
 obtain ⟨a,e,⟨xs,hq⟩,q⟩:=q1
 subst e
 cases r1
 obtain ⟨its,rv,p,hz⟩:=I1.list hq
 refine wpAny_pyIter_list p.isList ?_
 refine ⟨s1.heap.objs.size,[s1.heap.objs.size],_,_,H1,rfl,I1.kept (t':=s1.toks) fun b o e=>Heap.get?_push_of_some _ e,xg a _,⟨_,Heap.get?_push_size _ rfl,rfl,rfl⟩,fun b hb=>?_,q⟩
 have e:b=s1.heap.objs.size:=by simpa using hb
 subst e
 exact I1.Cu (Nat.le_refl _) (I1.hok.fresh (Nat.le_refl _))
theorem yW {l:Expr} {tl:TE} (hl:PE X l tl):PI X tg l (yV X.K tl):=by
 intro pins s σ H R I h
 refine thn (hl pins s σ H _ I h) fun v s1 ⟨x,H1,I1,r1,q1⟩=>?_
 obtain ⟨a,e,⟨xs,hq⟩,q⟩:=q1
 subst e
 cases r1
 obtain ⟨its,rv,p,hz⟩:=I1.tuple hq
 refine wpAny_pyIter_tuple (show s1.heap.IsTuple a its.toArray from p) ?_
 refine ⟨s1.heap.objs.size,[s1.heap.objs.size],_,_,H1,rfl,I1.kept (t':=s1.toks) fun b o e=>Heap.get?_push_of_some _ e,sZ a _,⟨_,Heap.get?_push_size _ rfl,rfl,rfl⟩,fun b hb=>?_,q⟩
 have e:b=s1.heap.objs.size:=by simpa using hb
 subst e
 exact I1.Cu (Nat.le_refl _) (I1.hok.fresh (Nat.le_refl _))
theorem yX {pins:List (Addr×Obj)} {σ:St} {H:Hp} {s:Shared} {R:It→Hp→Prop} {E:Value→Shared→Prop} {lo hi:Int} {t u v:Tok} {tk:Nat} (I:Inv X pins σ H s) (h1:-(2 ^ 62)≤lo) (h2:lo<2 ^ 62) (h3:-(2 ^ 62)≤hi) (h4:hi<2 ^ 62)
  (q:R (Itr lo (hi-lo).toNat) H):wpAny (model X.prog X.w) X.A (pyIter (.ref s.heap.objs.size)) (PIE X pins σ tg R) E { s with heap:=s.heap.push { cls:=.type "range",data:=.fields #[.int lo t,.int hi u,.int 1 v] },toks:=tk }:=by
 refine wpAny_pyIter_range (IsRange.new ..) (small_one h1 h2 h3 h4) ?_
 have I1:Inv X pins σ H { s with heap:=s.heap.push { cls:=.type "range",data:=.fields #[.int lo t,.int hi u,.int 1 v] },toks:=tk }:=I.kept fun b o e=>Heap.get?_push_of_some _ e
 refine ⟨(s.heap.push { cls:=.type "range",data:=.fields #[.int lo t,.int hi u,.int 1 v] }).objs.size,[(s.heap.push { cls:=.type "range",data:=.fields #[.int lo t,.int hi u,.int 1 v] }).objs.size],_,_,H,rfl,
  I1.kept (t':=tk) fun b o e=>Heap.get?_push_of_some _ e,s_ _ lo (hi-lo).toNat,?_,fun b hb=>?_,q⟩
 ·have e1:lo+((0:Nat):Int)*1=lo:=by simp
  have e2:(((hi-lo).toNat:Nat):Int)-((0:Nat):Int)=Builtin.Range.rangeSize lo hi 1:=by rw [rangeSize_one];split<;>omega
  show IsRangeIter _ _ (lo+((0:Nat):Int)*1) ((((hi-lo).toNat:Nat):Int)-((0:Nat):Int)) 1
  rw [e1,e2]
  exact Heap.get?_push_size _ rfl
 ·have e:b=(s.heap.push { cls:=.type "range",data:=.fields #[.int lo t,.int hi u,.int 1 v] }).objs.size:=by simpa using hb
  subst e
  exact I1.Cu (Nat.le_refl _) (I1.hok.fresh (Nat.le_refl _))
noncomputable def EJ (ta:TA):TI:=fun σ H R=>ta σ H fun vs H1=>∃ j:Int,vs=[.int j]∧-(2 ^ 62)≤j∧j<2 ^ 62∧R (Itr 0 j.toNat) H1
theorem xh {a:Expr} {ta:TA} {p pos:Pos} (hg:Gl X "range") (hm:X.mg "range" = none) (ha:PA X [a] ta) (hs:starEach [a] X.env=[(false,eval a X.env)]:=by rfl):PI X tg (.Call (.Name "range" p) [a] [] pos) (EJ ta):=by
 intro pins s σ H R I h
 refine Call_ (kU I hg hm boot_range (PyProof.Rows.callWith_type1 (thn (ha pos pins s σ H _ I h) fun us s1 ⟨vs,H1,I1,r1,q1⟩=>?_) hs rfl))
 obtain ⟨j,e,q1,q2,q⟩:=q1
 subst e
 cases r1 with
 | cons r rr=>
  cases rr
  obtain ⟨t,rfl⟩:=r
  exact call_range_1 (yX I1 (by omega) (by omega) q1 q2 (by simpa using q))
noncomputable def yY (wi:TI) (g:TG) (tb:TS):TS:=fun D σ H=>wi σ H fun J H1=>∃ W:Nat→Nat→St→Hp→Prop,(∃ m,W 0 m σ H1)∧∀ i m σ H,W i m σ H →
 (J.stop i H∧D.nx σ H)∨(J.go i H∧∃ N:St→Hp→Prop,(∀ σ' H',N σ' H'→∃ m',m'<m∧W (i+1) m' σ' H')∧∀ x H',J.yld i H x H'→g x σ H' fun σ2 H2=>tb { D with nx:=N,ct:=N,bk:=D.nx } σ2 H2)
noncomputable def kY (fp:List Addr) (h:Heap):List (Addr×Obj):=fp.filterMap fun b=>(h.get? b).map fun o=>(b,o)
theorem eu {fp:List Addr} {h:Heap} {b:Addr} {o:Obj} (hb:b∈fp) (e:h.get? b=some o):(b,o)∈kY fp h:=List.mem_filterMap.mpr ⟨b,hb,by rw [e];rfl⟩
theorem xj {fp:List Addr} {h:Heap} {p:Addr×Obj} (hp:p∈kY fp h):p.1∈fp∧h.get? p.1=some p.2:=by
 obtain ⟨b,hb,e⟩:=List.mem_filterMap.mp hp
 cases q:h.get? b with
 | none=>rw [q] at e;cases e
 | some o=>
  rw [q] at e
  have e':(b,o)=p:=Option.some.inj e
  subst e'
  exact ⟨hb,q⟩
theorem Inv.pinned {pins:List (Addr×Obj)} {σ:St} {H:Hp} {s:Shared} {fp:List Addr} (I:Inv X pins σ H s) (hf:∀ b∈fp,qC X pins H b) (ho:∀ b∈fp,∃ o,s.heap.get? b=some o∧∀ v,o.data≠.cell v):Inv X (pins++kY fp s.heap) σ H s:=
 I.u_ fun p hp=>(List.mem_append.mp hp).elim (fun z=>I.pin p (List.mem_append_right _ z)) fun z=>by
  obtain ⟨hb,e⟩:=xj z
  obtain ⟨f0,f1,f2,_⟩:=hf p.1 hb
  obtain ⟨o,e',d⟩:=ho p.1 hb
  rw [e] at e';cases e'
  exact ⟨e,f0,f1,f2,d⟩
theorem Inv.iO {pins pl:List (Addr×Obj)} {σ:St} {H:Hp} {s:Shared} (I:Inv X (pins++pl) σ H s):Inv X pins σ H s:=I.u_ fun p hp=>I.pin p (List.mem_append_right _ (List.mem_append_left _ hp))
theorem o6 {iter:Expr} {body:List Stmt} {wi:TI} {g:TG} {tb:TS} {pos:Pos} (hp:PassesOwn (model X.prog X.w) X.A X.env X.xe) (hc:X.calm=true) (hi:PI X tg iter wi) (hg:PG X tg g) (hb:PSs X body tb)
  (hs:∀ x,foldedSetIterable iter X.env x=pure x:=by intro _;rfl):PS X (.For tg iter body [] pos) (yY wi g tb):=by
 intro pins s σ H D I h
 refine wpAny_For (thn (hi pins s σ H _ I h) fun v s1 h1=>thn h1 fun itv s2 h2=>?_) hs
 obtain ⟨it,fp,tn,J,H2,e,I2,T,st2,f2,W,⟨m0,w0⟩,turn⟩:=h2
 subst e
 have stat:∀ {H':Hp},(∀ b∈fp,H' b=none)→∀ b∈fp,qC X pins H' b:=fun hn b hb=>⟨hn b hb,(f2 b hb).2⟩
 refine codeAny_forLoop_any (fun n s'=>∃ i σ' H',Inv X pins σ' H' s'∧tn i s'.heap∧(∀ b∈fp,H' b=none)∧W i n σ' H') ?_ m0 ⟨0,σ,H2,I2,st2,fun b hb=>(f2 b hb).1,w0⟩
 rintro n s3 ⟨i,σ3,H3,I3,st3,fr3,w3⟩
 rcases turn i n σ3 H3 w3 with ⟨stop,qn⟩ | ⟨go,N,hN,step⟩
 ·refine wpAny_passesOwn hp (thn (T.done X rfl rfl rfl hc i pins s3 σ3 H3 X.xe I3 (stat fr3) st3 stop) fun r s4 ⟨hr,I4⟩=>?_)
  subst hr
  exact wpAny_execs_nil ⟨σ3,H3,I4,qn⟩
 ·refine wpAny_passesOwn hp (thn (T.item X rfl rfl rfl hc i pins s3 σ3 H3 X.xe I3 (stat fr3) st3 go) fun r s4 ⟨u,hr,h4⟩=>?_)
  subst hr
  refine wpAny_passesOwn hp (thn h4 fun _ s5 ⟨x,H5,I5,r5,y5,st5,fr5⟩=>?_)
  have I5':=I5.pinned (stat fr5) (T.obj _ _ st5)
  refine wpAny_passesOwn hp (thn (hg _ s5 σ3 H5 x u _ I5' r5 (step x H5 y5)) fun _ s6 ⟨σ6,H6,I6,q6⟩=>?_)
  refine wpAny_passesOwn hp (thn (hb _ s6 σ6 H6 _ I6 q6) fun f s7 q7=>?_)
  have again:∀ {σ7:St} {H7:Hp},Inv X (pins++kY fp s5.heap) σ7 H7 s7→N σ7 H7→∃ m,m<n∧∃ i σ' H',Inv X pins σ' H' s7∧tn i s7.heap∧(∀ b∈fp,H' b=none)∧W i m σ' H':=fun {σ7 H7} I7 n7=>by
   obtain ⟨m',hm,w7⟩:=hN σ7 H7 n7
   refine ⟨m',hm,i+1,σ7,H7,I7.iO,T.keep _ _ _ st5 fun b hb o e=>(I7.pin (b,o) (List.mem_append_right _ (List.mem_append_right _ (eu hb e)))).1,fun b hb=>?_,w7⟩
   obtain ⟨o,e,d⟩:=T.obj _ _ st5 b hb
   exact (I7.pin (b,o) (List.mem_append_right _ (List.mem_append_right _ (eu hb e)))).2.1
  cases f with
  | next=>obtain ⟨σ7,H7,I7,n7⟩:=q7;exact again I7 n7
  | cont=>obtain ⟨σ7,H7,I7,n7⟩:=q7;exact again I7 n7
  | brk=>obtain ⟨σ7,H7,I7,q7⟩:=q7;exact ⟨σ7,H7,I7.iO,q7⟩
  | ret v=>obtain ⟨x7,σ7,H7,I7,r7,q7⟩:=q7;exact ⟨x7,σ7,H7,I7.iO,r7,q7⟩
end
noncomputable abbrev R2:=V→V→Hp→VK→Prop
noncomputable def OpR (X:Cx) (f:Value→Value→Sem Value) (r:R2):Prop:=
 ∀ (pins:List (Addr×Obj)) (s:Shared) (σ:St) (H:Hp) (x y:V) (v u:Value) (Q:VK),Inv X pins σ H s→RelV x v→RelV y u→r x y H Q →
  wpAny (model X.prog X.w) X.A (f v u) (EP X pins σ Q) X.xe s
noncomputable def UnR (X:Cx) (f:Value→Sem Value) (r:V→Hp→VK→Prop):Prop:=
 ∀ (pins:List (Addr×Obj)) (s:Shared) (σ:St) (H:Hp) (x:V) (v:Value) (Q:VK),Inv X pins σ H s→RelV x v→r x H Q →
  wpAny (model X.prog X.w) X.A (f v) (EP X pins σ Q) X.xe s
noncomputable def b4 (X:Cx) (f:Value) (r:List V→Hp→VK→Prop):Prop:=
 ∀ (pins:List (Addr×Obj)) (s:Shared) (σ:St) (H:Hp) (xs:List V) (us:List Value) (Q:VK),Inv X pins σ H s→Vals xs us→r xs H Q →
  wpAny (model X.prog X.w) X.A (call f us) (EP X pins σ Q) X.xe s
noncomputable def Ln (X:Cx) (r:V→Hp→(Bool→Hp→Prop)→Prop):Prop:=
 ∀ (pins:List (Addr×Obj)) (s:Shared) (σ:St) (H:Hp) (x:V) (v:Value) (Q:Bool→Hp→Prop),Inv X pins σ H s→RelV x v→r x H Q →
  wpAny (model X.prog X.w) X.A (truthy v) (TP X pins σ Q) X.xe s
noncomputable def tOp (r:R2) (ta tb:TE):TE:=fun σ H Q=>ta σ H fun x H1=>tb σ H1 fun y H2=>r x y H2 Q
noncomputable def tUn (r:V→Hp→VK→Prop) (ta:TE):TE:=fun σ H Q=>ta σ H fun x H1=>r x H1 Q
noncomputable def rI (C:Int→Int→Prop) (g:Int→Int→V):R2:=fun x y H Q=>∃ i j,x=.int i∧y=.int j∧C i j∧Q (g i j) H
noncomputable def rI0 (g:Int→Int→V):R2:=fun x y H Q=>∃ i j,x=.int i∧y=.int j∧Q (g i j) H
noncomputable def rU (g:Int→V):V→Hp→VK→Prop:=fun x H Q=>∃ i,x=.int i∧Q (g i) H
section
variable {X:Cx} {a b c:Expr} {ta tb tc:TE} {pos:Pos}
theorem Gg (ha:PE X a ta) (hb:PE X b tb) {pins:List (Addr×Obj)} {s:Shared} {σ:St} {H:Hp} {R:V→V→Hp→Prop} (I:Inv X pins σ H s)
  (h:ta σ H fun x H1=>tb σ H1 fun y H2=>R x y H2) {Q:Value→Shared→Prop} {f:Value→Value→Sem Value}
  (hf:∀ v u s2 x y H2,Inv X pins σ H2 s2→RelV x v→RelV y u→R x y H2→wpAny (model X.prog X.w) X.A (f v u) Q X.xe s2) :
  wpAny (model X.prog X.w) X.A (eval a X.env) (fun v s₁=>wpAny (model X.prog X.w) X.A (eval b X.env) (fun u s₂=>wpAny (model X.prog X.w) X.A (f v u) Q X.xe s₂) X.xe s₁) X.xe s:=by
 refine thn (ha pins s σ H _ I h) fun v s1 ⟨x,H1,I1,r1,q1⟩=>?_
 refine thn (hb pins s1 σ H1 _ I1 q1) fun u s2 ⟨y,H2,I2,r2,q2⟩=>?_
 exact hf v u s2 x y H2 I2 r1 r2 q2
theorem Jf {op:Operator} {r:R2} (ho:OpR X (binaryOp op) r) (ha:PE X a ta) (hb:PE X b tb):PE X (.BinOp a op b pos) (tOp r ta tb):=by
 intro pins s σ H Q I h
 exact wpAny_BinOp (Gg ha hb I h fun v u s2 x y H2 I2 rx ry q=>ho pins s2 σ H2 x y v u Q I2 rx ry q)
theorem Jg {op:UnaryOp} {r:V→Hp→VK→Prop} (ho:UnR X (unaryOp op) r) (ha:PE X a ta):PE X (.UnaryOp op a pos) (tUn r ta):=by
 intro pins s σ H Q I h
 exact UnaryOp_ (thn (ha pins s σ H _ I h) fun v s1 ⟨x,H1,I1,r1,q1⟩=>ho pins s1 σ H1 x v Q I1 r1 q1)
theorem opI {f:Value→Value→Sem Value} {C:Int→Int→Prop} {g:Int→Int→Int}
  (rule:∀ (i j:Int) (t u:Tok) (s:Shared) (Q:Value→Shared→Prop) (E:Value→Shared→Prop),C i j→Q (.int (g i j) s.toks) { s with toks:=s.toks+1 }→wpAny (model X.prog X.w) X.A (f (.int i t) (.int j u)) Q E s) :
  OpR X f (rI C fun i j=>.int (g i j)):=by
 intro pins s σ H x y v u Q I rx ry h
 obtain ⟨i,j,rfl,rfl,hc,q⟩:=h
 obtain ⟨t,rfl⟩:=rx
 obtain ⟨t',rfl⟩:=ry
 exact rule i j t t' s _ _ hc ⟨.int (g i j),H,I.tok _,⟨_,rfl⟩,q⟩
theorem Jh {f:Value→Value→Sem Value} {g:Int→Int→Int}
  (rule:∀ (i j:Int) (t u:Tok) (s:Shared) (Q:Value→Shared→Prop) (E:Value→Shared→Prop),Q (.int (g i j) s.toks) { s with toks:=s.toks+1 }→wpAny (model X.prog X.w) X.A (f (.int i t) (.int j u)) Q E s) :
  OpR X f (rI0 fun i j=>.int (g i j)):=by
 intro pins s σ H x y v u Q I rx ry h
 obtain ⟨i,j,rfl,rfl,q⟩:=h
 obtain ⟨t,rfl⟩:=rx
 obtain ⟨t',rfl⟩:=ry
 exact rule i j t t' s _ _ ⟨.int (g i j),H,I.tok _,⟨_,rfl⟩,q⟩
theorem Cv {f:Value→Value→Sem Value} {g:Int→Int→Bool}
  (rule:∀ (i j:Int) (t u:Tok) (s:Shared) (Q:Value→Shared→Prop) (E:Value→Shared→Prop),Q (.bool (g i j)) s→wpAny (model X.prog X.w) X.A (f (.int i t) (.int j u)) Q E s) :
  OpR X f (rI0 fun i j=>.bl (g i j)):=by
 intro pins s σ H x y v u Q I rx ry h
 obtain ⟨i,j,rfl,rfl,q⟩:=h
 obtain ⟨t,rfl⟩:=rx
 obtain ⟨t',rfl⟩:=ry
 exact rule i j t t' s _ _ ⟨.bl (g i j),H,I,rfl,q⟩
noncomputable def Ji (i j:Int):Prop:=0≤j∧j≤1000000∧i.natAbs<2 ^ 64
noncomputable def yZ (i j:Int):Prop:=(-(2 ^ 64)<i∧i<2 ^ 64)∨(-(2 ^ 64)<j∧j<2 ^ 64)
theorem yZ.ok {i j:Int} (h:yZ i j):IntMulOk i j:=by
 rcases h with ⟨h1,h2⟩ | ⟨h1,h2⟩
 ·exact .of_left (intBits_le_64 h1 h2)
 ·exact .of_right (intBits_le_64 h1 h2)
theorem Gh:OpR X (binaryOp .Add) (rI0 fun i j=>.int (i+j)):=Jh fun _ _ _ _ _ _ _ q=>add_int q
theorem Gi:OpR X (binaryOp .Sub) (rI0 fun i j=>.int (i-j)):=Jh fun _ _ _ _ _ _ _ q=>sub_int q
theorem Gj:OpR X (binaryOp .Mult) (rI yZ fun i j=>.int (i*j)):=opI fun _ _ _ _ _ _ _ hc q=>mul_int q hc.ok
theorem Gk:OpR X (binaryOp .Mod) (rI (fun _ j=>0<j) fun i j=>.int (i % j)):=opI fun i j _ _ _ _ _ hc q=>by
 have h1:(0:Int)<j:=hc
 exact mod_int' (by omega) (by rw [Int.fmod_eq_emod_of_nonneg i (by omega)];exact q)
theorem Gm:OpR X (binaryOp .Pow) (rI Ji fun i j=>.int (i ^ j.toNat)):=opI fun _ _ _ _ _ _ _ hc q=>pow_int_small hc.1 hc.2.1 hc.2.2 q
theorem unI {f:Value→Sem Value} {g:Int→Int}
  (rule:∀ (i:Int) (t:Tok) (s:Shared) (Q:Value→Shared→Prop) (E:Value→Shared→Prop),Q (.int (g i) s.toks) { s with toks:=s.toks+1 }→wpAny (model X.prog X.w) X.A (f (.int i t)) Q E s) :
  UnR X f (rU fun i=>.int (g i)):=by
 intro pins s σ H x v Q I rx h
 obtain ⟨i,rfl,q⟩:=h
 obtain ⟨t,rfl⟩:=rx
 exact rule i t s _ _ ⟨.int (g i),H,I.tok _,⟨_,rfl⟩,q⟩
theorem Gn:UnR X (unaryOp .USub) (rU fun i=>.int (-i)):=unI fun _ _ _ _ _ q=>neg_int q
end
section
variable {X:Cx} {a b c:Expr} {ta tb tc:TE} {pos:Pos}
theorem y9:OpR X (compareOp .Lt) (rI0 fun i j=>.bl (decide (i<j))):=Cv fun _ _ _ _ _ _ _ q=>lt_int q
theorem y_:OpR X (compareOp .LtE) (rI0 fun i j=>.bl (decide (i≤j))):=Cv fun _ _ _ _ _ _ _ q=>le_int q
theorem Jj:OpR X (compareOp .Gt) (rI0 fun i j=>.bl (decide (j<i))):=Cv fun _ _ _ _ _ _ _ q=>gt_int q
theorem Jk:OpR X (compareOp .GtE) (rI0 fun i j=>.bl (decide (j≤i))):=Cv fun _ _ _ _ _ _ _ q=>ge_int q
theorem OpR.or {f:Value→Value→Sem Value} {r r':R2} (h:OpR X f r) (h':OpR X f r'):OpR X f (fun x y H Q=>r x y H Q∨r' x y H Q):=by
 intro pins s σ H x y v u Q I rx ry q
 rcases q with q | q
 ·exact h pins s σ H x y v u Q I rx ry q
 ·exact h' pins s σ H x y v u Q I rx ry q
theorem eE (b:Expr) {op:CmpOp} (h:op≠.In:=by decide) (h2:op≠.NotIn:=by decide):behindInMarks op b=false:=by
 have e1:(op == CmpOp.In)=false:=by cases op<;>first | rfl | exact absurd rfl h
 have e2:(op == CmpOp.NotIn)=false:=by cases op<;>first | rfl | exact absurd rfl h2
 cases b<;>simp [behindInMarks,e1,e2]
theorem Cw {op:CmpOp} {r:R2} (ho:OpR X (compareOp op) r) (ha:PE X a ta) (hb:PE X b tb) (hm:behindInMarks op b=false):PE X (.Compare a [op] [b] pos) (tOp r ta tb):=by
 intro pins s σ H Q I h
 exact wpAny_Compare1 (Gg ha hb I h fun v u s2 x y H2 I2 rx ry q=>ho pins s2 σ H2 x y v u Q I2 rx ry q) hm
noncomputable def EK (t:TE):TT:=fun σ H Q=>t σ H fun x H'=>∃ k,x=.bl k∧Q k H'
theorem Cy {op:CmpOp} {r:R2} (ho:OpR X (compareOp op) r) (ha:PE X a ta) (hb:PE X b tb) (hm:behindInMarks op b=false):PT X (.Compare a [op] [b] pos) (EK (tOp r ta tb)):=by
 intro pins s σ H Q I h
 refine wpAny_isTrue_Compare1 (thn (ha pins s σ H _ I h) fun v s1 ⟨x,H1,I1,r1,q1⟩=>thn (hb pins s1 σ H1 _ I1 q1) fun u s2 ⟨y,H2,I2,r2,q2⟩=>
  thn (ho pins s2 σ H2 x y v u _ I2 r1 r2 q2) fun c s3 ⟨z,H3,I3,r3,k,e,q3⟩=>?_) hm
 subst e
 cases r3
 exact wpAny_truthy_bool ⟨H3,I3,q3⟩
noncomputable def za (r r':R2) (ta tb tc:TE):TE:=fun σ H Q=>ta σ H fun x H1=>tb σ H1 fun y H2=>r x y H2 fun z H3=>∃ k,z=.bl k ∧
 (if k=true then tc σ H3 fun w' H4=>r' y w' H4 Q else Q (.bl false) H3)
theorem zb {op op':CmpOp} {r r':R2} (ho:OpR X (compareOp op) r) (ho':OpR X (compareOp op') r') (ha:PE X a ta) (hb:PE X b tb) (hc:PE X c tc)
  (hm:lastMarks [op,op'] [b,c]=false:=by with_unfolding_all rfl):PE X (.Compare a [op,op'] [b,c] pos) (za r r' ta tb tc):=by
 intro pins s σ H Q I h
 refine Compare_chain (thn (ha pins s σ H _ I h) fun v s1 ⟨x,H1,I1,r1,q1⟩=>chain_link (thn (hb pins s1 σ H1 _ I1 q1) fun u s2 ⟨y,H2,I2,r2,q2⟩=>
  thn (ho pins s2 σ H2 x y v u _ I2 r1 r2 q2) fun d s3 ⟨z,H3,I3,r3,k,e,q3⟩=>?_)) hm
 subst e
 cases r3
 refine wpAny_truthy_bool ?_
 cases k with
 | false=>exact ite_ff ⟨.bl false,H3,I3,rfl,q3⟩
 | true=>exact ite_tt (chain_last (thn (hc pins s3 σ H3 _ I3 q3) fun w' s4 ⟨z',H4,I4,r4,q4⟩=>ho' pins s4 σ H4 y z' u w' Q I4 r2 r4 q4))
noncomputable def Gp (K:PySem.W.Frag) (x:V) (H:Hp) (k:Bool):Prop:=
 match x with
 | .non=>k=false
 | .bl b=>k=b
 | .int i=>k=(i != 0)
 | .str y=>y.length≤sizeLine∧k=((y.length:Int) != 0)
 | .byt y=>y.size≤sizeLine∧k=((y.size:Int) != 0)
 | .ref p=>(∃ xs,SqL K H p xs∧k=!xs.isEmpty)∨(∃ xs,SqT K H p xs∧k=!xs.isEmpty)∨∃ kvs,H p=some (.dK kvs)∧k=!kvs.isEmpty
 | _=>False
theorem tu {κ:Type} {kvs:List (κ×V)} {vs:List (κ×Value)} (r:KV kvs vs):(!vs.isEmpty)=!kvs.isEmpty:=by
 cases r<;>rfl
theorem kZ {xs:List V} {its:List Value} (r:Vals xs its):(!its.toArray.isEmpty)=!xs.isEmpty:=by
 cases r<;>simp
theorem k6:(sizeLine:Nat)<2 ^ 63:=by rw [sizeLine_eq];decide
theorem Gq:Ln X (fun x H Q=>∃ k,Gp X.K x H k∧Q k H):=by
 intro pins s σ H x v Q I rx h
 obtain ⟨k,e,q⟩:=h
 have hl:=k6
 have hs:sizeLine=16777216:=sizeLine_eq
 cases x with
 | non=>
  cases rx
  have e':k=false:=e
  subst e'
  exact truthy_none ⟨H,I,q⟩
 | bl b=>
  cases rx
  have e':k=b:=e
  subst e'
  exact wpAny_truthy_bool ⟨H,I,q⟩
 | int i=>
  obtain ⟨t,rfl⟩:=rx
  have e':k=(i != 0):=e
  subst e'
  exact PySem.P.truthy_int ⟨H,I,q⟩
 | str y=>
  obtain ⟨t,rfl⟩:=rx
  obtain ⟨hy,e'⟩:y.length≤sizeLine∧k=((y.length:Int) != 0):=e
  subst e'
  exact PySem.P.truthy_str (by omega) ⟨H,I.tok _,q⟩
 | byt y=>
  obtain ⟨t,rfl⟩:=rx
  obtain ⟨hy,e'⟩:y.size≤sizeLine∧k=((y.size:Int) != 0):=e
  subst e'
  exact PySem.W.truthy_bytes (by omega) ⟨H,I.tok _,q⟩
 | ref p=>
  cases rx
  have e':(∃ xs,SqL X.K H p xs∧k=!xs.isEmpty)∨(∃ xs,SqT X.K H p xs∧k=!xs.isEmpty)∨∃ kvs,H p=some (.dK kvs)∧k=!kvs.isEmpty:=e
  rcases e' with ⟨xs,hx,e'⟩ | ⟨xs,hx,e'⟩ | ⟨kvs,hx,e'⟩
  ·subst e'
   obtain ⟨its,r,pl,hz⟩:=I.list hx
   have hlen:=r.length
   exact wpAny_truthy_list pl.isList (by simp only [List.size_toArray];omega) ⟨H,I.tok _,by rw [kZ r];exact q⟩
  ·subst e'
   obtain ⟨its,r,pl,hz⟩:=I.tuple hx
   have hlen:=r.length
   exact truthy_tuple pl (by simp only [List.size_toArray];omega) ⟨H,I.tok _,by rw [kZ r];exact q⟩
  ·subst e'
   obtain ⟨hz,hS,vs,r,m⟩:kvs.length≤sizeLine∧(p == sysModules)=false∧∃ vs,KV kvs vs∧s.heap.DictOf (aS X.prog X.w) p vs:=I.hok p _ hx
   have hlen:kvs.length=vs.length:=Paired.length r
   exact wpAny_truthy_dict hS m (by omega) ⟨H,I.tok _,by rw [tu r];exact q⟩
 | _=>exact (show False from e).elim
theorem zc (ha:PE X a ta) (he:∀ whole,isTrue a X.env whole=(do let v ← whole;standAt a.pos;holding [v] (truthy v))) :
  PT X a (fun σ H Q=>ta σ H fun x H'=>∃ k,Gp X.K x H' k∧Q k H'):=by
 intro pins s σ H Q I h
 exact isTrue_plain (thn (ha pins s σ H _ I h) fun v s1 ⟨x,H1,I1,r1,q1⟩=>Gq pins s1 σ H1 x v Q I1 r1 q1) (he _)
theorem vals1 {x:V} {us:List Value} (r:Vals [x] us):∃ u,us=[u]∧RelV x u:=by
 cases r with
 | cons r1 r2=>cases r2;exact ⟨_,rfl,r1⟩
theorem vals2 {x y:V} {us:List Value} (r:Vals [x,y] us):∃ u w',us=[u,w']∧RelV x u∧RelV y w':=by
 cases r with
 | cons r1 r2=>
  cases r2 with
  | cons r3 r4=>cases r4;exact ⟨_,_,rfl,r1,r3⟩
theorem xm (hc:X.calm=true):b4 X (.builtin "max") (fun xs H Q=>∃ i j,xs=[.int i,.int j]∧Q (.int (if j>i then j else i)) H):=by
 intro pins s σ H xs us Q I r h
 obtain ⟨i,j,rfl,q⟩:=h
 obtain ⟨u,w',rfl,⟨t,rfl⟩,⟨t',rfl⟩⟩:=vals2 r
 refine max_two_ints (I.ok.hd hc) fun h' tk k=>⟨_,H,I.kept k,?_,q⟩
 by_cases hj:j>i
 ·rw [if_pos hj,if_pos hj];exact ⟨_,rfl⟩
 ·rw [if_neg hj,if_neg hj];exact ⟨_,rfl⟩
theorem xo (hc:X.calm=true):b4 X (.builtin "min") (fun xs H Q=>∃ i j,xs=[.int i,.int j]∧Q (.int (if j<i then j else i)) H):=by
 intro pins s σ H xs us Q I r h
 obtain ⟨i,j,rfl,q⟩:=h
 obtain ⟨u,w',rfl,⟨t,rfl⟩,⟨t',rfl⟩⟩:=vals2 r
 refine min_two_ints (I.ok.hd hc) fun h' tk k=>⟨_,H,I.kept k,?_,q⟩
 by_cases hj:j<i
 ·rw [if_pos hj,if_pos hj];exact ⟨_,rfl⟩
 ·rw [if_neg hj,if_neg hj];exact ⟨_,rfl⟩
theorem xq:b4 X (.type "int") (fun xs H Q=>(∃ i,xs=[.int i]∧Q (.int i) H)∨∃ k,xs=[.bl k]∧Q (.int (if k then 1 else 0)) H):=by
 intro pins s σ H xs us Q I r h
 rcases h with ⟨i,rfl,q⟩ | ⟨k,rfl,q⟩
 ·obtain ⟨u,rfl,t,rfl⟩:=vals1 r
  exact call_int_int ⟨.int i,H,I,⟨_,rfl⟩,q⟩
 ·obtain ⟨u,rfl,r1⟩:=vals1 r
  cases r1
  exact call_int_bool ⟨.int (if k then 1 else 0),H,I.tok _,⟨_,rfl⟩,q⟩
end
structure Gr (h:Heap) (x dx C:Addr) (mA:Str→Option Value):Prop where
 obj:h.get? x=some (PySem.W.instObj C dx)
 ns:h.Ns1 dx mA
 ne:dx≠x
theorem xr {h:Heap} {dx:Addr} {mA:Str→Option Value} (n:h.Ns1 dx mA):∃ od,h.get? dx=some od∧∀ name,PySem.W.lookIn name od=some (mA name):=by
 obtain ⟨o,es,ep,ho,hd,hk,_,hm⟩:=n
 refine ⟨o,ho,fun name=>?_⟩
 have e:=hm name
 unfold nsFind findBy at e
 rw [← Array.find?_toList] at e
 unfold PySem.W.lookIn
 rw [hd]
 dsimp only
 split
 ·rename_i y q
  rw [q] at e
  exact congrArg some e
 ·rename_i q
  rw [q] at e
  have a:es.toList.any (·.refKey)=false:=by
   rw [List.any_eq_false]
   intro y hy
   obtain ⟨z,t,hkey⟩:=hk y (Array.mem_toList_iff.mp hy)
   simp [DictEntry.refKey,hkey]
  have a':¬ es.toList.any (·.refKey)=true:=by rw [a];exact Bool.false_ne_true
  rw [if_neg a']
  exact congrArg some e
theorem Gr.look {h:Heap} {x dx C:Addr} {mA:Str→Option Value} (I:Gr h x dx C mA):∃ od,PySem.W.InstAt h x (PySem.W.instObj C dx) C (some od)∧∀ name,PySem.W.lookIn name od=some (mA name):=
 let ⟨od,ho,hl⟩:=xr I.ns
 ⟨od,⟨I.obj,rfl,rfl,ho⟩,hl⟩
section
variable {prog:Program} {w:World} {A:Around} {E:Value→Shared→Prop} {s:Shared} {K:PySem.W.Frag} {x dx C f:Addr} {mA:Str→Option Value} {name:Str} {v:Value}
end
theorem iK.some_of {v:V} {o:Option Value} (r:iK (some v) o):∃ u,o=some u∧RelV v u:=by
 cases o with
 | none=>exact (show False from r).elim
 | some u=>exact ⟨u,rfl,r⟩
section
variable {P:Program} {w:World} {H H':Hp} {h h':Heap} {a C dx:Addr} {fs fs':List (Str×V)}
theorem Cz (hok:HOk P w H h) (e:H a=some (.ins C dx fs)):∃ mA,Gr h a dx C mA∧(∀ f,iK (fs.lookup f) (mA f))∧PySem.Within mA (fs.map (·.1))∧fs.length≤1000∧H dx=some (.own a):=by
 obtain ⟨d,z,ne,ob,mA,n,r,q⟩:=(show aX P w H h a (.ins C dx fs) from hok a _ e)
 exact ⟨mA,⟨ob,n,ne⟩,r,q,z,d⟩
end
structure Cls (K:PySem.W.Frag) (C:Addr):Prop where
 pg:PySem.W.plainGet K C Str.empty=true
 hd:PySem.W.hasDictIn K C=true
 po:PySem.W.plainOver K C=true
 sa:PySem.W.findIn K (.ref C) "__setattr__" = some (some (.builtin "object.__setattr__"))
theorem Cls.get {K:PySem.W.Frag} {C:Addr} (c:Cls K C) (f:Str):PySem.W.plainGet K C f=true:=c.pg
section
variable {X:Cx} {pins:List (Addr×Obj)} {σ:St} {H:Hp} {s:Shared} {a C dx:Addr} {fs:List (Str×V)} {f:Str} {v:V} {A:Around} {E:Value→Shared→Prop}
end
section
variable {X:Cx} {o e value:Expr} {f:Str} {pos pos' tpos:Pos} {ta tv:TE}
end
section
variable {X:Cx} {pins:List (Addr×Obj)} {σ:St} {H:Hp} {s:Shared} {A:Around} {E:Value→Shared→Prop} {Q:Value→Shared→Prop} {c:Value} {b:Bool}
inductive iP (K:PySem.W.Frag) (H:Hp):V→Value→Prop where
 | non:iP K H .non (.type "NoneType")
 | bl (x:Bool):iP K H (.bl x) (.type "bool")
 | int (i:Int):iP K H (.int i) (.type "int")
 | str (x:Str):iP K H (.str x) (.type "str")
 | flt (x:UInt64):iP K H (.flt x) (.type "float")
 | lst {a:Addr} {xs:List V} (e:H a=some (.lst xs)):iP K H (.ref a) (.type "list")
 | frz {a:Addr} {o:Obj} {xs:List V} (e:H a=some (.frz o (.lst xs))):iP K H (.ref a) (.type "list")
 | tup {a:Addr} {xs:List V} (e:H a=some (.tup xs)):iP K H (.ref a) (.type "tuple")
 | dK {a:Addr} {kvs:List (Key×V)} (e:H a=some (.dK kvs)):iP K H (.ref a) (.type "dict")
 | dT {a:Addr} {kvs:List (List Key×V)} (e:H a=some (.dT kvs)):iP K H (.ref a) (.type "dict")
 | ins {a C dx:Addr} {fs:List (Str×V)} (e:H a=some (.ins C dx fs)) (cl:Cls K C) (ha:PySem.W.findIn K (.ref C) "__class__" = some (some (.builtin "object.__class__")))
   (hn:PySem.W.specialIn K (.builtin "object.__class__") "__get__" = some (some (.builtin "getset_descriptor.__get__"))) (htk:PySem.W.takesIn K (.builtin "object.__class__")=some true)
   (hm:PySem.W.mroIn K C (.type "object")=some true):iP K H (.ref a) (.ref C)
theorem xu {x:V} {u t:Value} (I:Inv X pins σ H s) (rx:RelV x u) (ty:iP X.K H x t) (e:PySem.W.kitOne X.K t c=some b) (h:∀ tk,Q (.bool b) { s with toks:=tk }) :
  wpAny (model X.prog X.w) A (call (.builtin "isinstance") [u,c]) Q E s:=by
 cases ty with
 | non=>cases (show u=Value.none from rx);exact PySem.W.kia_one PySem.W.kitx_none I.kIn True.intro e (fun z=>nomatch z) h
 | bl y=>cases (show u=Value.bool y from rx);exact PySem.W.kia_one PySem.W.kitx_bool I.kIn True.intro e (fun z=>nomatch z) h
 | int i=>obtain ⟨t,q⟩:=(show ∃ t,u=Value.int i t from rx);cases q;exact PySem.W.kia_one PySem.W.kitx_int I.kIn True.intro e (fun z=>nomatch z) h
 | str y=>obtain ⟨t,q⟩:=(show ∃ t,u=Value.str y t from rx);cases q;exact PySem.W.kia_one PySem.W.kitx_str I.kIn True.intro e (fun z=>nomatch z) h
 | flt y=>obtain ⟨t,q⟩:=(show ∃ t,u=Value.float y t from rx);cases q;exact PySem.W.kia_one PySem.W.kitx_float I.kIn True.intro e (fun z=>nomatch z) h
 | @lst a xs ea=>
  cases (show u=Value.ref a from rx)
  obtain ⟨_,_,n,_,h1⟩:=(show aX X.prog X.w H s.heap a (.lst xs) from I.hok a _ ea)
  exact PySem.W.kia_one PySem.W.kitx_list I.kIn ⟨_,h1,rfl⟩ e (fun z=>nomatch z) h
 | @frz a ob xs ea=>
  cases (show u=Value.ref a from rx)
  obtain ⟨_,_,_,n,_,h1⟩:=(show aX X.prog X.w H s.heap a (.frz ob (.lst xs)) from I.hok a _ ea)
  exact PySem.W.kia_one PySem.W.kitx_list I.kIn ⟨_,h1,rfl⟩ e (fun z=>nomatch z) h
 | @tup a xs ea=>
  cases (show u=Value.ref a from rx)
  obtain ⟨_,_,_,p⟩:=(show aX X.prog X.w H s.heap a (.tup xs) from I.hok a _ ea)
  obtain ⟨o,h1,h2,_⟩:=p
  exact PySem.W.kia_one PySem.W.kitx_tuple I.kIn ⟨o,h1,h2⟩ e (fun z=>nomatch z) h
 | @dK a kvs ea=>
  cases (show u=Value.ref a from rx)
  obtain ⟨_,_,vs,_,p⟩:=(show aX X.prog X.w H s.heap a (.dK kvs) from I.hok a _ ea)
  obtain ⟨o,es,ep,h1,h2,_⟩:=p
  exact PySem.W.kia_one PySem.W.kitx_dict I.kIn ⟨o,h1,h2.1⟩ e (fun z=>nomatch z) h
 | @dT a kvs ea=>
  cases (show u=Value.ref a from rx)
  obtain ⟨_,_,xs,_,o,es,ep,h1,h2,_⟩:=(show aX X.prog X.w H s.heap a (.dT kvs) from I.hok a _ ea)
  exact PySem.W.kia_one PySem.W.kitx_dict I.kIn ⟨o,h1,h2.1⟩ e (fun z=>nomatch z) h
 | @ins a C dx fs ea cl ha hn htk hm=>
  cases (show u=Value.ref a from rx)
  obtain ⟨mA,O,_⟩:=Cz I.hok ea
  obtain ⟨od,J,_⟩:=O.look
  exact PySem.W.kia_one (PySem.W.kitx_own (cl.get _) cl.hd ha hn htk hm) I.kIn J e (fun z=>nomatch z) h
end
structure aU (k:Nat) (A:Around):Prop where
 hd:A.handled=none
 dp:A.depth+3*k+5<recursionLimit
 un:A.units+16*k+200<cLine
 gd:A.guards=some []
theorem aU.mono {j k:Nat} {A:Around} (r:aU k A) (h:j≤k):aU j A:=⟨r.hd,by have:=r.dp;omega,by have:=r.un;omega,r.gd⟩
theorem aU.deeper {k:Nat} {A:Around} (r:aU (k+1) A) (env:Env):aU k (A.deeper env):=
 ⟨r.hd,by have:=r.dp;show A.depth+1+3*k+5<_;omega,by have:=r.un;show A.units+3+16*k+200<_;omega,r.gd⟩
theorem aU.depth {k:Nat} {A:Around} (r:aU k A):A.depth<recursionLimit:=by have:=r.dp;omega
theorem aU.units {k:Nat} {A:Around} (r:aU k A):A.units+64<cLine:=by have:=r.un;omega
noncomputable def gD:TA:=fun _ H Q=>Q [] H
noncomputable def dg (ta:TE) (tr:TA):TA:=fun σ H Q=>ta σ H fun x H1=>tr σ H1 fun xs H2=>Q (x::xs) H2
section
variable {X:Cx} {e:Expr} {es:List Expr} {te:TE} {t:TA} {pos:Pos}
theorem cJ:PA X [] gD:=fun _ _ _ _ H Q I h=>Calls.spliced_nil ⟨[],H,I,.nil,h⟩
theorem bW (ha:PE X e te) (hr:PA X es t) (hs:starEach (e::es) X.env=(false,eval e X.env)::starEach es X.env:=by rfl):PA X (e::es) (dg te t):=by
 intro pos pins s σ H Q I h
 rw [hs]
 show wpAny _ _ (spliced ((false,eval e X.env)::backTo pos (starEach es X.env))) _ _ s
 refine Calls.spliced_cons (thn (ha pins s σ H _ I h) fun u s1 ⟨x,H1,I1,r1,q1⟩=>?_)
 exact thn (hr pos pins s1 σ H1 _ I1 q1) fun us s2 ⟨xs,H2,I2,r2,q2⟩=>⟨x::xs,H2,I2,.cons r1 r2,q2⟩
noncomputable def CA (t:TA):TE:=fun σ H Q=>t σ H fun xs H1=>xs.length≤sizeLine∧∀ p,H1 p=none→Q (.ref p) (upd H1 p (.tup xs))
noncomputable def zd (t:TA):TE:=fun σ H Q=>t σ H fun xs H1=>xs.length≤sizeLine∧∀ p,H1 p=none→Q (.ref p) (upd H1 p (.lst xs))
theorem tw {x1} (h:PA X es t):PE X (.Tuple es x1 pos) (CA t):=by
 intro pins s σ H Q I hq
 refine wpAny_Tuple_spliced (thn (h pos pins s σ H _ I hq) fun us s1 ⟨xs,H1,I1,r,z,q⟩=>⟨by rw [← r.length];exact z,?_⟩)
 have hf:H1 s1.heap.objs.size=none:=I1.hok.fresh (Nat.le_refl _)
 refine ⟨.ref s1.heap.objs.size,upd H1 s1.heap.objs.size (.tup xs),I1.laid (t':=s1.toks) (fun b u e=>Heap.get?_push_of_some _ e) (Nat.le_refl _) ?_,rfl,q _ hf⟩
 exact ⟨z,us,r,⟨_,Heap.get?_push_size _ rfl,rfl,_,rfl⟩⟩
theorem tE (h:PA X es t):PE X (.List es pos) (zd t):=by
 intro pins s σ H Q I hq
 refine wpAny_List_spliced (thn (h pos pins s σ H _ I hq) fun us s1 ⟨xs,H1,I1,r,z,q⟩=>⟨by rw [← r.length];exact z,?_⟩)
 have hf:H1 s1.heap.objs.size=none:=I1.hok.fresh (Nat.le_refl _)
 refine ⟨.ref s1.heap.objs.size,upd H1 s1.heap.objs.size (.lst xs),I1.laid (t':=s1.toks) (fun b u e=>Heap.get?_push_of_some _ e) (Nat.le_refl _) ?_,rfl,q _ hf⟩
 exact ⟨z,us,0,r,Heap.get?_push_size _ rfl⟩
end
noncomputable abbrev Sp:=List V→Hp→VK→XK→Prop
noncomputable abbrev CXT:=List Env→Hp→Shared→XK→Value→Shared→Prop
structure CB (P:Program) (w:World) (K:PySem.W.Frag) (mg:Str→Option Value) (base:Heap) (A:Around) (outer:List Env) (s:Shared) (H:Hp):Prop where
 frames:A.frames=some outer
 mod:Mod K mg base
 bs:∀ b o,base.get? b=some o→s.heap.get? b=some o∧H b=none
 bsz:base.objs.size≤s.heap.objs.size
 kR:s.heap.FunFrames base outer
 frf:∀ b∈frs outer,H b=none
 hok:HOk P w H s.heap
 bare:AllBare s.gens
noncomputable def CE (outer:List Env) (P:Program) (w:World) (H:Hp) (s:Shared) (Q:VK) (u:Value) (s':Shared):Prop:=
 ∃ v H',s'.os=s.os∧AllBare s'.gens∧Un (frs outer) [] H H' s.heap s'.heap∧HOk P w H' s'.heap∧RelV v u∧Q v H'
noncomputable def CR (CX:CXT) (outer:List Env) (P:Program) (w:World) (H:Hp) (s:Shared) (Q:VK) (E:XK) (r:Result) (s':Shared):Prop:=
 match r with
 | .ok (.ret u)=>CE outer P w H s Q u s'
 | .ok _=>False
 | .error e=>CX outer H s E e s'
structure aR (P:Program) (w:World) (K:PySem.W.Frag) (mg:Str→Option Value) (base:Heap) (CX:CXT) (k:Nat) (f:Addr) (fd:FuncData) (ps:List Str) (sp:Sp):Prop where
 len:∀ vs H Q E,sp vs H Q E→vs.length=ps.length
 run:∀ (A:Around) (outer:List Env) (s:Shared) (H:Hp) (args:Args) (us:List Value) (vs:List V) (Q:VK) (E:XK),aU k A→CB P w K mg base A outer s H→BindsTo s fd args (ps.zip us)→Vals vs us→sp vs H Q E →
  codeAny (model P w) A (.call (.ref f) args) (CR CX outer P w H s Q E) s
section
variable {X:Cx} {pins:List (Addr×Obj)} {σ:St} {H:Hp} {s s':Shared}
theorem Inv.Jl (I:Inv X pins σ H s):CB X.prog X.w X.K X.mg X.base X.A X.stack s H:=
 ⟨I.ok.frames,I.ok.mod,I.bs,Nat.le_trans I.ok.bsz I.sz,I.stack,I.u9,I.hok,I.bare⟩
theorem Inv.after {Q:VK} {u:Value} (I:Inv X pins σ H s) (h:CE X.stack X.prog X.w H s Q u s'):EP X pins σ Q u s':=by
 obtain ⟨v,H',os,bare,un,hok,r,q⟩:=h
 obtain ⟨hh,g,d,t,os'⟩:=s'
 obtain rfl:os'=s.os:=os
 exact ⟨v,H',I.call (h':=hh) (g':=g) (d':=d) (t':=t) (ch:=[]) un hok bare (fun b z=>absurd z (by simp)),r,q⟩
end
noncomputable def fD (sp:Sp) (dvs:List V) (E:XK) (t:TA):TE:=fun σ H Q=>t σ H fun vs H1=>sp (vs++dvs) H1 Q E
noncomputable def Binds (K:PySem.W.Frag) (fd:FuncData) (ps:List Str) (ds:List Value):Prop:=
 ∀ (s:Shared) (us:List Value),K.In s.heap→(us++ds).length=ps.length→BindsTo s fd ⟨us,[]⟩ (ps.zip (us++ds))
theorem Binds.all {K:PySem.W.Frag} {fd:FuncData} {ps:List Str} (h:∀ us:List Value,us.length=ps.length→bindArgs fd ⟨us,[]⟩=pure (ps.zip us)):Binds K fd ps []:=fun s us _ hl=>by
 rw [List.append_nil] at hl ⊢
 exact .of_eq (h us hl)
noncomputable def Passes (CX:CXT) (X:Cx) (E:XK):Prop:=∀ (pins:List (Addr×Obj)) (σ:St) (H:Hp) (s:Shared) (e:Value) (s':Shared),Inv X pins σ H s→CX X.stack H s E e s'→X.xe e s'
section
variable {X:Cx} {CX:CXT} {k:Nat} {f C:Addr} {fd:FuncData} {ps:List Str} {sp:Sp} {dvs:List V} {ds:List Value} {E:XK} {x m:Str} {p pos apos:Pos} {e o:Expr} {es:List Expr} {ta:TE} {t:TA}
theorem Gs {pins:List (Addr×Obj)} {σ:St} {H:Hp} {s:Shared} {Q:VK} {us:List Value} {vs:List V} (F:aR X.prog X.w X.K X.mg X.base CX k f fd ps sp) (hr:aU k X.A) (hb:Binds X.K fd ps ds) (hd:Vals dvs ds) (hx:Passes CX X E)
  (I:Inv X pins σ H s) (r:Vals vs us) (h:sp (vs++dvs) H Q E):wpAny (model X.prog X.w) X.A (call (.ref f) us) (EP X pins σ Q) X.xe s:=by
 have r2:Vals (vs++dvs) (us++ds):=r.append hd
 have hl:(us++ds).length=ps.length:=by rw [← r2.length];exact F.len _ _ _ _ h
 refine wpAny_call (codeAny_mono (F.run X.A X.stack s H ⟨us,[]⟩ (us++ds) (vs++dvs) Q E hr I.Jl (hb s us I.kIn hl) r2 h) fun r s' hq=>?_)
 cases r with
 | error e=>exact hx pins σ H s e s' I hq
 | ok fl=>
  cases fl with
  | ret u=>exact I.after hq
  | next=>exact False.elim hq
  | brk=>exact False.elim hq
  | cont=>exact False.elim hq
theorem cT (F:aR X.prog X.w X.K X.mg X.base CX k f fd ps sp) (hr:aU k X.A) (hg:Gl X x) (hm:X.mg x=some (.ref f)) (hk:PySem.W.keepIn X.K (.ref f)=true) (hb:Binds X.K fd ps ds) (hd:Vals dvs ds) (hx:Passes CX X E)
  (ha:PA X (e::es) t) (hdb:(x == ("__debug__" : Str))=false:=by decide) (he:starEach (e::es) X.env=(false,eval e X.env)::starEach es X.env:=by rfl) (hpl:(backTo pos (starEach es X.env)).any (·.1)=false:=by rfl) :
  PE X (.Call (.Name x p) (e::es) [] pos) (fD sp dvs E t):=by
 intro pins s σ H Q I h
 refine wpAny_Call_Name_kw (vc I hg hm ?_ hdb)
 refine PySem.W.callWith_K (h₀:=X.base) I.ok.mod.kin hk (thn (ha pos pins s σ H _ I h) fun us s1 ⟨vs,H1,I1,r,q⟩=>⟨I1.kIn,?_⟩) he hpl
 exact Gs F hr hb hd hx I1 r q
end
noncomputable def PK (X:Cx) (kws:List Keyword) (t:TA):Prop:=
 ∀ (pos:Pos) (pins:List (Addr×Obj)) (s:Shared) (σ:St) (H:Hp) (Q:List V→Hp→Prop),Inv X pins σ H s→t σ H Q→wpAny (model X.prog X.w) X.A (evalAll ((backToKw pos (keywordEach kws X.env)).map (·.2))) (AP X pins σ Q) X.xe s
section
variable {X:Cx} {CX:CXT} {k:Nat} {f C:Addr} {fd:FuncData} {ps ks:List Str} {sp:Sp} {E:XK} {x m:Str} {p pos apos kpos:Pos} {e o:Expr} {es:List Expr} {kws:List Keyword} {te ta:TE} {t tk:TA} {nm:Option Str}
theorem Gu:PK X [] gD:=fun _ _ _ _ H Q I h=>wpAny_evalAll_nil ⟨[],H,I,.nil,h⟩
theorem CC (ha:PE X e te) (hr:PK X kws t):PK X (⟨nm,e,kpos⟩::kws) (dg te t):=by
 intro pos pins s σ H Q I h
 show wpAny _ _ (evalAll ((do let v ← eval e X.env;standAt pos;pure v)::(backToKw pos (keywordEach kws X.env)).map (·.2))) _ _ s
 refine wpAny_evalAll_cons (wpAny_bind (thn (ha pins s σ H _ I h) fun u s1 ⟨x,H1,I1,r1,q1⟩=>wpAny_bind (wpAny_standAt (wpAny_pure ?_))))
 exact thn (hr pos pins s1 σ H1 _ I1 q1) fun us s2 ⟨xs,H2,I2,r2,q2⟩=>⟨x::xs,H2,I2,.cons r1 r2,q2⟩
structure jy (K:PySem.W.Frag) (fd:FuncData) (ps ks:List Str) (g:List Value→List Value→List Value) (gV:List V→List V→List V):Prop where
 to:∀ (s:Shared) (us ws:List Value),K.In s.heap→(g us ws).length=ps.length→BindsTo s fd ⟨us,ks.zip ws⟩ (ps.zip (g us ws))
 rel:∀ {vs:List V} {us:List Value} {zs:List V} {ws:List Value},Vals vs us→Vals zs ws→Vals (gV vs zs) (g us ws)
noncomputable def ze (sp:Sp) (gV:List V→List V→List V) (E:XK) (t tk:TA):TE:=fun σ H Q=>t σ H fun vs H1=>tk σ H1 fun zs H2=>sp (gV vs zs) H2 Q E
variable {g:List Value→List Value→List Value} {gV:List V→List V→List V}
theorem CD {pins:List (Addr×Obj)} {σ:St} {H:Hp} {s:Shared} {Q:VK} {us ws:List Value} {vs zs:List V} (F:aR X.prog X.w X.K X.mg X.base CX k f fd ps sp) (hr:aU k X.A) (hb:jy X.K fd ps ks g gV) (hx:Passes CX X E)
  (I:Inv X pins σ H s) (r:Vals vs us) (rz:Vals zs ws) (h:sp (gV vs zs) H Q E):wpAny (model X.prog X.w) X.A (call (.ref f) us (ks.zip ws)) (EP X pins σ Q) X.xe s:=by
 have r2:=hb.rel r rz
 have hl:(g us ws).length=ps.length:=by rw [← r2.length];exact F.len _ _ _ _ h
 refine wpAny_call (codeAny_mono (F.run X.A X.stack s H ⟨us,ks.zip ws⟩ (g us ws) (gV vs zs) Q E hr I.Jl (hb.to s us ws I.kIn hl) r2 h) fun r s' hq=>?_)
 cases r with
 | error e=>exact hx pins σ H s e s' I hq
 | ok fl=>
  cases fl with
  | ret u=>exact I.after hq
  | next=>exact False.elim hq
  | brk=>exact False.elim hq
  | cont=>exact False.elim hq
theorem zf (F:aR X.prog X.w X.K X.mg X.base CX k f fd ps sp) (hr:aU k X.A) (hg:Gl X x) (hm:X.mg x=some (.ref f)) (hk:PySem.W.keepIn X.K (.ref f)=true) (hb:jy X.K fd ps ks g gV) (hx:Passes CX X E)
  (ha:PA X (e::es) t) (hkw:PK X kws tk) (hall:(backToKw pos (keywordEach kws X.env)).all (·.1.isSome)=true:=by rfl) (hks:(backToKw pos (keywordEach kws X.env)).filterMap (·.1)=ks:=by rfl)
  (hdb:(x == ("__debug__" : Str))=false:=by decide) (he:starEach (e::es) X.env=(false,eval e X.env)::starEach es X.env:=by rfl)
  (hpl:((backTo pos (starEach (e::es) X.env)).any (·.1)||(backToKw pos (keywordEach kws X.env)).any (·.1.isNone))=false:=by rfl) :
  PE X (.Call (.Name x p) (e::es) kws pos) (ze sp gV E t tk):=by
 intro pins s σ H Q I h
 refine wpAny_Call_Name_kw (vc I hg hm ?_ hdb)
 refine PySem.W.callWith_KW (h₀:=X.base) I.ok.mod.kin hk hall (thn (ha pos pins s σ H _ I h) fun us s1 ⟨vs,H1,I1,r,q⟩=>?_) hpl he
 refine thn (hkw pos pins s1 σ H1 _ I1 q) fun ws s2 ⟨zs,H2,I2,rz,q2⟩=>⟨I2.kIn,?_⟩
 rw [hks]
 exact CD F hr hb hx I2 r rz q2
end
structure aE (N P:List Str) (sc:Scope):Prop where
 kind:sc.kind=.function
 co:sc.isCoroutine=false
 gen:sc.isGenerator=false
 nd:N.Nodup
 pre:N.take P.length=P
 par:∀ x∈P,sc.names.lookup x=some .local∨sc.names.lookup x=some .cell
 Gv:∀ y∈sc.names,y.2≠.free
theorem nR {kindOf:Str→Option NameKind} {x:Str}:∀ {binds:List (Str×Value)} {m:Str→Option Value},(∀ v,(x,v)∉binds)→bindL kindOf binds m x=m x
 | [],_,_=>rfl
 | (n,v)::r,m,h=>by
  unfold bindL
  rw [nR fun w hw=>h w (List.mem_cons_of_mem _ hw)]
  split
  ·have:x≠n:=by rintro rfl;exact h v List.mem_cons_self
   simp [this]
  ·rfl
theorem nS {kindOf:Str→Option NameKind} {x:Str}:∀ {binds:List (Str×Value)} {m:Str→Option Value},(∀ v,(x,v)∉binds)→bindC kindOf binds m x=m x
 | [],_,_=>rfl
 | (n,v)::r,m,h=>by
  unfold bindC
  rw [nS fun w hw=>h w (List.mem_cons_of_mem _ hw)]
  split
  ·rfl
  ·have:x≠n:=by rintro rfl;exact h v List.mem_cons_self
   simp [this]
theorem nT {kindOf:Str→Option NameKind} {x:Str} {v:Value}:∀ {P:List Str} {vs:List Value} {i:Nat} {m:Str→Option Value},P.Nodup→P[i]?=some x→vs[i]?=some v→kindOf x=some .local →
  bindL kindOf (P.zip vs) m x=some v
 | [],_,_,_,_,h,_,_=>by simp at h
 | _::_,[],_,_,_,_,h,_=>by simp at h
 | p::P,w::vs,0,m,nd,h1,h2,hk=>by
  simp at h1 h2;subst h1;subst h2
  show bindL kindOf ((p,w)::P.zip vs) m p=_
  unfold bindL
  rw [nR fun v hv=>(List.nodup_cons.mp nd).1 (List.of_mem_zip hv).1,if_pos hk]
  simp
 | p::P,w::vs,i+1,m,nd,h1,h2,hk=>by
  show bindL kindOf ((p,w)::P.zip vs) m x=_
  unfold bindL
  exact nT (i:=i) (List.nodup_cons.mp nd).2 (by simpa using h1) (by simpa using h2) hk
theorem nU {kindOf:Str→Option NameKind} {x:Str} {v:Value}:∀ {P:List Str} {vs:List Value} {i:Nat} {m:Str→Option Value},P.Nodup→P[i]?=some x→vs[i]?=some v→kindOf x≠some .local →
  bindC kindOf (P.zip vs) m x=some v
 | [],_,_,_,_,h,_,_=>by simp at h
 | _::_,[],_,_,_,_,h,_=>by simp at h
 | p::P,w::vs,0,m,nd,h1,h2,hk=>by
  simp at h1 h2;subst h1;subst h2
  show bindC kindOf ((p,w)::P.zip vs) m p=_
  unfold bindC
  rw [nS fun v hv=>(List.nodup_cons.mp nd).1 (List.of_mem_zip hv).1,if_neg hk]
  simp
 | p::P,w::vs,i+1,m,nd,h1,h2,hk=>by
  show bindC kindOf ((p,w)::P.zip vs) m x=_
  unfold bindC
  exact nU (i:=i) (List.nodup_cons.mp nd).2 (by simpa using h1) (by simpa using h2) hk
noncomputable def start (N:List Str) (vs:List V):St:=vs.map some++List.replicate (N.length-vs.length) none
noncomputable def tF (CX:CXT) (P:Program) (w:World) (K:PySem.W.Frag) (mg:Str→Option Value) (base:Heap) (N:List Str) (qual:Str) (scope:Scope) (f:Addr) (cd:Value) (A:Around) (outer:List Env) (s:Shared) (H:Hp) (E:XK):Cx where
 prog:=P
 w:=w
 K:=K
 mg:=mg
 base:=base
 A:=A.deeper (envOfC qual scope s.heap.objs.size f cd)
 N:=N
 s₀:=s
 H₀:=H
 env:=envOfC qual scope s.heap.objs.size f cd
 outer:=outer
 stack:=envOfC qual scope s.heap.objs.size f cd::outer
 ex:=[]
 calm:=true
 fn:=fun _=>true
 pn:=[]
 xe:=fun e s'=>wpAny (model P w) (A.deeper (envOfC qual scope s.heap.objs.size f cd)) (leaving (envOfC qual scope s.heap.objs.size f cd) e) (fun _ s''=>CX outer H s E e s'') (fun e' s''=>CX outer H s E e' s'') s'
theorem qD {sc:Scope} {n:Nat} {x:Str} (h:sc.names.lookup x=some .cell):∃ c,(cellsFrom n sc.names []).lookup x=some c:=by
 have q:=PySem.W.cellsFrom_some sc.names n [] (.inl h)
 exact Option.isSome_iff_exists.mp q
theorem xw {CX:CXT} {P:Program} {w:World} {K:PySem.W.Frag} {mg:Str→Option Value} {base:Heap} {N ps:List Str} {qual:Str} {scope:Scope} {f:Addr} {cd:Value} {A:Around} {outer:List Env} {s s1:Shared} {H:Hp} {E:XK} {us:List Value} {vs:List V}
  (S:aE N ps scope) (hd:A.handled=none) (e0:CB P w K mg base A outer s H) (hl:vs.length=ps.length) (r:Vals vs us)
  (x:InCallC s s.heap.objs.size (bindL (envOfC qual scope s.heap.objs.size f cd).kindOf (ps.zip us) fun _=>none) (cellsFrom (s.heap.objs.size+1) scope.names []) (bindC (envOfC qual scope s.heap.objs.size f cd).kindOf (ps.zip us) fun _=>none) s1) :
  Inv (tF CX P w K mg base N qual scope f cd A outer s H E) [] (start N vs) H s1:=by
 have hpl:ps.length≤N.length:=by have:=congrArg List.length S.pre;rw [List.length_take] at this;omega
 obtain ⟨h1,tk,rfl,hk⟩:=x.done
 have noA:∀ b:Addr,b∉(tF CX P w K mg base N qual scope f cd A outer s H E).ex:=fun b z=>absurd (show b∈([]:List Addr) from z) (by simp)
 refine ⟨⟨e0.mod,S.kind,rfl,rfl,Nat.le_refl _,fun y z c h1 h2=>?_,fun y hy=>?_,fun y c _ h=>?_,fun _=>hd,Around.frames_deeper e0.frames,.inr ⟨rfl,rfl⟩,fun b z=>absurd z (noA b),e0.bs,e0.bsz,fun b _ _=>noA b,fun b z=>absurd z (noA b),e0.kR,e0.frf⟩,
  rfl,e0.bare,Un.kept hk,⟨_,x.toInCall.ns,fun i y v h1 h2 h3=>?_⟩,fun y c h=>⟨_,x.cell y c h⟩,e0.hok.fresh (Nat.le_refl _),fun y c h=>?_,fun p hp=>absurd (show p∈([]:List (Addr×Obj)) from hp) (by simp),e0.hok.kept hk,?_⟩
 ·exact name_of_addr x.apart (PySem.mem_of_lookup h1) (PySem.mem_of_lookup h2)
 ·have hy:scope.names.lookup y=some .cell∨scope.names.lookup y=some .free:=hy
  rcases hy with hy | hy
  ·exact qD hy
  ·exact absurd rfl (S.Gv _ (PySem.mem_of_lookup hy))
 ·exact Nat.le_of_lt (x.above y c (PySem.mem_of_lookup h))
 ·have hi:i<vs.length:=by
   unfold start at h2
   by_cases hi:i<vs.length
   ·exact hi
   ·rw [List.getElem?_append_right (by simpa using hi)] at h2
    rw [List.getElem?_replicate] at h2
    split at h2<;>cases h2
  have ha:vs[i]?=some v:=by
   unfold start at h2
   rw [List.getElem?_append_left (by simpa using hi),List.getElem?_map] at h2
   cases e:vs[i]? with
   | none=>rw [e] at h2;cases h2
   | some a=>rw [e] at h2;cases h2;rfl
  obtain ⟨u,hu,rv⟩:=r.get ha
  have hp:ps[i]?=some y:=by
   rw [← S.pre,List.getElem?_take_of_lt (by omega)];exact h1
  have ndP:ps.Nodup:=by rw [← S.pre];exact S.nd.sublist (List.take_sublist _ _)
  refine ⟨u,rv,?_⟩
  rcases S.par y (List.mem_of_getElem? hp) with k | k
  ·exact .inl ⟨k,nT ndP hp hu k⟩
  ·obtain ⟨c,e⟩:=qD (n:=s.heap.objs.size+1) k
   refine .inr ⟨.inl k,c,e,?_⟩
   have q:=x.cell y c e
   rw [nU ndP hp hu (by show scope.names.lookup y≠_;rw [k];decide)] at q
   exact q
 ·exact e0.hok.fresh (Nat.le_of_lt (x.above y c (PySem.mem_of_lookup h)))
 ·unfold start
  show _=N.length
  rw [List.length_append,List.length_map,List.length_replicate]
  omega
theorem EL {CX:CXT} {P:Program} {w:World} {K:PySem.W.Frag} {mg:Str→Option Value} {base:Heap} {k:Nat} {f:Addr} {name qual:Str} {params:Arguments} {body:List Stmt} {scope:Scope} {dV kV doc pm cdv ct oc:Value} {an od:Option Addr}
  {osl:Array (Option Value)} {N ps:List Str} {sp:Sp} (lk:K.lookup f=some ⟨oc,od,.func (PySem.W.fnOf name qual params body scope dV kV doc pm an cdv ct),osl⟩) (hcd:PySem.W.codeIn K cdv qual=true) (S:aE N ps scope)
  (len:∀ vs H Q E,sp vs H Q E→vs.length=ps.length)
  (hbody:∀ (A:Around) (outer:List Env) (s:Shared) (H:Hp) (vs:List V) (Q:VK) (E:XK),aU k (A.deeper (envOfC qual scope s.heap.objs.size f cdv))→sp vs H Q E →
   ∃ t,PSs (tF CX P w K mg base N qual scope f cdv A outer s H E) body t∧t { nx:=fun _ H'=>Q .non H',rt:=Q } (start N vs) H) :
  aR P w K mg base CX (k+1) f (PySem.W.fnOf name qual params body scope dV kV doc pm an cdv ct) ps sp:=by
 refine ⟨len,fun A outer s H args us vs Q E hr e0 hb r hsp=>?_⟩
 have hl:=len _ _ _ _ hsp
 have KX:K.In s.heap:=e0.mod.kin.keeps fun b o e=>(e0.bs b o e).1
 have lim:s.heap.NoLimit:=e0.mod.nolimit.keeps fun b o e=>(e0.bs b o e).1
 have hkind:∀ y∈ps.zip us,scope.names.lookup y.1=some .local∨(scope.names.lookup y.1=some .cell∧((cellsFrom (s.heap.objs.size+1) scope.names []).lookup y.1).isSome=true):=fun ⟨n,v⟩ hy=>by
  rcases S.par n (List.of_mem_zip hy).1 with q | q
  ·exact .inl q
  ·exact .inr ⟨q,PySem.W.cellsFrom_some _ _ _ (.inl q)⟩
 refine codeAny_call_function hr.depth (KX _ _ lk) rfl S.co S.gen rfl (PySem.W.codeRec_of KX hcd) (hb _ _ _ _ ?_)
 refine wpAny_newFunctionEnv_cells S.kind hkind fun env he s1 x=>?_
 subst he
 refine ⟨lim.keeps x.toInCall.keep,codeAny_func ?_⟩
 obtain ⟨t,ht,hq⟩:=hbody A outer s H vs Q E (hr.deeper _) hsp
 have I:Inv (tF CX P w K mg base N qual scope f cdv A outer s H E) [] (start N vs) H s1:=xw S hr.hd e0 hl r x
 refine wpAny_mono (ht [] s1 (start N vs) H _ I hq) (fun fl s' hs=>?_) fun e s' hs=>hs
 have fin:∀ {σ':St} {H':Hp} {v:V} {u:Value},Inv (tF CX P w K mg base N qual scope f cdv A outer s H E) [] σ' H' s'→RelV v u→Q v H'→CE outer P w H s Q u s':=
  fun {σ' H' v u} J rv q=>⟨v,H',J.os,J.bare,J.base,J.hok,rv,q⟩
 cases fl with
 | ret u=>
  obtain ⟨v,σ',H',J,rv,q⟩:=hs
  exact fin J rv q
 | next=>
  obtain ⟨σ',H',J,q⟩:=hs
  exact fin (v:=V.non) (u:=Value.none) J rfl q
 | brk=>
  obtain ⟨_,_,_,q⟩:=hs
  exact False.elim q
 | cont=>
  obtain ⟨_,_,_,q⟩:=hs
  exact False.elim q
section
variable {X:Cx} {x:Str} {p pos:Pos} {e:Expr} {es:List Expr} {t:TA} {id T:String} {r:List V→Hp→VK→Prop}
noncomputable def tCB (r:List V→Hp→VK→Prop) (t:TA):TE:=fun σ H Q=>t σ H fun vs H1=>r vs H1 Q
theorem iQ (hc:b4 X (.builtin id) r) (hg:Gl X x) (hm:X.mg x=none) (hv:bootBuiltins x=some (.builtin id)) (ha:PA X (e::es) t) (hn:x ≠ "__name__" := by decide) (hdb:(x == ("__debug__" : Str))=false:=by decide)
  (he:starEach (e::es) X.env=(false,eval e X.env)::starEach es X.env:=by rfl) (hpl:(backTo pos (starEach es X.env)).any (·.1)=false:=by rfl):PE X (.Call (.Name x p) (e::es) [] pos) (tCB r t):=by
 intro pins s σ H Q I h
 refine wpAny_Call_Name_kw (kU I hg hm hv ?_ hn hdb)
 exact PyProof.Rows.callWith_builtin1 (thn (ha pos pins s σ H _ I h) fun us s1 ⟨vs,H1,I1,r1,q1⟩=>hc pins s1 σ H1 vs us Q I1 r1 q1) he hpl
theorem jz (hc:b4 X (.type T) r) (hg:Gl X x) (hm:X.mg x=none) (hv:bootBuiltins x=some (.type T)) (ha:PA X (e::es) t) (hn:x ≠ "__name__" := by decide) (hdb:(x == ("__debug__" : Str))=false:=by decide)
  (he:starEach (e::es) X.env=(false,eval e X.env)::starEach es X.env:=by rfl) (hpl:(backTo pos (starEach es X.env)).any (·.1)=false:=by rfl):PE X (.Call (.Name x p) (e::es) [] pos) (tCB r t):=by
 intro pins s σ H Q I h
 refine wpAny_Call_Name_kw (kU I hg hm hv ?_ hn hdb)
 exact PyProof.Rows.callWith_type1 (thn (ha pos pins s σ H _ I h) fun us s1 ⟨vs,H1,I1,r1,q1⟩=>hc pins s1 σ H1 vs us Q I1 r1 q1) he hpl
end
end L2
namespace HT
open PySem PyProof.Rows
section
open PySem.SeqAt
open PySem.AutoSeq1 (wpAny_loadPart')
open PySem.MeetsSeq PySem.MeetsSeq2 PySem.MeetsSeq3
end
section
variable {prog:Program} {w:World} {A:Around} {E:Value→Shared→Prop} {s:Shared}
end
end HT
namespace L2
open PySem PySem.Spec PyProof.Rows
section
variable {X:Cx} {e:Expr} {te:TE} {lo hi:Option Expr} {tl th:TO} {pos p2:Pos}
end
noncomputable def ixN (n:Nat) (i:Int):Option Nat:=if 0≤i then (if i<n then some i.toNat else none) else if -(n:Int)≤i then some (i+n).toNat else none
noncomputable def atI {α:Type} (xs:List α) (i:Int):Option α:=(ixN xs.length i).bind fun j=>xs[j]?
theorem vf {n:Nat} {i:Int} {j:Nat} (h:ixN n i=some j):seqIndex? i n=some j∧j<n∧-(n:Int)≤i∧i<n:=by
 unfold ixN at h
 by_cases h0:0≤i
 ·rw [if_pos h0] at h
  by_cases h1:i<n
  ·rw [if_pos h1] at h
   have e:i.toNat=j:=Option.some.inj h
   exact ⟨by rw [seqIndex_of h0 h1,e],by omega,by omega,h1⟩
  ·rw [if_neg h1] at h;cases h
 ·rw [if_neg h0] at h
  by_cases h1:-(n:Int)≤i
  ·rw [if_pos h1] at h
   have e:(i+n).toNat=j:=Option.some.inj h
   exact ⟨by rw [seqIndex_neg (by omega) h1,e],by omega,h1,by omega⟩
  ·rw [if_neg h1] at h;cases h
theorem vg {α:Type} {xs:List α} {i:Int} {v:α} (h:atI xs i=some v):∃ j,seqIndex? i xs.length=some j∧xs[j]?=some v∧j<xs.length∧-(xs.length:Int)≤i∧i<xs.length:=by
 unfold atI at h
 cases e:ixN xs.length i with
 | none=>rw [e] at h;cases h
 | some j=>
  rw [e] at h
  obtain ⟨h1,h2,h3,h4⟩:=vf e
  exact ⟨j,h1,h,h2,h3,h4⟩
noncomputable def gk (b:Expr):Prop:=∀ o i,subscripted b false o i=operate [o,i] (getItem o i)
noncomputable def IxR (X:Cx) (r:R2):Prop:=
 ∀ (value slice:Expr) (pins:List (Addr×Obj)) (s:Shared) (σ:St) (H:Hp) (x y:V) (v u:Value) (Q:VK),Inv X pins σ H s→RelV x v→RelV y u→r x y H Q →
  subscripted slice false v u=operate [v,u] (getItem v u)→wpAny (model X.prog X.w) X.A (subscriptTail value slice v u) (EP X pins σ Q) X.xe s
noncomputable def MtR (X:Cx) (id:String) (r:V→List V→Hp→VK→Prop):Prop:=
 ∀ (pins:List (Addr×Obj)) (s:Shared) (σ:St) (H:Hp) (x:V) (xs:List V) (v:Value) (us:List Value) (Q:VK),Inv X pins σ H s→RelV x v→Vals xs us→r x xs H Q →
  wpAny (model X.prog X.w) X.A (call (.builtin id) (v::us)) (EP X pins σ Q) X.xe s
section
variable {X:Cx} {a b:Expr} {ta tb:TE} {pos:Pos}
theorem IxR.or {r r':R2} (h:IxR X r) (h':IxR X r'):IxR X (fun x y H Q=>r x y H Q∨r' x y H Q):=by
 intro value slice pins s σ H x y v u Q I rx ry q hs
 rcases q with q | q
 ·exact h value slice pins s σ H x y v u Q I rx ry q hs
 ·exact h' value slice pins s σ H x y v u Q I rx ry q hs
theorem qE {r:R2} (hr:IxR X r) (ha:PE X a ta) (hb:PE X b tb) (hs:gk b):PE X (.Subscript a b pos) (tOp r ta tb):=by
 intro pins s σ H Q I h
 exact Subscript_ (Gg ha hb I h fun v u s2 x y H2 I2 rx ry q=>hr a b pins s2 σ H2 x y v u Q I2 rx ry q (hs _ _))
noncomputable def Gw (K:PySem.W.Frag):R2:=fun x y H Q=>∃ p xs i v,x=.ref p∧y=.int i∧SqL K H p xs∧atI xs i=some v∧Q v H
noncomputable def zg (K:PySem.W.Frag):R2:=fun x y H Q=>∃ p xs i v,x=.ref p∧y=.int i∧SqT K H p xs∧atI xs i=some v∧Q v H
theorem vh:IxR X (Gw X.K):=by
 intro value slice pins s σ H x y v u Q I rx ry h hs
 obtain ⟨p,xs,i,z,rfl,rfl,hq,he,q⟩:=h
 cases rx
 obtain ⟨t,rfl⟩:=ry
 obtain ⟨its,r,pl,hz⟩:=I.list hq
 obtain ⟨j,h1,h2,h3,h4,h5⟩:=vg he
 obtain ⟨w,ew,rw'⟩:=r.get h2
 have hl:=r.length
 have hn:=k6
 have fin:EP X pins σ Q w s:=⟨z,H,I,rw',q⟩
 by_cases h0:0≤i
 ·have hj:i.toNat=j:=by
   rw [seqIndex_of h0 h5] at h1
   exact Option.some.inj h1
  exact item_listR pl.isList h0 (by omega) (by rw [hj];simpa using ew) fin hs
 ·have hj:(i+(its.toArray.size:Int)).toNat=j:=by
   rw [seqIndex_neg (by omega) h4] at h1
   rw [List.size_toArray,← hl]
   exact Option.some.inj h1
  exact subscriptTail_builtinR (x:=w) pl.isList.typeIs slot_list_getitem.lookup
   (wpAny_getItem_list_neg (Q:=fun r s'=>r=w∧EP X pins σ Q r s') pl.isList (by omega) (by rw [List.size_toArray]<;>omega) (by omega) (by rw [hj];simpa using ew) ⟨rfl,fin⟩) hs
theorem o7:IxR X (zg X.K):=by
 intro value slice pins s σ H x y v u Q I rx ry h hs
 obtain ⟨p,xs,i,z,rfl,rfl,hq,he,q⟩:=h
 cases rx
 obtain ⟨t,rfl⟩:=ry
 obtain ⟨its,r,pl,hz⟩:=I.tuple hq
 obtain ⟨j,h1,h2,h3,h4,h5⟩:=vg he
 obtain ⟨w,ew,rw'⟩:=r.get h2
 have hl:=r.length
 have hn:=k6
 have fin:EP X pins σ Q w s:=⟨z,H,I,rw',q⟩
 exact subscriptTail_builtinR (x:=w) pl.typeIs slot_tuple_getitem.lookup
  (getItem_tuple (j:=j) (Q:=fun r s'=>r=w∧EP X pins σ Q r s') pl (by omega) (by omega) (by rw [List.size_toArray,← hl];exact h1) (by simpa using ew) ⟨rfl,fin⟩) hs
theorem tG (its:List Value) (n j:Nat) (u:Value):Obj.mapSeq (·.setIfInBounds j u) { cls:=.type "list",data:=.seq its.toArray n }={ cls:=.type "list",data:=.seq (its.set j u).toArray n }:=by
 simp [Obj.mapSeq]
theorem Inv.lst {pins:List (Addr×Obj)} {σ:St} {H:Hp} {s:Shared} {p:Addr} {xs:List V} (I:Inv X pins σ H s) (h:H p=some (.lst xs)) :
  ∃ (its:List Value) (n:Nat),Vals xs its∧s.heap.get? p=some { cls:=.type "list",data:=.seq its.toArray n }∧xs.length≤sizeLine:=by
 obtain ⟨z,its,n,r,e⟩:=I.hok p _ h
 exact ⟨its,n,r,e,z⟩
theorem Inv.Gx {pins:List (Addr×Obj)} {σ:St} {H:Hp} {s:Shared} {p:Addr} {xs ys:List V} {its its':List Value} {n n':Nat} {f:Obj→Obj} (I:Inv X pins σ H s) (h:H p=some (.lst xs))
  (ho:s.heap.get? p=some { cls:=.type "list",data:=.seq its.toArray n }) (hf:f { cls:=.type "list",data:=.seq its.toArray n }={ cls:=.type "list",data:=.seq its'.toArray n' }) (r:Vals ys its') (hz:ys.length≤sizeLine) (t:Nat) :
  Inv X pins σ (upd H p (.lst ys)) { s with heap:=s.heap.update p f,toks:=t }:=by
 have e:(s.heap.update p f).get? p=some { cls:=.type "list",data:=.seq its'.toArray n' }:=by
  rw [Heap.get?_update_self f ho (by rw [hf]<;>rfl),hf]
 refine I.write (x:=p) (e:=p) (by rw [h];trivial) (.inl rfl) (fun b u hb q=>(Heap.get?_update_other _ _ (Ne.symm hb)).trans q) ⟨_,e⟩ ?_
 exact ⟨hz,its',n',r,e⟩
noncomputable def qF:V→V→V→Hp→(Hp→Prop)→Prop:=fun o i v H Q=>∃ p xs k j,o=.ref p∧i=.int k∧H p=some (.lst xs)∧ixN xs.length k=some j∧Q (upd H p (.lst (xs.set j v)))
theorem set_list:Jd X qF:=by
 intro pins s σ H o i v ov iv u Q I ro ri rv h
 obtain ⟨p,xs,k,j,rfl,rfl,hp,hj,q⟩:=h
 cases ro
 obtain ⟨t,rfl⟩:=ri
 obtain ⟨its,n,r,ho,hz⟩:=I.lst hp
 obtain ⟨h1,h2,h3,h4⟩:=vf hj
 have hl:=r.length
 have hn:=k6
 have I':Inv X pins σ (upd H p (.lst (xs.set j v))) { s with heap:=s.heap.update p (Obj.mapSeq (·.setIfInBounds j u)) }:=
  I.Gx hp ho (tG its n j u) (r.set rv j) (by rw [List.length_set];exact hz) s.toks
 by_cases h0:0≤k
 ·have hk:k.toNat=j:=by
   rw [seqIndex_of h0 h4] at h1
   exact Option.some.inj h1
  exact PySem.W.ki_setAt ho h0 (by omega) (by rw [List.size_toArray,← hl];exact h4) (by rw [hk];exact ⟨_,I',q⟩)
 ·have hk:(k+(its.toArray.size:Int)).toNat=j:=by
   rw [seqIndex_neg (by omega) h3] at h1
   rw [List.size_toArray,← hl]
   exact Option.some.inj h1
  exact PySem.W.ki_setBack ho (by omega) (by rw [List.size_toArray,← hl];exact h3) (by omega) (by rw [hk];exact ⟨_,I',q⟩)
theorem o8:b4 X (.builtin "len") (fun xs H Q=>∃ p ys,xs=[.ref p]∧(SqL X.K H p ys∨SqT X.K H p ys)∧Q (.int ys.length) H):=by
 intro pins s σ H xs us Q I r h
 obtain ⟨p,ys,rfl,hq,q⟩:=h
 obtain ⟨u,rfl,rx⟩:=vals1 r
 cases rx
 have hn:=k6
 rcases hq with hq | hq
 ·obtain ⟨its,r',pl,hz⟩:=I.list hq
  have hlen:=r'.length
  exact Calls.call_len_list pl.isList (by simp only [List.size_toArray]<;>omega) ⟨.int ys.length,H,I.tok _,⟨s.toks+1,by rw [List.size_toArray,hlen]⟩,q⟩
 ·obtain ⟨its,r',pl,hz⟩:=I.tuple hq
  have hlen:=r'.length
  exact len_tuple pl (by simp only [List.size_toArray]<;>omega) ⟨.int ys.length,H,I.tok _,⟨s.toks+1,by rw [List.size_toArray,hlen]⟩,q⟩
theorem o9:b4 X (.type "list") (fun xs H Q=>∃ p ys,xs=[.ref p]∧(SqL X.K H p ys∨SqT X.K H p ys)∧∀ l,H l=none→Q (.ref l) (upd H l (.lst ys))):=by
 intro pins s σ H xs us Q I r h
 obtain ⟨p,ys,rfl,hq,q⟩:=h
 obtain ⟨u,rfl,rx⟩:=vals1 r
 cases rx
 have fin:∀ (its:List Value),Vals ys its→ys.length≤sizeLine→∀ (h':Heap) (c':Nat),(∀ b o',s.heap.get? b=some o'→h'.get? b=some o') →
   h'.get? s.heap.objs.size=some { cls:=.type "list",dict:=none,data:=.seq its.toArray c',slots:=#[] }→EP X pins σ Q (.ref s.heap.objs.size) { s with heap:=h' }:=fun its r' hz h' c' kp e=>
  ⟨.ref s.heap.objs.size,_,I.laid (t':=s.toks) kp (Nat.le_refl _) (show aX X.prog X.w _ h' _ (.lst ys) from ⟨hz,its,c',r',e⟩),rfl,q _ (I.hok.fresh (Nat.le_refl _))⟩
 rcases hq with hq | hq
 ·obtain ⟨its,r',pl,hz⟩:=I.list hq
  have hlen:=r'.length
  obtain ⟨o,ho,hc,n,hd⟩:=pl.isList
  exact call_list_seq p (.inl rfl) ho hc hd (fun h' c' kp e=>fin its r' hz h' c' kp e) (by simp only [List.size_toArray]<;>omega)
 ·obtain ⟨its,r',pl,hz⟩:=I.tuple hq
  have hlen:=r'.length
  obtain ⟨o,ho,hc,n,hd⟩:=pl
  exact call_list_seq p (.inr rfl) ho hc hd (fun h' c' kp e=>fin its r' hz h' c' kp e) (by simp only [List.size_toArray]<;>omega)
theorem nI:b4 X (.type "tuple") (fun xs H Q=>∃ p ys,xs=[.ref p]∧((SqL X.K H p ys∧∀ l,H l=none→Q (.ref l) (upd H l (.tup ys)))∨(SqT X.K H p ys∧Q (.ref p) H))):=by
 intro pins s σ H xs us Q I r h
 obtain ⟨p,ys,rfl,h⟩:=h
 obtain ⟨u,rfl,rx⟩:=vals1 r
 cases rx
 rcases h with ⟨hq,q⟩ | ⟨hq,q⟩
 ·obtain ⟨its,r',pl,hz⟩:=I.list hq
  have hlen:=r'.length
  refine call_tuple_list pl.isList (fun h' kp=>?_) (by simp only [List.size_toArray]<;>omega)
  have I1:Inv X pins σ H { s with heap:=h' }:=I.kept (t':=s.toks) kp
  have I2:Inv X pins σ (upd H h'.objs.size (.tup ys)) { s with heap:=h'.push { cls:=.type "tuple",data:=.seq its.toArray } }:=
   I1.laid (t':=s.toks) (fun b o e=>Heap.get?_push_of_some _ e) (Nat.le_refl _) (show aX X.prog X.w _ _ _ (.tup ys) from ⟨hz,its,r',IsTup.new _ _⟩)
  exact ⟨.ref h'.objs.size,_,I2,rfl,q _ (I1.hok.fresh (Nat.le_refl _))⟩
 ·obtain ⟨its,r',pl,hz⟩:=I.tuple hq
  exact call_tuple_same pl ⟨.ref p,H,I,rfl,q⟩
noncomputable def tyV (K:PySem.W.Frag) (T:String) (x:V) (H:Hp):Prop:=match x with
 | .str _=>T = "str"
 | .int _=>T = "int"
 | .ref p=>(T = "list" ∧ ∃ xs,SqL K H p xs)∨(T = "tuple" ∧ ∃ o,K.lookup p=some o∧o.cls=.type "tuple" ∧ o.dict=none) ∨
   (T = "dict" ∧ ((∃ kvs,H p=some (.dK kvs))∨∃ kvs,H p=some (.dT kvs)))∨(T = "set" ∧ ∃ S n,H p=some (.set S n))
 | _=>False
theorem zh {pins:List (Addr×Obj)} {σ:St} {H:Hp} {s:Shared} {T:String} {x:V} {v:Value} (I:Inv X pins σ H s) (r:RelV x v) (ty:tyV X.K T x H) :
  s.TypeIs v T∧∀ a,v=.ref a→∃ ob,s.heap.get? a=some ob∧ob.dict=none:=by
 cases x with
 | str z=>
  obtain ⟨t,rfl⟩:=r
  cases (show T = "str" from ty)
  exact ⟨typeIs_str s z t,fun _ e=>nomatch e⟩
 | int i=>
  obtain ⟨t,rfl⟩:=r
  cases (show T = "int" from ty)
  exact ⟨typeIs_int s i t,fun _ e=>nomatch e⟩
 | ref p=>
  cases r
  rcases ty with ⟨rfl,xs,hq⟩ | ⟨rfl,o,hk,hc,hd⟩ | ⟨rfl,hk⟩ | ⟨rfl,S,n,hk⟩
  ·obtain ⟨its,_,pl,_⟩:=I.list hq
   refine ⟨pl.isList.typeIs,fun a e=>?_⟩
   cases e
   obtain ⟨o,n,e,c,hd,_⟩:=pl
   exact ⟨o,e,hd⟩
  ·refine ⟨⟨o,I.kIn p o hk,hc⟩,fun a e=>?_⟩
   cases e
   exact ⟨o,I.kIn _ o hk,hd⟩
  ·have z:∃ o,s.heap.get? p=some o∧o.ExactDict:=by
    rcases hk with ⟨kvs,hk⟩ | ⟨kvs,hk⟩
    ·obtain ⟨_,_,_,_,o,_,_,e,ex,_⟩:=I.hok p _ hk
     exact ⟨o,e,ex⟩
    ·obtain ⟨_,_,_,_,o,_,_,e,ex,_⟩:=I.hok p _ hk
     exact ⟨o,e,ex⟩
   obtain ⟨o,e,ex⟩:=z
   refine ⟨⟨o,e,ex.1⟩,fun a e2=>?_⟩
   cases e2
   exact ⟨o,e,ex.2.1⟩
  ·obtain ⟨o,_,_,_,e,ex,_⟩:=I.hok p _ hk
   refine ⟨⟨o,e,ex.1⟩,fun a e2=>?_⟩
   cases e2
   exact ⟨o,e,ex.2.1⟩
 | _=>exact False.elim ty
noncomputable def Jm (K:PySem.W.Frag) (T:String) (r:V→List V→Hp→VK→Prop) (to:TE):TE:=fun σ H Q=>to σ H fun x H1=>tyV K T x H1∧r x [] H1 Q
noncomputable def tBM (K:PySem.W.Frag) (T:String) (r:V→List V→Hp→VK→Prop) (to:TE) (t:TA):TE:=fun σ H Q=>to σ H fun x H1=>tyV K T x H1∧t σ H1 fun xs H2=>r x xs H2 Q
variable {o e:Expr} {es:List Expr} {to:TE} {t:TA} {name:Str} {apos cpos:Pos} {T id:String} {r:V→List V→Hp→VK→Prop}
theorem Gy (pa:PlainAttrs T) (slot:Slot T name id) (hty:typeOf (.builtin id)=pure (.type "method_descriptor")) (hm:MtR X id r) (ho:PE X o to)
  (hbase:attributeBase o name X.env (eval o X.env)=eval o X.env:=by rfl) (hline:(apos.endLine == cpos.line)=true:=by rfl):PE X (.Call (.Attribute o name apos) [] [] cpos) (Jm X.K T r to):=by
 intro pins s σ H Q I h
 refine wpAny_Call_method0_late hbase hline (thn (ho pins s σ H _ I h) fun v s1 ⟨x,H1,I1,r1,ty,q1⟩=>?_)
 obtain ⟨h1,h2⟩:=zh I1 r1 ty
 exact ⟨T,id,pa,slot,hty,h1,h2,Calls.callWith_builtin rfl (PySem.evalArgs_none (hm pins s1 σ H1 x [] v [] Q I1 r1 .nil q1))⟩
theorem nV (pa:PlainAttrs T) (slot:Slot T name id) (hty:typeOf (.builtin id)=pure (.type "method_descriptor")) (hm:MtR X id r) (ho:PE X o to) (ha:PA X (e::es) t)
  (hbase:attributeBase o name X.env (eval o X.env)=eval o X.env:=by rfl)
  (hfew:((backTo cpos (starEach (e::es) X.env)).all (fun x=>!x.1)&&(backToKw cpos (keywordEach [] X.env)).all (fun x=>x.1.isSome)
   && decide ((e::es).length+([]:List Keyword).length+(if ([]:List Keyword).isEmpty then 0 else 1)<30))=true:=by rfl)
  (hline:(apos.endLine == cpos.line)=true:=by rfl) (hs:starEach (e::es) X.env=(false,eval e X.env)::starEach es X.env:=by rfl) (hplain:(backTo cpos (starEach es X.env)).any (·.1)=false:=by rfl) :
  PE X (.Call (.Attribute o name apos) (e::es) [] cpos) (tBM X.K T r to t):=by
 intro pins s σ H Q I h
 refine wpAny_Call_method_late hbase hfew hline rfl (thn (ho pins s σ H _ I h) fun v s1 ⟨x,H1,I1,r1,ty,q1⟩=>?_)
 obtain ⟨h1,h2⟩:=zh I1 r1 ty
 refine ⟨T,id,pa,slot,hty,h1,h2,?_⟩
 have hA:=ha cpos pins s1 σ H1 _ I1 q1
 rw [hs] at hA ⊢
 refine Calls.callWith_builtin (by show (false||(backTo cpos (starEach es X.env)).any (·.1))=false;rw [hplain]<;>rfl) (Calls.evalArgs_plain ?_)
 exact thn hA fun us s2 ⟨vs,H2,I2,r2,q2⟩=>hm pins s2 σ H2 x vs v us Q I2 r1 r2 q2
end
noncomputable def MtM (X:Cx) (id:String) (r:V→List V→Hp→VK→Prop):Prop:=
 ∀ (pins:List (Addr×Obj)) (s:Shared) (σ:St) (H:Hp) (x:V) (xs:List V) (v:Value) (us:List Value) (Q:VK),Inv X pins σ H s→RelV x v→Vals xs us→r x xs H Q →
  wpAny (model X.prog X.w) X.A (call (.builtin id) (v::us)) (EP X pins σ Q) X.xe s
theorem Vals.one:∀ {x:V} {us:List Value},Vals [x] us→∃ u,us=[u]∧RelV x u
 | _,_,.cons r .nil=>⟨_,rfl,r⟩
theorem Vals.zero:∀ {us:List Value},Vals [] us→us=[]
 | _,.nil=>rfl
theorem Vals.eraseIdx:∀ {xs:List V} {us:List Value} (i:Nat),Vals xs us→Vals (xs.eraseIdx i) (us.eraseIdx i)
 | _,_,_,.nil=>.nil
 | _,_,0,.cons _ t=>t
 | _,_,i+1,.cons r t=>.cons r (Vals.eraseIdx i t)
theorem Vals.rep {xs:List V} {us:List Value} (h:Vals xs us):∀ k:Nat,Vals (List.replicate k xs).flatten (List.replicate k us).flatten
 | 0=>.nil
 | k+1=>by
  rw [List.replicate_succ,List.replicate_succ,List.flatten_cons,List.flatten_cons]
  exact Vals.append h (Vals.rep h k)
theorem nW {α:Type}:∀ (l:List α) (i:Nat),(l.eraseIdx i).length≤l.length
 | [],_=>Nat.le_refl _
 | _::_,0=>Nat.le_succ _
 | _::r,i+1=>Nat.succ_le_succ (nW r i)
theorem foldl_rep (its:List Value):∀ (k:Nat) (acc:List Value),
  List.foldl (fun x1 x2=>x1++x2) acc.toArray (List.replicate k its.toArray)=(acc++(List.replicate k its).flatten).toArray
 | 0,acc=>by simp
 | k+1,acc=>by
  have e:acc.toArray++its.toArray=(acc++its).toArray:=by simp
  have e2:(acc++its)++(List.replicate k its).flatten=acc++(List.replicate (k+1) its).flatten:=by
   rw [List.replicate_succ,List.flatten_cons,List.append_assoc]
  rw [← e2,← foldl_rep its k (acc++its),← e,List.replicate_succ,List.foldl_cons]
section
variable {X:Cx} {pins:List (Addr×Obj)} {σ:St} {H:Hp} {s:Shared} {l b:Addr} {xs ys zs:List V}
theorem Inv.zj {its its':List Value} {n:Nat} {f:Array Value→Array Value} {t':Nat} (I:Inv X pins σ H s) (hH:H l=some (.lst xs))
  (e:s.heap.get? l=some { cls:=.type "list",data:=.seq its.toArray n }) (hf:f its.toArray=its'.toArray) (hv:Vals ys its') (hz:ys.length≤sizeLine) :
  Inv X pins σ (upd H l (.lst ys)) { s with heap:=s.heap.update l (Obj.mapSeq f),toks:=t' }:=by
 have q:=PySem.IsL.update e f
 rw [hf] at q
 refine I.write (x:=l) (e:=l) (by rw [hH];exact trivial) (.inl rfl) (fun b' u hb hu=>(Heap.get?_update_other s.heap (Obj.mapSeq f) (Ne.symm hb)).trans hu) ⟨_,q⟩ ?_
 exact ⟨hz,its',_,hv,q⟩
theorem Inv.Gz {its:List Value} {t':Nat} (I:Inv X pins σ H s) (hv:Vals ys its) (hz:ys.length≤sizeLine) :
  Inv X pins σ (upd H s.heap.objs.size (.lst ys)) { s with heap:=s.heap.push { cls:=.type "list",data:=.seq its.toArray },toks:=t' }:=
 I.laid (fun _ _ q=>Heap.get?_push_of_some _ q) (Nat.le_refl _) ⟨hz,its,0,hv,Heap.get?_push_size _ rfl⟩
theorem Inv.fresh (I:Inv X pins σ H s):H s.heap.objs.size=none:=I.hok.fresh (Nat.le_refl _)
theorem Inv.zk (I:Inv X pins σ H s) (hH:H l=some (.lst xs)):xs.length≤sizeLine∧∃ (its:List Value) (n:Nat),Vals xs its∧xs.length=its.length∧s.heap.get? l=some { cls:=.type "list",data:=.seq its.toArray n }:=by
 obtain ⟨z,its,n,r,e⟩:=I.hok l _ hH
 exact ⟨z,its,n,r,r.length,e⟩
theorem qG {n:Nat} (h:n≤sizeLine):Builtin.List.listTooLong n=false:=by
 unfold Builtin.List.listTooLong
 exact decide_eq_false (by omega)
end
section
variable {X:Cx}
noncomputable def iR:V→List V→Hp→VK→Prop:=fun x vs H Q=>∃ l xs y,x=.ref l∧vs=[y]∧H l=some (.lst xs)∧xs.length<sizeLine∧Q .non (upd H l (.lst (xs++[y])))
theorem dQ:MtM X "list.append" iR:=by
 intro pins s σ H x vs v us Q I rx rv h
 obtain ⟨l,xs,y,rfl,rfl,hH,hz,q⟩:=h
 cases rx
 obtain ⟨u,rfl,ru⟩:=rv.one
 obtain ⟨z,its,n,r,hl,e⟩:=I.zk hH
 refine call_meets F.slot_list_append ⟨_,e,rfl⟩ F.entry_list_append (F.args_list_append_2 _ _) (PySem.list_append l its.toArray n u (by rw [List.size_toArray];omega)) ⟨e,?_⟩
 refine ⟨.non,_,I.zj (its':=its++[u]) hH e (by simp) (r.append (.cons ru .nil)) ?_,rfl,q⟩
 rw [List.length_append,List.length_singleton]
 omega
noncomputable def zl:V→List V→Hp→VK→Prop:=fun x vs H Q=>∃ l xs i k y,x=.ref l∧vs=[.int i]∧H l=some (.lst xs)∧-(2 ^ 63)≤i∧i<2 ^ 63∧seqIndex? i xs.length=some k∧xs[k]?=some y∧Q y (upd H l (.lst (xs.eraseIdx k)))
theorem zm:MtM X "list.pop" zl:=by
 intro pins s σ H x vs v us Q I rx rv h
 obtain ⟨l,xs,i,k,y,rfl,rfl,hH,h1,h2,hk,hy,q⟩:=h
 cases rx
 obtain ⟨u,rfl,ru⟩:=rv.one
 obtain ⟨t,rfl⟩:=ru
 obtain ⟨z,its,n,r,hl,e⟩:=I.zk hH
 obtain ⟨w,hw,rw'⟩:=r.get hy
 refine call_meets F.slot_list_pop ⟨_,e,rfl⟩ F.entry_list_pop (F.args_list_pop_2 _ _)
  (MeetsSeq.list_pop_at l its.toArray n i t k w (fitsIndex_both h1 h2) (by rw [List.size_toArray,← hl];exact hk) (by rw [← Array.getElem?_toList];exact hw) (by rw [List.size_toArray];omega)) ⟨e,?_⟩
 refine ⟨y,_,I.zj (its':=its.eraseIdx k) hH e ?_ (r.eraseIdx k) ?_,rw',q⟩
 ·show its.toArray.eraseIdxIfInBounds k=(its.eraseIdx k).toArray
  rw [List.eraseIdxIfInBounds_toArray]
 ·have:=nW xs k
  omega
noncomputable def zo:V→List V→Hp→VK→Prop:=fun x vs H Q=>∃ l xs,x=.ref l∧vs=[]∧H l=some (.lst xs)∧Q .non (upd H l (.lst []))
theorem zp:MtM X "list.clear" zo:=by
 intro pins s σ H x vs v us Q I rx rv h
 obtain ⟨l,xs,rfl,rfl,hH,q⟩:=h
 cases rx
 have hus:=rv.zero
 subst hus
 obtain ⟨z,its,n,r,hl,e⟩:=I.zk hH
 refine call_meets F.slot_list_clear ⟨_,e,rfl⟩ F.entry_list_clear (F.args_list_clear_1 _) (AutoSeq1.list_clear_list_0 l its.toArray n (by rw [List.size_toArray];omega)) ⟨e,?_⟩
 exact ⟨.non,_,I.zj (its':=[]) (ys:=[]) hH e rfl .nil (Nat.zero_le _),rfl,q⟩
theorem len_rep {α:Type} (xs:List α) (k:Nat):(List.replicate k xs).flatten.length=k*xs.length:=by
 induction k with
 | zero=>simp
 | succ k ih=>rw [List.replicate_succ,List.flatten_cons,List.length_append,ih,Nat.succ_mul,Nat.add_comm]
end
section
variable {prog:Program} {w:World} {A:Around} {E:Value→Shared→Prop} {s:Shared}
set_option maxRecDepth 100000 in
end
section
variable {X:Cx}
end
end L2
namespace Att
open PySem PySem.W PySem.Calls PyProof.Rows
theorem kC {P:Params} {h:Heap}:∀ (ns:List Int) (vs:List Value),WellAll P h vs (ns.map WData.int)→IntsAre vs ns:=by
 intro ns
 induction ns with
 | nil=>
  intro vs w
  rw [List.map_nil] at w
  cases w
  exact .nil
 | cons n ns ih=>
  intro vs w
  rw [List.map_cons] at w
  cases w with
  | cons a b=>
   cases a
   exact .cons _ _ (ih _ b)
theorem xx {l:OpenLaw} {n:Nat} (hn:l.most=some n) {P:Params} {h:Heap} {args:List WData} {vals:List Value}
  (hpre:l.row.toRowW.claim.pre args=true) (hwl:WellAll P h vals args) :
  ∃ a vs ns,vals=[Value.ref a]∧args=[WData.list (ns.map WData.int)]∧h.get? a=some { cls:=.type "list",data:=.seq vs.toArray }∧IntsAre vs ns∧ns.length≤n:=by
 have hsh:WShape.hasAll [] args [.list .int]=true:=(pre_splitW hpre).1
 have hc:l.pre.holds [] { args:=args }=true:=(pre_splitW hpre).2
 obtain ⟨d,r,rfl,h1,h2⟩:=hasAllW_cons hsh
 obtain rfl:=hasAllW_nil h2
 obtain ⟨xs,rfl,h3⟩:=hasW_list h1
 obtain ⟨ns,rfl⟩:=items_int h3
 have hlen:ns.length≤n:=by
  unfold OpenLaw.pre at hc
  have h4:(WTm.not (.lt (.lit (.int (n:Int))) (.len (.arg 0)))).holds [] { args:=[.list (ns.map .int)] }=true:=by
   have h4:=(holds_andW hc).1
   rw [hn] at h4
   exact h4
  have h5:=condW_of h4 (w_not (w_lt w_lit (w_len_list (w_arg rfl))))
  rw [List.length_map] at h5
  refine Nat.le_of_not_lt fun q=>?_
  have q':(n:Int)<((ns.length:Nat):Int):=by omega
  first
   | (rw [decide_eq_true q'] at h5;exact absurd h5 (by decide))
   | (simp at h5;omega)
 cases hwl with
 | cons w1 w2=>
  cases w2
  cases w1 with
  | list ho hall=>exact ⟨_,_,ns,rfl,rfl,ho,kC ns _ hall,hlen⟩
theorem xy (l:OpenLaw) (args:List WData):l.row.toRowW.claim.post args (.bool true) args=true:=
 postW_of (r:=l.row.toRowW) (X:=(true == true))
  (show WShape.has [] (.bool true) .bool=true by first | rfl | decide | simp [WShape.has,WShape.arms,WShape.armsAll])
  (show (WTm.eq .res (.lit (.bool true))).value [] { args:=args,res:=some (.bool true),after:=args }=some (.bool (true == true)) from w_eq_bool (w_res rfl) w_lit) rfl
theorem qH {l:OpenLaw} {n:Nat} {q:Program} {loose:List Str} {XP:(Str→Option Value)→Heap→Prop} {YP:World→Heap→Prop} {d:DefRec}
  (hn:l.most=some n) (hdf:d.params.defaults=[])
  (call:∀ (w:World) (s₀ s₁:Shared) (mg mb:Str→Option Value) (fa:Addr) (o:Obj) (pm cd doc:Value) (a:Addr) (vs:List Value) (ns:List Int),
   Ground q loose [] XP w s₀ mg mb s₁.heap→YP w s₁.heap →
   s₁.heap.get? fa=some o→o.data=.func (docDef d.name d.params d.body d.scope pm cd doc)→s₁.heap.CodeRec cd d.name→mg d.name=some (.ref fa) →
   s₁.heap.get? a=some { cls:=.type "list",data:=.seq vs.toArray }→IntsAre vs ns→ns.length≤n→s₁.gens=#[] →
   codeAny (model l.prog w) callerA (.call (.ref fa) ⟨[.ref a],[]⟩) (fun r s'=>r=.ok (.ret (.bool true))∧OldK s₁.heap s'.heap∧s'.os=s₁.os∧AllBare s'.gens) s₁) :
  WalkO q loose XP YP l.row.toRowW d [] (fun f vs=>PySem.call f vs):=by
 intro w s₀ s₁ mg mb G Y fa o pm cd doc dV kV ho hd hcd hD hmg hg args vals as hpre hlay hrd hwl hlo
 obtain rfl:dV=.none:=Dflts.none hD hdf
 obtain rfl:kV=.none:=Dflts.noKw hD
 obtain ⟨a,vs,ns,rfl,rfl,hobj,hints,hlen⟩:=xx hn hpre hwl
 refine enter_call (codeAny_mono (call w s₀ s₁ mg mb fa o pm cd doc a vs ns G Y ho (fd_plain hd) hcd hmg hobj hints hlen hg) fun r s' hq=>?_)
 obtain ⟨rfl,h2,h3,h4⟩:=hq
 exact ⟨.inl ⟨.bool true,.bool true,[],rfl,fun _=>rfl,.bool true,xy l _,fun _=>⟨List.Pairwise.nil,fun _ hm=>(nomatch hm)⟩⟩,h2,h3,h4⟩
section
variable {prog:Program} {w:World} {A:Around} {E:Value→Shared→Prop} {s:Shared} {K:Frag}
end
end Att
namespace L2
open PySem PySem.Spec PyProof.Rows
theorem cZ:∀ {vs:List Value} {ns:List Int},IntsAre vs ns→Vals (ns.map V.int) vs
 | _,_,.nil=>.nil
 | _,_,.cons n t h=>.cons ⟨t,rfl⟩ (cZ h)
noncomputable def GB (H:Hp):Prop:=∀ b,H b=none∨∃ o xs,H b=some (.frz o (.lst xs))
theorem zq {P:Program} {w:World} {K:PySem.W.Frag} {mg mb:Str→Option Value} {CX:CXT} {k:Nat} {fa a:Addr} {fd:FuncData} {x:Str} {sp:Sp} {s₁:Shared} {vs:List Value} {ns:List Int}
  (KX:K.In s₁.heap) (hns:s₁.heap.Ns mainGlobals mg) (hb:s₁.heap.Ns builtinsNs mb) (hbb:∀ x:Str,x ≠ "__name__" → mb x=bootBuiltins x) (hlim:s₁.heap.NoLimit) (hg:s₁.gens=#[])
  (ha:s₁.heap.get? a=some { cls:=.type "list",data:=.seq vs.toArray }) (hi:IntsAre vs ns) (hl:ns.length≤sizeLine) (hr:aU k callerA)
  (F:∀ base:Heap,K.In base→base.Ns mainGlobals mg→aR P w K mg base CX k fa fd [x] sp) (hbind:∀ (s:Shared) (u:Value),BindsTo s fd ⟨[u],[]⟩ [(x,u)])
  (hsp:∀ H:Hp,GB H→SqL K H a (ns.map V.int)→sp [.ref a] H (fun v _=>v=.bl true) fun _ _ _=>False)
  (hCX:∀ H e s',CX [] H s₁ (fun _ _ _=>False) e s'→False) :
  codeAny (model P w) callerA (.call (.ref fa) ⟨[.ref a],[]⟩) (fun r s'=>r=.ok (.ret (.bool true))∧OldK s₁.heap s'.heap∧s'.os=s₁.os∧AllBare s'.gens) s₁:=by
 have rv:=cZ hi
 have Lq:=hi.length
 have core:∀ H:Hp,GB H→SqL K H a (ns.map V.int)→HOk P w H s₁.heap→(∀ b,H b≠none→b=a)→(H a≠none→K.lookup a=none) →
   codeAny (model P w) callerA (.call (.ref fa) ⟨[.ref a],[]⟩) (fun r s'=>r=.ok (.ret (.bool true))∧OldK s₁.heap s'.heap∧s'.os=s₁.os∧AllBare s'.gens) s₁:=by
  intro H hO hS hok hA hK
  have vj:∀ {b:Addr} {o:Obj},s₁.heap.get? b=some o→H b=none→(oZ s₁.heap H).get? b=some o:=fun e n=>yJ e n
  have noA:∀ {b:Addr} {o:Obj} {es:Array DictEntry} {ep:Nat},s₁.heap.get? b=some o→o.data=.dict es ep→H b=none:=fun {b o es ep} e d=>by
   cases q:H b with
   | none=>rfl
   | some u=>
    have e':b=a:=hA b (by rw [q];simp)
    subst e'
    rw [ha] at e;cases e
    have d':Data.seq vs.toArray _=Data.dict es ep:=d
    cases d'
  have nsK:∀ {b:Addr} {m:Str→Option Value},s₁.heap.Ns b m→(oZ s₁.heap H).Ns b m:=fun {b m} ⟨o,es,ep,e,d,r⟩=>⟨o,es,ep,vj e (noA e d),d,r⟩
  have hKb:K.In (oZ s₁.heap H):=fun b o e=>vj (KX b o e) (by
   cases q:H b with
   | none=>rfl
   | some u=>
    have e':b=a:=hA b (by rw [q];simp)
    subst e'
    rw [hK (by rw [q];simp)] at e;cases e)
  have hM:Mod K mg (oZ s₁.heap H):=⟨hKb,nsK hns,⟨mb,nsK hb,hbb⟩,let ⟨mc,h1,h2⟩:=hlim;⟨mc,nsK h1,h2⟩⟩
  have e0:CB P w K mg (oZ s₁.heap H) callerA [] s₁ H:=⟨rfl,hM,fun b o e=>Cp e,Nat.le_of_eq (wZ _ _),trivial,fun b hb=>absurd (show b∈([]:List Addr) from hb) (by simp),hok,.of_eq hg⟩
  refine codeAny_mono ((F _ hKb (nsK hns)).run callerA [] s₁ H ⟨[.ref a],[]⟩ [.ref a] [.ref a] _ _ hr e0 (hbind s₁ (.ref a)) (.cons rfl .nil) (hsp H hO hS)) fun r s' h=>?_
  cases r with
  | error e=>exact (hCX H e s' h).elim
  | ok fl=>
   cases fl with
   | next=>exact False.elim h
   | brk=>exact False.elim h
   | cont=>exact False.elim h
   | ret u=>
    obtain ⟨v,H',os,bare,un,Lr,r',q⟩:=h
    have q':v=.bl true:=q
    subst q'
    obtain rfl:u=Value.bool true:=r'
    refine ⟨rfl,OldK.of_keep fun b o e=>?_,os,bare⟩
    cases q:H b with
    | none=>exact un.keep b o e q (by intro z;exact absurd (show b∈([]:List Addr) from z) (by simp)) (by simp)
    | some u=>
     rcases hO b with z | ⟨ob,xs,z⟩
     ·rw [q] at z;cases z
     ·have z2:=un.oY b ob _ z
      obtain ⟨e1,_⟩:=hok b _ z
      obtain ⟨e2,_⟩:=Lr b _ z2
      rw [e] at e1;cases e1
      exact e2
 cases hk:K.lookup a with
 | some o=>
  have e:=KX a o hk
  rw [ha] at e
  cases e
  refine core (fun _=>none) (fun _=>.inl rfl) (.inr ⟨_,vs.toArray,_,hk,rfl,rfl,rfl,by rw [List.size_toArray,Lq];exact hl,by simpa using rv⟩) (fun b u z=>by have z':(none:Option HO)=some u:=z;cases z') (fun b z=>absurd rfl z) fun z=>absurd rfl z
 | none=>
  refine core (fun b=>if b=a then some (.frz { cls:=.type "list",data:=.seq vs.toArray } (.lst (ns.map V.int))) else none) (fun b=>?_) (.inl (.inr ⟨{ cls:=.type "list",data:=.seq vs.toArray },if_pos rfl⟩)) (fun b u z=>?_) (fun b z=>?_) fun _=>hk
  ·by_cases hb:b=a
   ·exact .inr ⟨_,_,if_pos hb⟩
   ·exact .inl (if_neg hb)
  ·by_cases hb:b=a
   ·have z':=(if_pos hb).symm.trans z
    cases z'
    subst hb
    exact ⟨ha,by rw [List.length_map];exact hl,vs,_,rv,ha⟩
   ·have z':=(if_neg hb).symm.trans z
    cases z'
  ·by_cases hb:b=a
   ·exact hb
   ·exact absurd (if_neg hb) z
theorem CF {l:PySem.W.OpenLaw} {n k:Nat} {q:Program} {loose:List Str} {XP:(Str→Option Value)→Heap→Prop} {YP:World→Heap→Prop} {d:DefRec} {K:Params→PySem.W.Frag} {CX:World→CXT} {sp:World→Sp} {x:Str}
  (hn:l.most=some n) (hn2:n≤sizeLine) (hdf:d.params.defaults=[]) (hr:aU k callerA)
  (hY:∀ (w:World) (h:Heap),YP w h→(K w.params).In h)
  (F:∀ (w:World) (mg:Str→Option Value) (fa:Addr) (h:Heap),(K w.params).In h→h.Ns mainGlobals mg→mg d.name=some (.ref fa) →
   ∃ fd:FuncData,(∀ (s:Shared) (u:Value),BindsTo s fd ⟨[u],[]⟩ [(x,u)]) ∧
    ∀ base:Heap,(K w.params).In base→base.Ns mainGlobals mg→aR l.prog w (K w.params) mg base (CX w) k fa fd [x] (sp w))
  (hsp:∀ (w:World) (H:Hp) (a:Addr) (ns:List Int),ns.length≤n→GB H→SqL (K w.params) H a (ns.map V.int)→sp w [.ref a] H (fun v _=>v=.bl true) fun _ _ _=>False)
  (hCX:∀ (w:World) (H:Hp) (s:Shared) (e:Value) (s':Shared),CX w [] H s (fun _ _ _=>False) e s'→False) :
  PySem.W.WalkO q loose XP YP l.row.toRowW d [] (fun f vs=>PySem.call f vs):=by
 refine Att.qH hn hdf fun w s₀ s₁ mg mb fa o pm cd doc a vs ns G Y ho hd hcd hmg hobj hints hlen hg=>?_
 have KX:=hY w _ Y
 obtain ⟨fd,hb,hF⟩:=F w mg fa _ KX G.T.g hmg
 exact zq KX G.T.g G.T.b G.T.builtins G.T.nolimit hg hobj hints (Nat.le_trans hlen hn2) hr hF hb (fun H hO hS=>hsp w H a ns hlen hO hS) fun H e s'=>hCX w H s₁ e s'
noncomputable def aI (s:Stmt):Arguments:=match s with
 | .FunctionDef _ a _ _ _ _ _ _ _ _=>a
 | _=>{ posonlyargs:=[],args:=[],vararg:=none,kwonlyargs:=[],kw_defaults:=[],kwarg:=none,defaults:=[] }
noncomputable def aG (s:Stmt):List Stmt:=match s with
 | .FunctionDef _ _ b _ _ _ _ _ _ _=>b
 | _=>[]
noncomputable def ai (s:Stmt):Scope:=match s with
 | .FunctionDef _ _ _ _ _ _ sc _ _ _=>sc
 | _=>{ kind:=.function,names:=[],isGenerator:=false,isCoroutine:=false }
noncomputable abbrev CX0:CXT:=fun _ _ _ _ _ _=>False
noncomputable abbrev E0:XK:=fun _ _ _=>False
theorem gH {X:Cx}:Passes CX0 X E0:=fun _ _ _ _ _ _ _ h=>h.elim
structure Fun (K:PySem.W.Frag) (x qual:Str) (st:Stmt) (f:Addr) (fd:FuncData):Prop where
 ex:∃ (oc:Value) (od:Option Addr) (kV doc pm:Value) (an:Option Addr) (cdv ct:Value) (osl:Array (Option Value)),
  fd=PySem.W.fnOf x qual (aI st) (aG st) (ai st) .none kV doc pm an cdv ct∧K.lookup f=some ⟨oc,od,.func fd,osl⟩∧PySem.W.codeIn K cdv qual=true
 kp:PySem.W.keepIn K (.ref f)=true
section
variable {P:Program} {w:World} {K:PySem.W.Frag} {mg:Str→Option Value} {base:Heap}
theorem Fun.ok {x qual:Str} {st:Stmt} {f:Addr} {fd:FuncData} {N ps:List Str} {k:Nat} {sp:Sp} (F:Fun K x qual st f fd) (S:aE N ps (ai st)) (len:∀ vs H Q E,sp vs H Q E→vs.length=ps.length)
  (hbody:∀ (cdv:Value) (A:Around) (outer:List Env) (s:Shared) (H:Hp) (vs:List V) (Q:VK) (E:XK),aU k (A.deeper (envOfC qual (ai st) s.heap.objs.size f cdv))→sp vs H Q E →
   ∃ t,PSs (tF CX0 P w K mg base N qual (ai st) f cdv A outer s H E).nox (aG st) t∧t { nx:=fun _ H'=>Q .non H',rt:=Q } (start N vs) H):aR P w K mg base CX0 (k+1) f fd ps sp:=by
 obtain ⟨oc,od,kV,doc,pm,an,cdv,ct,osl,rfl,lk,hcd⟩:=F.ex
 refine EL lk hcd S len fun A outer s H vs Q E hr hsp=>?_
 obtain ⟨t,h,q⟩:=hbody cdv A outer s H vs Q E hr hsp
 exact ⟨t,h.nox,q⟩
theorem Fun.binds {x qual:Str} {st:Stmt} {f:Addr} {fd:FuncData} {ps:List Str} (F:Fun K x qual st f fd)
  (h:∀ (kV doc pm:Value) (an:Option Addr) (cdv ct:Value) (us:List Value),us.length=ps.length→bindArgs (PySem.W.fnOf x qual (aI st) (aG st) (ai st) .none kV doc pm an cdv ct) ⟨us,[]⟩=pure (ps.zip us)):Binds K fd ps []:=by
 obtain ⟨oc,od,kV,doc,pm,an,cdv,ct,osl,rfl,lk,hcd⟩:=F.ex
 exact .all (h kV doc pm an cdv ct)
theorem GC {x qual:Str} {st:Stmt} {f:Addr} {oc:Value} {od an:Option Addr} {osl:Array (Option Value)} {kV doc pm cdv ct:Value} (l:K.lookup f=some ⟨oc,od,.func (PySem.W.fnOf x qual (aI st) (aG st) (ai st) .none kV doc pm an cdv ct),osl⟩)
  (c:PySem.W.codeIn K cdv qual=true) (k:PySem.W.keepIn K (.ref f)=true):Fun K x qual st f (PySem.W.fnOf x qual (aI st) (aG st) (ai st) .none kV doc pm an cdv ct):=⟨⟨oc,od,kV,doc,pm,an,cdv,ct,osl,rfl,l,c⟩,k⟩
end
section
variable {X:Cx}
end
noncomputable def aj (H H':Hp):Prop:=∀ b o,H b=some o→H' b=some o
theorem aj.refl (H:Hp):aj H H:=fun _ _ h=>h
theorem aj.trans {H H1 H2:Hp} (a:aj H H1) (b:aj H1 H2):aj H H2:=fun c o h=>b c o (a c o h)
theorem aj.free {H H':Hp} (e:aj H H') {l:Addr} (h:H' l=Option.none):H l=Option.none:=by
 cases q:H l with
 | none=>rfl
 | some o=>
  rw [e l o q] at h
  cases h
section
variable {κ:Type} [DecidableEq κ]
noncomputable def gT (kvs:List (κ×V)) (k:κ):Option V:=(kvs.find? fun kv=>decide (kv.1=k)).map (·.2)
noncomputable def putK (kvs:List (κ×V)) (k:κ) (v:V):List (κ×V):=
 if (kvs.any fun kv=>decide (kv.1=k))=true then kvs.map (fun kv=>if kv.1=k then (kv.1,v) else kv) else kvs++[(k,v)]
noncomputable def jV (kvs:List (κ×V)) (k:κ):List (κ×V):=kvs.filter fun kv=>decide (kv.1≠k)
theorem iU {p:κ×V} {r:List (κ×V)} {k:κ} (e:p.1=k):gT (p::r) k=some p.2:=by simp [gT,List.find?_cons,e]
theorem iV {p:κ×V} {r:List (κ×V)} {k:κ} (e:¬ p.1=k):gT (p::r) k=gT r k:=by simp [gT,List.find?_cons,e]
theorem qI (k:κ):∀ kvs:List (κ×V),(kvs.any fun kv=>decide (kv.1=k))=(gT kvs k).isSome
 | []=>rfl
 | p::r=>by
  rw [List.any_cons]
  by_cases e:p.1=k
  ·simp only [iU e,decide_eq_true e,Bool.true_or,Option.isSome_some]
  ·rw [iV e,decide_eq_false e,Bool.false_or];exact qI k r
theorem fE (kvs:List (κ×V)) (k:κ) (v:V):(putK kvs k v).length≤kvs.length+1:=by
 unfold putK
 split
 ·rw [List.length_map];omega
 ·rw [List.length_append,List.length_cons,List.length_nil];omega
theorem iK.dR {o:Option V} {u:Option Value} (r:iK o u):o.isSome=u.isSome:=by
 cases o with
 | none=>cases u with
  | none=>rfl
  | some _=>exact (show False from r).elim
 | some _=>cases u with
  | none=>exact (show False from r).elim
  | some _=>rfl
theorem iK.getD {o:Option V} {u:Option Value} {d:V} {d':Value} (r:iK o u) (rd:RelV d d'):RelV (o.getD d) (u.getD d'):=by
 cases o with
 | none=>cases u with
  | none=>exact rd
  | some _=>exact (show False from r).elim
 | some _=>cases u with
  | none=>exact (show False from r).elim
  | some _=>exact r
theorem KV.val {kvs:List (κ×V)} {vs:List (κ×Value)} (r:KV kvs vs) (k:κ):iK (gT kvs k) (valueAt vs k):=by
 unfold KV at r
 induction r with
 | nil=>exact True.intro
 | @cons p q ps qs h t ih=>
  obtain ⟨h1,h2⟩:=h
  by_cases e:p.1=k
  ·have e':q.1=k:=h1.symm.trans e
   have b:valueAt (q::qs) k=some q.2:=by simp [valueAt,List.find?_cons,e']
   rw [iU e,b];exact h2
  ·have e':¬ q.1=k:=fun z=>e (h1.trans z)
   have b:valueAt (q::qs) k=valueAt qs k:=by simp [valueAt,List.find?_cons,e']
   rw [iV e,b];exact ih
theorem KV.any {kvs:List (κ×V)} {vs:List (κ×Value)} (r:KV kvs vs) (k:κ):(kvs.any fun kv=>decide (kv.1=k))=vs.any fun kv=>decide (kv.1=k):=by
 unfold KV at r
 induction r with
 | nil=>rfl
 | cons h t ih=>rw [List.any_cons,List.any_cons,ih,h.1]
theorem KV.repl {kvs:List (κ×V)} {vs:List (κ×Value)} (r:KV kvs vs) (k:κ) {y:V} {u:Value} (ry:RelV y u) :
  KV (kvs.map fun kv=>if kv.1=k then (kv.1,y) else kv) (vs.map fun kv=>if kv.1=k then (kv.1,u) else kv):=by
 unfold KV at r ⊢
 induction r with
 | nil=>exact .nil
 | @cons p q ps qs h t ih=>
  rw [List.map_cons,List.map_cons]
  refine .cons ?_ ih
  obtain ⟨h1,h2⟩:=h
  by_cases e:p.1=k
  ·rw [if_pos e,if_pos (h1.symm.trans e)];exact ⟨h1,ry⟩
  ·rw [if_neg e,if_neg (fun z=>e (h1.trans z))];exact ⟨h1,h2⟩
theorem KV.put {kvs:List (κ×V)} {vs:List (κ×Value)} (r:KV kvs vs) (k:κ) {y:V} {u:Value} (ry:RelV y u):KV (putK kvs k y) (stored vs k u):=by
 unfold putK stored
 rw [r.any k]
 by_cases e:(vs.any fun kv=>decide (kv.1=k))=true
 ·rw [if_pos e,if_pos e];exact r.repl k ry
 ·rw [if_neg e,if_neg e];exact Paired.snoc r ⟨rfl,ry⟩
theorem KV.drop {kvs:List (κ×V)} {vs:List (κ×Value)} (r:KV kvs vs) (k:κ):KV (jV kvs k) (without vs k):=by
 unfold KV at r ⊢
 unfold jV without
 induction r with
 | nil=>exact .nil
 | @cons p q ps qs h t ih=>
  obtain ⟨h1,h2⟩:=h
  rw [List.filter_cons,List.filter_cons]
  by_cases e:p.1=k
  ·have a:¬ decide (p.1≠k)=true:=by simp [e]
   have b:¬ decide (q.1≠k)=true:=by simp [h1.symm.trans e]
   rw [if_neg a,if_neg b];exact ih
  ·have e':¬ q.1=k:=fun z=>e (h1.trans z)
   have a:decide (p.1≠k)=true:=by simp [e]
   have b:decide (q.1≠k)=true:=by simp [e']
   rw [if_pos a,if_pos b];exact .cons ⟨h1,h2⟩ ih
theorem KV.length {kvs:List (κ×V)} {vs:List (κ×Value)} (r:KV kvs vs):kvs.length=vs.length:=Paired.length r
theorem zu (kvs:List (κ×V)) (k:κ):(jV kvs k).length≤kvs.length:=List.length_filter_le _ _
end
theorem jW {P:Program} {w:World} {k:Key} {u:Value} (r:RelV (kV k) u):(aS P w).is k u=true:=by
 cases k with
 | inl i=>obtain ⟨t,e⟩:=(show ∃ t,u=Value.int i t from r);subst e;exact qx P w i t
 | inr x=>obtain ⟨t,e⟩:=(show ∃ t,u=Value.str x t from r);subst e;exact qy P w x t
theorem nX {P:Program} {w:World}:∀ {ks:List Key} {us:List Value},Vals (ks.map kV) us→ItemsAre (aS P w) ks us
 | [],_,r=>by rw [List.map_nil] at r;cases r;exact .nil
 | k::ks,_,r=>by
  rw [List.map_cons] at r
  cases r with
  | cons h t=>exact .cons (jW h) (nX t)
noncomputable abbrev KT (H:Hp):List (List Key×V)→List (List Key×Addr×Value)→Prop:=Paired fun p q=>p.1=q.1∧H q.2.1=some (.tup (p.1.map kV))∧RelV p.2 q.2.2
theorem KT.val {H:Hp} {kvs:List (List Key×V)} {xs:List (List Key×Addr×Value)} (r:KT H kvs xs) (k:List Key):iK (gT kvs k) ((atKey xs k).map (·.2)):=by
 induction r with
 | nil=>exact True.intro
 | @cons p q ps qs h t ih=>
  obtain ⟨h1,_,h2⟩:=h
  by_cases e:p.1=k
  ·have e':q.1=k:=h1.symm.trans e
   have b:atKey (q::qs) k=some q.2:=by simp [atKey,List.find?_cons,e']
   rw [iU e,b];exact h2
  ·have e':¬ q.1=k:=fun z=>e (h1.trans z)
   have b:atKey (q::qs) k=atKey qs k:=by simp [atKey,List.find?_cons,e']
   rw [iV e,b];exact ih
theorem KT.repl {H:Hp} {kvs:List (List Key×V)} {xs:List (List Key×Addr×Value)} (r:KT H kvs xs) (k:List Key) {y:V} {u:Value} (ry:RelV y u) :
  KT H (kvs.map fun kv=>if kv.1=k then (kv.1,y) else kv) (xs.map (putAt k u)):=by
 induction r with
 | nil=>exact .nil
 | @cons p q ps qs h t ih=>
  rw [List.map_cons,List.map_cons]
  refine .cons ?_ ih
  obtain ⟨h1,h2,h3⟩:=h
  unfold putAt
  by_cases e:p.1=k
  ·rw [if_pos e,if_pos (h1.symm.trans e)];exact ⟨h1,h2,ry⟩
  ·rw [if_neg e,if_neg (fun z=>e (h1.trans z))];exact ⟨h1,h2,h3⟩
theorem KT.put {H:Hp} {kvs:List (List Key×V)} {xs:List (List Key×Addr×Value)} (r:KT H kvs xs) (k:List Key) {b:Addr} {y:V} {u:Value} (hb:H b=some (.tup (k.map kV))) (ry:RelV y u) :
  KT H (putK kvs k y) (storedH xs k b u):=by
 have e:(kvs.any fun kv=>decide (kv.1=k))=(atKey xs k).isSome:=by
  rw [qI,(r.val k).dR,Option.isSome_map]
 unfold putK storedH
 rw [e]
 by_cases q:(atKey xs k).isSome=true
 ·rw [if_pos q,if_pos q];exact r.repl k ry
 ·rw [if_neg q,if_neg q];exact Paired.snoc r ⟨rfl,hb,ry⟩
theorem KT.keeps {H H':Hp} {kvs:List (List Key×V)} {xs:List (List Key×Addr×Value)} (r:KT H kvs xs) (ht:∀ b ys,H b=some (.tup ys)→H' b=some (.tup ys)):KT H' kvs xs:=
 Paired.F5 r fun _ _ z=>⟨z.1,ht _ _ z.2.1,z.2.2⟩
section
variable {P:Program} {w:World} {H:Hp} {h:Heap} {a:Addr}
theorem EM {u:HO} (ok:HOk P w H h) (e:Rd H a u):aX P w H h a u:=e.ok ok
theorem jX {kvs:List (Key×V)} (ok:HOk P w H h) (e:Rd H a (.dK kvs)):kvs.length≤sizeLine∧(a == sysModules)=false∧∃ vs,KV kvs vs∧h.DictOf (aS P w) a vs:=
 show aX P w H h a (.dK kvs) from EM ok e
theorem vm {kvs:List (Key×V)} (ok:HOk P w H h) (e:H a=some (.dK kvs)):kvs.length≤sizeLine∧(a == sysModules)=false∧∃ vs,KV kvs vs∧h.DictOf (aS P w) a vs:=jX ok (.inl e)
theorem jA {ks:List Key} (ok:HOk P w H h) (e:H a=some (.tup (ks.map kV))):(tupleKind (aS P w)).is h ks a:=by
 obtain ⟨_,its,r,o,h1,h2,n,h3⟩:=(show aX P w H h a (.tup (ks.map kV)) from ok a _ e)
 exact ⟨o,its.toArray,n,h1,h2,h3,by simpa using nX r⟩
theorem k7 {kvs:List (List Key×V)} (ok:HOk P w H h) (e:Rd H a (.dT kvs)):kvs.length≤sizeLine∧(a == sysModules)=false ∧
  ∃ xs,KT H kvs xs∧h.DictOfH (tupleKind (aS P w)) a xs:=by
 obtain ⟨z,y,xs,r,o,es,ep,h1,h2,h3,h4,h5⟩:=(show aX P w H h a (.dT kvs) from EM ok e)
 refine ⟨z,y,xs,r,o,es,ep,h1,h2,h3,h4,fun x hx=>?_,h5⟩
 have all:∀ {l:List (List Key×V)} {m:List (List Key×Addr×Value)},KT H l m→∀ x∈m,(tupleKind (aS P w)).is h x.1 x.2.1:=by
  intro l m q
  induction q with
  | nil=>intro x hx;exact nomatch hx
  | @cons p q ps qs hq t ih=>
   intro x hx
   rcases List.mem_cons.mp hx with e | hx
   ·subst e
    exact jA ok (by rw [← hq.1];exact hq.2.1)
   ·exact ih x hx
 exact all r x hx
theorem Jo {kvs:List (List Key×V)} (ok:HOk P w H h) (e:H a=some (.dT kvs)):kvs.length≤sizeLine∧(a == sysModules)=false ∧
  ∃ xs,KT H kvs xs∧h.DictOfH (tupleKind (aS P w)) a xs:=k7 ok (.inl e)
end
noncomputable def fk (H:Hp) (a:Addr) (y:V) (r:Option V):Prop:=
 (∃ kvs k,Rd H a (.dK kvs)∧y=kV k∧r=gT kvs k)∨∃ kvs k b,Rd H a (.dT kvs)∧y=.ref b∧H b=some (.tup (k.map kV))∧r=gT kvs k
noncomputable def zv (H:Hp) (a:Addr) (y v:V) (H':Hp):Prop:=
 (∃ kvs k,H a=some (.dK kvs)∧y=kV k∧kvs.length<sizeLine∧H'=upd H a (.dK (putK kvs k v))) ∨
 ∃ kvs k b,H a=some (.dT kvs)∧y=.ref b∧H b=some (.tup (k.map kV))∧kvs.length<sizeLine∧H'=upd H a (.dT (putK kvs k v))
theorem fk.k {H:Hp} {a:Addr} {kvs:List (Key×V)} {k:Key} (e:H a=some (.dK kvs)):fk H a (kV k) (gT kvs k):=.inl ⟨kvs,k,.inl e,rfl,rfl⟩
theorem zv.k {H:Hp} {a:Addr} {kvs:List (Key×V)} {k:Key} {v:V} (e:H a=some (.dK kvs)) (hl:kvs.length<sizeLine):zv H a (kV k) v (upd H a (.dK (putK kvs k v))):=.inl ⟨kvs,k,e,rfl,hl,rfl⟩
section
variable {X:Cx} {pins:List (Addr×Obj)} {σ:St} {H:Hp} {s:Shared} {a:Addr} {y v:V} {u r:Value} {o:Option V} {A:Around} {E:Value→Shared→Prop}
theorem Inv.big (I:Inv X pins σ H s):sysModules<s.heap.objs.size:=by
 have h:mainGlobals<s.heap.objs.size:=(I.mod.glob.keeps I.bk).lt
 exact Nat.lt_trans (by decide) h
theorem xA {Q:Value→Shared→Prop} (hu:A.units+1<cLine) (I:Inv X pins σ H s) (g:fk H a y (some v)) (ry:RelV y u) (h:∀ w' s',Inv X pins σ H s'→RelV v w'→Q w' s') :
  wpAny (model X.prog X.w) A (getItem (.ref a) u) Q E s:=by
 rcases g with ⟨kvs,k,e,ey,l⟩ | ⟨kvs,k,b,e,ey,eb,l⟩
 ·subst ey
  obtain ⟨z,hd,vs,rel,dd⟩:=jX I.hok e
  obtain ⟨w',hw,rw'⟩:=iK.some_of (v:=v) (o:=valueAt vs k) (by rw [l];exact rel.val k)
  exact wpAny_getItem_of (jW ry) dd.mapOf hw (h w' _ (I.tok _) rw')
 ·subst ey
  cases (show u=Value.ref b from ry)
  obtain ⟨z,hd,xs,rel,dd⟩:=k7 I.hok e
  obtain ⟨w',hw,rw'⟩:=iK.some_of (v:=v) (o:=(atKey xs k).map (·.2)) (by rw [l];exact rel.val k)
  obtain ⟨p,hp,hp2⟩:=Option.map_eq_some_iff.mp hw
  refine wpAny_getItem_heap (tupleKind_room_in1 hu) (jA I.hok eb) dd hp ?_
  rw [hp2]
  exact h w' _ (I.tok _) rw'
theorem zw {Q:Value→Shared→Prop} (hu:A.units+1<cLine) (I:Inv X pins σ H s) (g:fk H a y o) (ry:RelV y u) (h:∀ s',Inv X pins σ H s'→Q (.bool o.isSome) s') :
  wpAny (model X.prog X.w) A (compareOp .In u (.ref a)) Q E s:=by
 rcases g with ⟨kvs,k,e,ey,l⟩ | ⟨kvs,k,b,e,ey,eb,l⟩
 ·subst ey
  obtain ⟨z,hd,vs,rel,dd⟩:=jX I.hok e
  refine wpAny_in_of (jW ry) hd dd.mapOf ?_
  rw [← (rel.val k).dR,← l]
  exact h _ (I.tok _)
 ·subst ey
  cases (show u=Value.ref b from ry)
  obtain ⟨z,hd,xs,rel,dd⟩:=k7 I.hok e
  refine wpAny_in_heap (tupleKind_room_in1 hu) (jA I.hok eb) hd dd ?_
  have q:=(rel.val k).dR
  rw [Option.isSome_map] at q
  rw [← q,← l]
  exact h _ (I.tok _)
theorem CG {Q:Value→Shared→Prop} (hu:A.units+1<cLine) (I:Inv X pins σ H s) (g:fk H a y o) (ry:RelV y u) (h:∀ s',Inv X pins σ H s'→Q (.bool (!o.isSome)) s') :
  wpAny (model X.prog X.w) A (compareOp .NotIn u (.ref a)) Q E s:=by
 rcases g with ⟨kvs,k,e,ey,l⟩ | ⟨kvs,k,b,e,ey,eb,l⟩
 ·subst ey
  obtain ⟨z,hd,vs,rel,dd⟩:=jX I.hok e
  refine wpAny_notIn_of (jW ry) hd dd.mapOf ?_
  rw [← (rel.val k).dR,← l]
  exact h _ (I.tok _)
 ·subst ey
  cases (show u=Value.ref b from ry)
  obtain ⟨z,hd,xs,rel,dd⟩:=k7 I.hok e
  refine wpAny_notIn_heap (tupleKind_room_in1 hu) (jA I.hok eb) hd dd ?_
  have q:=(rel.val k).dR
  rw [Option.isSome_map] at q
  rw [← q,← l]
  exact h _ (I.tok _)
theorem kJ {h':Heap} {t':Nat} {ob:HO} (I:Inv X pins σ H s) (mu:Mut (H a)) (hs:Heap.SameBut a s.heap h') (he:∃ q,h'.get? a=some q) (new:aX X.prog X.w (upd H a ob) h' a ob) :
  Inv X pins σ (upd H a ob) { s with heap:=h',toks:=t' }:=
 I.write (x:=a) (e:=a) mu (.inl rfl) (fun b q hb z=>(hs.2 b hb).trans z) he new
theorem o_ {P:Program} {w:World} {H':Hp} {h':Heap} {kvs:List (Key×V)} {vs:List (Key×Value)} (z:kvs.length≤sizeLine) (hd:(a == sysModules)=false) (rel:KV kvs vs) (dd:h'.DictOf (aS P w) a vs) :
  aX P w H' h' a (.dK kvs):=⟨z,hd,vs,rel,dd⟩
theorem xB {H':Hp} {Q:Unit→Shared→Prop} (hu:A.units+1<cLine) (I:Inv X pins σ H s) (g:zv H a y v H') (ry:RelV y u) (rv:RelV v r) (h:∀ s',Inv X pins σ H' s'→Q () s') :
  wpAny (model X.prog X.w) A (setItem (.ref a) u r) Q E s:=by
 rcases g with ⟨kvs,k,e,ey,l,eH⟩ | ⟨kvs,k,b,e,ey,eb,l,eH⟩
 ·subst ey eH
  obtain ⟨z,hd,vs,rel,dd⟩:=vm I.hok e
  have hz:vs.length≤sizeLine:=by rw [← rel.length];exact z
  have hl:(putK kvs k v).length≤sizeLine:=by have:=fE kvs k v;omega
  refine wpAny_setItem_pairs (hsz:=hz) (jW ry) dd fun h' dd' hs=>h _ ?_
  have he:∃ q,h'.get? a=some q:=let ⟨q,_,_,hq,_⟩:=dd';⟨q,hq⟩
  exact kJ I (by rw [e];exact True.intro) hs he (o_ hl hd (rel.put k rv) dd')
 ·subst ey eH
  cases (show u=Value.ref b from ry)
  obtain ⟨z,hd,xs,rel,dd⟩:=Jo I.hok e
  have hz:xs.length≤sizeLine:=by rw [← Paired.length rel];exact z
  have hl:(putK kvs k v).length≤sizeLine:=by have:=fE kvs k v;omega
  refine wpAny_setItem_heap (hsz:=hz) (tupleKind_room_in1 hu) (jA I.hok eb) dd fun h' dd' hs=>h _ ?_
  obtain ⟨q,es,ep,hq,h2,h3,h4,_,h5⟩:=dd'
  refine kJ I (by rw [e];exact True.intro) hs ⟨q,hq⟩ ⟨hl,hd,_,(rel.put k eb rv).keeps fun c ys ec=>?_,q,es,ep,hq,h2,h3,h4,h5⟩
  rw [aq (I0 ec e (fun z=>nomatch z))]
  exact ec
end
section
variable {X:Cx} {pins:List (Addr×Obj)} {σ:St} {H:Hp} {s:Shared} {a:Addr} {kvs:List (Key×V)} {k:Key} {u:Value} {A:Around} {E:Value→Shared→Prop}
theorem Jp {v:V} {more:List Value} {Q:Value→Shared→Prop} (I:Inv X pins σ H s) (e:H a=some (.dK kvs)) (ry:RelV (kV k) u) (l:gT kvs k=some v) (hm:more=[]∨∃ x,more=[x])
  (h:∀ w' s',Inv X pins σ (upd H a (.dK (jV kvs k))) s'→RelV v w'→Q w' s'):wpAny (model X.prog X.w) A (call (.builtin "dict.pop") (.ref a::u::more)) Q E s:=by
 obtain ⟨z,hd,vs,rel,dd⟩:=vm I.hok e
 obtain ⟨w',hw,rw'⟩:=iK.some_of (v:=v) (o:=valueAt vs k) (by rw [← l];exact rel.val k)
 have hp:(keyPart u).isSome=true:=by
  cases k with
  | inl i=>obtain ⟨t,q⟩:=(show ∃ t,u=Value.int i t from ry);subst q;rfl
  | inr x=>obtain ⟨t,q⟩:=(show ∃ t,u=Value.str x t from ry);subst q;rfl
 have ha:argsOk "dict.pop" ⟨.ref a::u::more,[]⟩:=by
  rcases hm with q | ⟨x,q⟩
  ·subst q;exact PySem.F.args_dict_pop_2 _ _
  ·subst q;exact PySem.F.args_dict_pop_3 _ _ _
 refine call_meetsIn PySem.F.slot_dict_pop dd.typeIs PySem.F.entry_dict_pop ha (meets_dict_pop_there (aS X.prog X.w) a (jW ry) more hm hp)
  ⟨vs,w',dd,by rw [← rel.length];exact z,hw,fun h' dd' hs=>h w' _ ?_ rw'⟩
 have he:∃ q,h'.get? a=some q:=let ⟨q,_,_,hq,_⟩:=dd';⟨q,hq⟩
 exact kJ I (by rw [e];exact True.intro) hs he (o_ (Nat.le_trans (zu kvs k) z) hd (rel.drop k) dd')
end
noncomputable def GD (i:Expr):Prop:=∀ ov iv,subscripted i false ov iv=operate [ov,iv] (getItem ov iv)
theorem CH {prog:Program} {w:World} {A:Around} {E:Value→Shared→Prop} {s:Shared} {env:Env} {value slice:Expr} {pos:Pos} {T id:String} {Q:Value→Shared→Prop}
  (hl:typeLookup (.type T) "__getitem__" = pure (some (.builtin id))) (hs:GD slice)
  (h:wpAny (model prog w) A (eval value env) (fun o s₁=>wpAny (model prog w) A (eval slice env) (fun i s₂=>s₂.TypeIs o T∧wpAny (model prog w) A (getItem o i) Q E s₂) E s₁) E s) :
  wpAny (model prog w) A (eval (.Subscript value slice pos) env) Q E s:=by
 refine Subscript_ (wpAny_mono h (fun o s₁ h₁=>wpAny_mono h₁ (fun i s₂ h₂=>?_) fun _ _ x=>x) fun _ _ x=>x)
 obtain ⟨hT,h₂⟩:=h₂
 unfold subscriptTail
 refine wpAny_bind ?_
 rw [getitemInPython_of_ne hT.not_modules]
 refine wpAny_bind (wpAny_specialOf hT hl ?_)
 have fin:wpAny (model prog w) A (subscripted slice false o i) (fun r s₃=>wpAny (model prog w) A (letTemporaryGo value o r >>= fun _=>pure r) Q E s₃) E s₂:=by
  rw [hs o i]
  exact wpAny_operating (wpAny_mono h₂ (fun r s₃ h₃=>wpAny_bind (wpAny_letTemporaryGo (wpAny_pure h₃))) fun _ _ x=>x)
 first
  | exact wpAny_pure (wpAny_bind fin)
  | exact wpAny_bind (wpAny_pure (wpAny_bind fin))
  | exact wpAny_bind fin
theorem qJ {X:Cx} {pins:List (Addr×Obj)} {σ:St} {H:Hp} {s:Shared} {a:Addr} {y:V} {o:Option V} (I:Inv X pins σ H s) (g:fk H a y o):s.TypeIs (.ref a) "dict" := by
 rcases g with ⟨kvs,k,e,_,_⟩ | ⟨kvs,k,b,e,_,_,_⟩
 ·obtain ⟨_,_,vs,_,dd⟩:=jX I.hok e
  exact dd.typeIs
 ·obtain ⟨_,_,xs,_,dd⟩:=k7 I.hok e
  exact dd.typeIs
noncomputable def Jq (td ty:TE):TE:=fun σ H Q=>td σ H fun x H1=>ty σ H1 fun y H2=>∃ a v,x=.ref a∧fk H2 a y (some v)∧Q v H2
noncomputable def Ls (ty td:TE):TE:=fun σ H Q=>ty σ H fun y H1=>td σ H1 fun x H2=>∃ a o,x=.ref a∧fk H2 a y o∧Q (.bl o.isSome) H2
noncomputable def CI (ty td:TE):TE:=fun σ H Q=>ty σ H fun y H1=>td σ H1 fun x H2=>∃ a o,x=.ref a∧fk H2 a y o∧Q (.bl (!o.isSome)) H2
noncomputable def EN (td ty tv:TE):TS:=fun D σ H=>tv σ H fun v H1=>td σ H1 fun x H2=>ty σ H2 fun y H3=>∃ a H4,x=.ref a∧zv H3 a y v H4∧D.nx σ H4
section
variable {X:Cx} {o i e value:Expr} {pos pos' tpos:Pos} {td ty tv:TE}
theorem CJ (hu:X.A.units+1<cLine) (ho:PE X o td) (hi:PE X i ty) (hs:GD i):PE X (.Subscript o i pos) (Jq td ty):=by
 intro pins s σ H Q I h
 refine CH PySem.F.slot_dict_getitem.lookup hs (thn (ho pins s σ H _ I h) fun u s1 ⟨x,H1,I1,rx,q1⟩=>thn (hi pins s1 σ H1 _ I1 q1) fun iv s2 ⟨y,H2,I2,ry,a,v,ex,g,q2⟩=>?_)
 subst ex
 obtain rfl:u=Value.ref a:=rx
 exact ⟨qJ I2 g,xA hu I2 g ry fun w' s3 I3 rw'=>⟨v,H2,I3,rw',q2⟩⟩
theorem GF (hu:X.A.units+1<cLine) (hi:PE X i ty) (ho:PE X o td):PC X .In i o (Ls ty td):=by
 intro pins s σ H Q I h
 refine thn (hi pins s σ H _ I h) fun iv s1 ⟨y,H1,I1,ry,q1⟩=>thn (ho pins s1 σ H1 _ I1 q1) fun u s2 ⟨x,H2,I2,rx,a,ov,ex,g,q2⟩=>?_
 subst ex
 obtain rfl:u=Value.ref a:=rx
 exact zw hu I2 g ry fun s3 I3=>⟨.bl ov.isSome,H2,I3,rfl,q2⟩
theorem xC (hu:X.A.units+1<cLine) (hi:PE X i ty) (ho:PE X o td):PC X .NotIn i o (CI ty td):=by
 intro pins s σ H Q I h
 refine thn (hi pins s σ H _ I h) fun iv s1 ⟨y,H1,I1,ry,q1⟩=>thn (ho pins s1 σ H1 _ I1 q1) fun u s2 ⟨x,H2,I2,rx,a,ov,ex,g,q2⟩=>?_
 subst ex
 obtain rfl:u=Value.ref a:=rx
 exact CG hu I2 g ry fun s3 I3=>⟨.bl (!ov.isSome),H2,I3,rfl,q2⟩
theorem CK (hu:X.A.units+1<cLine) (ho:PE X o td) (hi:PE X i ty) (hv:PE X value tv) (hs:swapsWith value (some (.Subscript o i pos')) pos.line X.env=pure false) :
  PS X (.Assign [.Subscript o i pos'] value pos) (EN td ty tv):=by
 intro pins s σ H D I h
 refine wpAny_Assign_Subscript (thn (hv pins s σ H _ I h) fun r s1 ⟨v,H1,I1,rv,q1⟩=>thn (ho pins s1 σ H1 _ I1 q1) fun u s2 ⟨x,H2,I2,rx,q2⟩=>thn (hi pins s2 σ H2 _ I2 q2) fun iv s3 ⟨y,H3,I3,ry,a,H4,ex,g,q3⟩=>?_) hs
 subst ex
 obtain rfl:u=Value.ref a:=rx
 exact xB hu I3 g ry rv fun s4 I4=>⟨σ,H4,I4,q3⟩
end
theorem qK {P:Program} {w:World} {H:Hp} (h:Heap) (hb:sysModules<h.objs.size):aX P w H (h.push { cls:=.type "dict",data:=.dict #[] }) h.objs.size (.dK []):=
 ⟨Nat.zero_le _,beq_eq_false_iff_ne.mpr (Ne.symm (Nat.ne_of_lt hb)),[],.nil,Heap.DictOf.new h⟩
noncomputable def zx:TE:=fun _ H Q=>∀ p,H p=none→Q (.ref p) (upd H p (.dK []))
section
variable {X:Cx} {pos:Pos}
theorem zy:PE X (.Dict [] [] pos) zx:=fun pins s σ H Q I h=>
 wpAny_Dict_empty ⟨.ref s.heap.objs.size,_,I.laid (a:=s.heap.objs.size) (o:=.dK []) (t':=s.toks) (fun _ _ q=>Heap.get?_push_of_some _ q) (Nat.le_refl _) (qK s.heap I.big),rfl,h _ (I.hok.fresh (Nat.le_refl _))⟩
end
noncomputable def tH:List (TE×TE)→St→Hp→(List (V×V)→Hp→Prop)→Prop
 | [],_,H,Q=>Q [] H
 | (tk,tv)::r,σ,H,Q=>tk σ H fun x H1=>tv σ H1 fun y H2=>tH r σ H2 fun ps H3=>Q ((x,y)::ps) H3
noncomputable abbrev VV:List (V×V)→List (Value×Value)→Prop:=Paired fun p q=>RelV p.1 q.1∧RelV p.2 q.2
noncomputable def PPs (X:Cx) (pos:Pos) (keys:List (Option Expr)) (values:List Expr) (trs:List (TE×TE)):Prop:=
 ∀ (pins:List (Addr×Obj)) (s:Shared) (σ:St) (H:Hp) (Q:List (V×V)→Hp→Prop),Inv X pins σ H s→tH trs σ H Q →
  wpAny (model X.prog X.w) X.A (evalPairs (pairTrees keys values X.env pos)) (fun vs s'=>∃ ps H',Inv X pins σ H' s'∧VV ps vs∧Q ps H') X.xe s
theorem CL {X:Cx} {pos:Pos}:PPs X pos [] [] []:=fun pins s σ H Q I h=>pairTrees_nil_walk ⟨[],H,I,.nil,h⟩
theorem zz {X:Cx} {pos:Pos} {k v:Expr} {ks:List (Option Expr)} {vs:List Expr} {tk tv:TE} {trs:List (TE×TE)} (hk:PE X k tk) (hv:PE X v tv) (hr:PPs X pos ks vs trs) :
  PPs X pos (some k::ks) (v::vs) ((tk,tv)::trs):=fun pins s σ H Q I h=>
 pairTrees_cons_walk (thn (hk pins s σ H _ I h) fun u s1 ⟨x,H1,I1,rx,q1⟩=>thn (hv pins s1 σ H1 _ I1 q1) fun w2 s2 ⟨y,H2,I2,ry,q2⟩=>
  thn (hr pins s2 σ H2 _ I2 q2) fun ws s3 ⟨ps,H3,I3,rel,q3⟩=>⟨(x,y)::ps,H3,I3,.cons ⟨rx,ry⟩ rel,q3⟩)
noncomputable def jB (kvs more:List (Key×V)):List (Key×V):=more.foldl (fun acc kv=>putK acc kv.1 kv.2) kvs
theorem KV.merge:∀ {more:List (Key×V)} {rs:List (Key×Value)} {kvs:List (Key×V)} {vs:List (Key×Value)},KV more rs→KV kvs vs→KV (jB kvs more) (merged vs rs):=by
 intro more rs kvs vs r
 unfold KV at r
 induction r generalizing kvs vs with
 | nil=>intro q;exact q
 | @cons p q ps qs h t ih=>
  intro r0
  have e:KV (putK kvs p.1 p.2) (stored vs q.1 q.2):=by
   have:=r0.put p.1 h.2
   rw [← h.1];exact this
  exact ih e
theorem gI:∀ (more kvs:List (Key×V)),(jB kvs more).length≤kvs.length+more.length
 | [],kvs=>by show kvs.length≤kvs.length+0;omega
 | p::r,kvs=>by
  have h1:=gI r (putK kvs p.1 p.2)
  have h2:=fE kvs p.1 p.2
  show (jB (putK kvs p.1 p.2) r).length≤_
  rw [List.length_cons];omega
theorem k8 {P:Program} {w:World}:∀ {kvs:List (Key×V)} {ws:List (Value×Value)},VV (kvs.map fun kv=>(kV kv.1,kv.2)) ws→∃ rs,Carries (aS P w) ws rs∧KV kvs rs
 | [],_,r=>by rw [List.map_nil] at r;cases r;exact ⟨[],True.intro,.nil⟩
 | p::kvs,_,r=>by
  rw [List.map_cons] at r
  cases r with
  | @cons a b as bs h t=>
   obtain ⟨rs,c,q⟩:=k8 (P:=P) (w:=w) t
   obtain ⟨b1,b2⟩:=b
   exact ⟨(p.1,b2)::rs,⟨jW h.1,rfl,c⟩,.cons ⟨rfl,h.2⟩ q⟩
noncomputable def EO (trs:List (TE×TE)):TE:=fun σ H Q=>∀ p,H p=none→tH trs σ (upd H p (.dK [])) fun ps H2=>H2 p=some (.dK [])∧∃ kvs:List (Key×V),ps=kvs.map (fun kv=>(kV kv.1,kv.2))∧kvs.length≤15∧Q (.ref p) (upd H2 p (.dK (jB [] kvs)))
theorem CM {X:Cx} {pos:Pos} {keys:List (Option Expr)} {values:List Expr} {trs:List (TE×TE)} (h:PPs X pos keys values trs) (hall:keys.all (·.isSome)=true) (hl:keys.length=values.length) (h0:keys≠[])
  (h15:keys.length≤15):PE X (.Dict keys values pos) (EO trs):=by
 intro pins s σ H Q I q
 have hn:=I.hok.fresh (Nat.le_refl s.heap.objs.size)
 have I1:=I.laid (a:=s.heap.objs.size) (o:=.dK []) (h':=s.heap.push { cls:=.type "dict",data:=.dict #[] }) (t':=s.toks) (fun _ _ q=>Heap.get?_push_of_some _ q) (Nat.le_refl _) (qK s.heap I.big)
 refine wpAny_Dict_walk (knd:=aS X.prog X.w) hall hl h0 h15 (thn (h pins _ σ _ _ I1 (q _ hn)) fun ws s2 ⟨ps,H2,I2,rel,e,kvs,ep,lk,q2⟩=>?_)
 subst ep
 obtain ⟨rs,c,rk⟩:=k8 (P:=X.prog) (w:=X.w) rel
 obtain ⟨z,hd,vs0,r0,dd⟩:=vm I2.hok e
 cases r0
 refine ⟨rs,c,dd,fun h' dd' hs=>⟨.ref s.heap.objs.size,_,?_,rfl,q2⟩⟩
 have hz:(jB [] kvs).length≤sizeLine:=by
  have h1:=gI kvs []
  rw [List.length_nil] at h1
  rw [sizeLine_eq];omega
 have he:∃ q,h'.get? s.heap.objs.size=some q:=let ⟨q,_,_,hq,_⟩:=dd';⟨q,hq⟩
 exact kJ I2 (by rw [e];exact True.intro) hs he (o_ hz hd (rk.merge .nil) dd')
structure M1 (X:Cx) (o:Expr) (m:Str) (apos:Pos) (e:Expr) (cpos:Pos):Prop where
 base:attributeBase o m X.env (eval o X.env)=eval o X.env
 few:((backTo cpos (starEach [e] X.env)).all (fun x=>!x.1)&&(backToKw cpos (keywordEach [] X.env)).all (fun x=>x.1.isSome)
  && decide (([e]:List Expr).length+([]:List Keyword).length+(if ([]:List Keyword).isEmpty then 0 else 1)<30))=true
 line:(apos.endLine == cpos.line)=true
 trees:backTo cpos (starEach [e] X.env)=[(false,eval e X.env)]
noncomputable def IsD (H:Hp) (a:Addr):Prop:=(∃ kvs,Rd H a (.dK kvs))∨∃ kvs,Rd H a (.dT kvs)
theorem zA {X:Cx} {pins:List (Addr×Obj)} {σ:St} {H:Hp} {s:Shared} {a:Addr} (I:Inv X pins σ H s) (d:IsD H a) :
  s.TypeIs (.ref a) "dict" ∧ (∀ b,Value.ref a=.ref b→∃ ob,s.heap.get? b=some ob∧ob.dict=none)∧(a == sysModules)=false:=by
 rcases d with ⟨kvs,e⟩ | ⟨kvs,e⟩
 ·obtain ⟨_,hd,vs,_,dd⟩:=jX I.hok e
  refine ⟨dd.typeIs,fun b q=>?_,hd⟩
  cases q
  obtain ⟨ob,_,_,h1,h2,_⟩:=dd
  exact ⟨ob,h1,h2.2.1⟩
 ·obtain ⟨_,hd,xs,_,dd⟩:=k7 I.hok e
  refine ⟨dd.typeIs,fun b q=>?_,hd⟩
  cases q
  obtain ⟨ob,_,_,h1,h2,_⟩:=dd
  exact ⟨ob,h1,h2.2.1⟩
section
variable {X:Cx} {pins:List (Addr×Obj)} {σ:St} {H:Hp} {s:Shared} {a:Addr} {y d:V} {u r:Value} {o:Option V} {A:Around} {E:Value→Shared→Prop}
theorem GG {Q:Value→Shared→Prop} (hu:A.units+1<cLine) (I:Inv X pins σ H s) (g:fk H a y o) (ry:RelV y u) (h:∀ w' s',Inv X pins σ H s'→RelV (o.getD .non) w'→Q w' s') :
  wpAny (model X.prog X.w) A (call (.builtin "dict.get") [.ref a,u]) Q E s:=by
 rcases g with ⟨kvs,k,e,ey,l⟩ | ⟨kvs,k,b,e,ey,eb,l⟩
 ·subst ey
  obtain ⟨z,hd,vs,rel,dd⟩:=jX I.hok e
  refine call_meetsIn PySem.F.slot_dict_get dd.typeIs PySem.F.entry_dict_get (PySem.F.args_dict_get_2 _ _) (meets_dict_get (aS X.prog X.w) a (jW ry) hd) ⟨_,dd.mapOf,h _ _ (I.tok _) ?_⟩
  rw [l]
  exact (rel.val k).getD rfl
 ·subst ey
  cases (show u=Value.ref b from ry)
  obtain ⟨z,hd,xs,rel,dd⟩:=k7 I.hok e
  refine call_meetsIn PySem.F.slot_dict_get dd.typeIs PySem.F.entry_dict_get (PySem.F.args_dict_get_2 _ _) (meetsH_dict_get (tupleKind (aS X.prog X.w)) a b hd) ⟨tupleKind_room_in1 hu,k,xs,jA I.hok eb,dd,h _ _ (I.tok _) ?_⟩
  rw [l]
  exact (rel.val k).getD rfl
end
noncomputable def zB (td ty:TE):TE:=fun σ H Q=>td σ H fun x H1=>∃ a,x=.ref a∧IsD H1 a∧ty σ H1 fun y H2=>∃ o,fk H2 a y o∧Q (o.getD .non) H2
noncomputable def zC (td ty:TE):TE:=fun σ H Q=>td σ H fun x H1=>∃ a,x=.ref a∧IsD H1 a∧ty σ H1 fun y H2=>∃ kvs k v,H2 a=some (.dK kvs)∧y=kV k∧gT kvs k=some v∧Q v (upd H2 a (.dK (jV kvs k)))
section
variable {X:Cx} {o e f:Expr} {apos cpos:Pos} {td ty tx:TE}
theorem zD (hu:X.A.units+1<cLine) (ho:PE X o td) (he:PE X e ty) (m:M1 X o "get" apos e cpos):PE X (.Call (.Attribute o "get" apos) [e] [] cpos) (zB td ty):=by
 intro pins s σ H Q I h
 refine wpAny_Call_method m.base m.few m.line PySem.F.plainAttrs_dict PySem.F.slot_dict_get PySem.F.type_dict_get (thn (ho pins s σ H _ I h) fun u s1 ⟨x,H1,I1,rx,a,ex,d,q1⟩=>?_)
 subst ex
 obtain rfl:u=Value.ref a:=rx
 obtain ⟨t1,t2,_⟩:=zA I1 d
 refine ⟨t1,t2,?_⟩
 rw [m.trees]
 refine Calls.callWith_builtin rfl (Calls.evalArgs_plain (Calls.spliced_cons (thn (he pins s1 σ H1 _ I1 q1) fun iv s2 ⟨y,H2,I2,ry,ov,g,q2⟩=>Calls.spliced_nil ?_)))
 exact GG hu I2 g ry fun w' s3 I3 rw'=>⟨_,H2,I3,rw',q2⟩
theorem zE (ho:PE X o td) (he:PE X e ty) (m:M1 X o "pop" apos e cpos):PE X (.Call (.Attribute o "pop" apos) [e] [] cpos) (zC td ty):=by
 intro pins s σ H Q I h
 refine wpAny_Call_method m.base m.few m.line PySem.F.plainAttrs_dict PySem.F.slot_dict_pop PySem.F.type_dict_pop (thn (ho pins s σ H _ I h) fun u s1 ⟨x,H1,I1,rx,a,ex,d,q1⟩=>?_)
 subst ex
 obtain rfl:u=Value.ref a:=rx
 obtain ⟨t1,t2,_⟩:=zA I1 d
 refine ⟨t1,t2,?_⟩
 rw [m.trees]
 refine Calls.callWith_builtin rfl (Calls.evalArgs_plain (Calls.spliced_cons (thn (he pins s1 σ H1 _ I1 q1) fun iv s2 ⟨y,H2,I2,ry,kvs,k,v,ea,ey,l,q2⟩=>Calls.spliced_nil ?_)))
 subst ey
 exact Jp I2 ea ry l (.inl rfl) fun w' s3 I3 rw'=>⟨v,_,I3,rw',q2⟩
end
section
variable {X:Cx} {pins:List (Addr×Obj)} {σ:St} {H:Hp} {s:Shared} {a:Addr} {kvs:List (Key×V)} {A:Around} {E:Value→Shared→Prop}
theorem zF {Q:Value→Shared→Prop} (I:Inv X pins σ H s) (e:Rd H a (.dK kvs)) (h:∀ p s',H p=none→Inv X pins σ (upd H p (.dK kvs)) s'→Q (.ref p) s'):wpAny (model X.prog X.w) A (call (.type "dict") [.ref a]) Q E s:=by
 obtain ⟨z,hd,vs,rel,dd⟩:=jX I.hok e
 refine kt_call_dict hd dd (by rw [← rel.length];exact z) fun h' dd' hs=>?_
 refine h _ _ (I.hok.fresh (Nat.le_refl _)) (I.laid (a:=s.heap.objs.size) (o:=.dK kvs) (t':=s.toks) (fun b q hq=>?_) (Nat.le_refl _) (o_ z (beq_eq_false_iff_ne.mpr (Ne.symm (Nat.ne_of_lt I.big))) rel dd'))
 exact (hs.2 b (Nat.ne_of_lt (Heap.lt_size hq))).trans (Heap.get?_push_of_some _ hq)
end
section
variable {X:Cx} {pins:List (Addr×Obj)} {σ:St} {H:Hp} {s:Shared} {a:Addr} {y:V} {u:Value} {A:Around} {E:Value→Shared→Prop}
end
end L2
namespace Dm
inductive Dat where
 | non
 | bl (b:Bool)
 | int (i:Int)
 | str (s:List Nat)
 | tup (xs:List Dat)
 | lst (xs:List Dat)
 | dct (ks:List Int) (vs:List Dat)
 | exc (C:Nat)
 | fn (a:Nat)
deriving Inhabited
inductive Cell where
 | un
 | sh (d:Dat)
 | ow (d:Dat)
deriving Inhabited
noncomputable abbrev Env:=List Cell
inductive Val where
 | val (d:Dat)
 | slot (i:Nat)
 | new (d:Dat)
inductive RV where
 | val (d:Dat)
 | new (d:Dat)
noncomputable def RV.dat:RV→Dat
 | .val d=>d
 | .new d=>d
noncomputable def RV.bq:RV→Val
 | .val d=>.val d
 | .new d=>.new d
noncomputable def SZ:Nat:=100000
noncomputable def dJ:Dat→Bool
 | .tup _=>true
 | .lst _=>true
 | .dct _ _=>true
 | .exc _=>true
 | _=>false
noncomputable def pk (ρ:Env):Val→Option Dat
 | .val d=>some d
 | .new d=>some d
 | .slot i=>match ρ[i]? with
  | some (.ow d)=>some d
  | some (.sh d)=>some d
  | _=>none
noncomputable def tk (ρ:Env):Val→Option (Dat×Env)
 | .val d=>some (d,ρ)
 | .new d=>some (d,ρ)
 | .slot i=>match ρ[i]? with
  | some (.ow d)=>some (d,ρ.set i (.sh d))
  | some (.sh d)=>some (d,ρ)
  | _=>none
noncomputable def pks (ρ:Env):List Val→Option (List Dat)
 | []=>some []
 | x::r=>match pk ρ x with
  | none=>none
  | some d=>match pks ρ r with
   | none=>none
   | some ds=>some (d::ds)
noncomputable def tks (ρ:Env):List Val→Option (List Dat×Env)
 | []=>some ([],ρ)
 | x::r=>match tk ρ x with
  | none=>none
  | some (d,ρ1)=>match tks ρ1 r with
   | none=>none
   | some (ds,ρ2)=>some (d::ds,ρ2)
noncomputable abbrev FE:=Env→Option (Val×Env)
noncomputable abbrev FT:=Env→Option (Bool×Env)
noncomputable def eC (d:Dat):FE:=fun ρ=>some (.val d,ρ)
noncomputable def eV (i:Nat):FE:=fun ρ=>match ρ[i]? with
 | some (.sh d)=>some (.val d,ρ)
 | some (.ow _)=>some (.slot i,ρ)
 | _=>none
noncomputable def e1 (g:Dat→Option RV) (a:FE):FE:=fun ρ=>match a ρ with
 | none=>none
 | some (x,ρ1)=>match pk ρ1 x with
  | none=>none
  | some d=>match g d with
   | none=>none
   | some v=>some (v.bq,ρ1)
noncomputable def e2 (g:Dat→Dat→Option RV) (a b:FE):FE:=fun ρ=>match a ρ with
 | none=>none
 | some (x,ρ1)=>match b ρ1 with
  | none=>none
  | some (y,ρ2)=>match pk ρ2 x with
   | none=>none
   | some d=>match pk ρ2 y with
    | none=>none
    | some e=>match g d e with
     | none=>none
     | some v=>some (v.bq,ρ2)
noncomputable def eAs:List FE→Env→Option (List Val×Env)
 | [],ρ=>some ([],ρ)
 | a::r,ρ=>match a ρ with
  | none=>none
  | some (x,ρ1)=>match eAs r ρ1 with
   | none=>none
   | some (xs,ρ2)=>some (x::xs,ρ2)
noncomputable def eB (g:List Dat→Option RV) (as:List FE):FE:=fun ρ=>match eAs as ρ with
 | none=>none
 | some (xs,ρ1)=>match pks ρ1 xs with
  | none=>none
  | some ds=>match g ds with
   | none=>none
   | some v=>some (v.bq,ρ1)
noncomputable def kD (as:List FE):FE:=fun ρ=>match eAs as ρ with
 | none=>none
 | some (xs,ρ1)=>match tks ρ1 xs with
  | none=>none
  | some (ds,ρ2)=>if ds.length≤SZ then some (.val (.tup ds),ρ2) else none
noncomputable def cF (as:List FE):FE:=fun ρ=>match eAs as ρ with
 | none=>none
 | some (xs,ρ1)=>match tks ρ1 xs with
  | none=>none
  | some (ds,ρ2)=>if ds.length≤SZ then some (.new (.lst ds),ρ2) else none
noncomputable def eF (f:List Dat→Option RV) (as:List FE):FE:=fun ρ=>match eAs as ρ with
 | none=>none
 | some (xs,ρ1)=>match pks ρ1 xs with
  | none=>none
  | some ds=>match f ds with
   | none=>none
   | some v=>if dJ v.dat then (match tks ρ1 xs with
     | none=>none
     | some (_,ρ2)=>some (v.bq,ρ2)) else some (v.bq,ρ1)
noncomputable def eIf (t:FT) (a b:FE):FE:=fun ρ=>match t ρ with
 | none=>none
 | some (true,ρ1)=>a ρ1
 | some (false,ρ1)=>b ρ1
noncomputable def gE (a b:FE):FE:=fun ρ=>match a ρ with
 | some (.val (.bl true),ρ1)=>b ρ1
 | some (.val (.bl false),ρ1)=>some (.val (.bl false),ρ1)
 | _=>none
noncomputable def tK (a:FE):FE:=fun ρ=>match a ρ with
 | some (.val (.bl c),ρ1)=>some (.val (.bl (!c)),ρ1)
 | _=>none
noncomputable def tV (a:FE):FT:=fun ρ=>match a ρ with
 | some (.val (.bl c),ρ1)=>some (c,ρ1)
 | _=>none
noncomputable def b9 (t:FT):FT:=fun ρ=>match t ρ with
 | some (c,ρ1)=>some (!c,ρ1)
 | none=>none
noncomputable def ku (t u:FT):FT:=fun ρ=>match t ρ with
 | some (true,ρ1)=>u ρ1
 | some (false,ρ1)=>some (false,ρ1)
 | none=>none
noncomputable def tOr (t u:FT):FT:=fun ρ=>match t ρ with
 | some (true,ρ1)=>some (true,ρ1)
 | some (false,ρ1)=>u ρ1
 | none=>none
noncomputable def truth:Dat→Option Bool
 | .non=>some false
 | .bl b=>some b
 | .int i=>some (i != 0)
 | .tup xs=>some (!xs.isEmpty)
 | .lst xs=>some (!xs.isEmpty)
 | _=>none
noncomputable def tTr (a:FE):FT:=fun ρ=>match a ρ with
 | none=>none
 | some (x,ρ1)=>match pk ρ1 x with
  | none=>none
  | some d=>match truth d with
   | none=>none
   | some c=>some (c,ρ1)
noncomputable def gJ:FT:=fun ρ=>some (true,ρ)
noncomputable abbrev FI:=Env→Option (List Dat×Env)
noncomputable def iL (a:FE):FI:=fun ρ=>match a ρ with
 | none=>none
 | some (x,ρ1)=>match tk ρ1 x with
  | some (.lst ds,ρ2)=>some (ds,ρ2)
  | _=>none
noncomputable def iT (a:FE):FI:=fun ρ=>match a ρ with
 | none=>none
 | some (x,ρ1)=>match tk ρ1 x with
  | some (.tup ds,ρ2)=>some (ds,ρ2)
  | _=>none
noncomputable def iS (a:FE):FI:=fun ρ=>match a ρ with
 | none=>none
 | some (x,ρ1)=>match tk ρ1 x with
  | some (.lst ds,ρ2)=>some (ds,ρ2)
  | some (.tup ds,ρ2)=>some (ds,ρ2)
  | _=>none
noncomputable def ups (lo:Int) (n:Nat):List Dat:=(List.range n).map fun i=>Dat.int (lo+(i:Nat))
noncomputable def BIG:Int:=1000000000
noncomputable def iR1 (a:FE):FI:=fun ρ=>match a ρ with
 | some (.val (.int j),ρ1)=>if j≤BIG∧-BIG≤j then some (ups 0 j.toNat,ρ1) else none
 | _=>none
noncomputable abbrev FB:=Dat→Env→Option Env
noncomputable def bN (i:Nat):FB:=fun d ρ=>if i=0 then none else some (ρ.set i (.sh d))
noncomputable def sets:List Nat→List Dat→Env→Option Env
 | [],[],ρ=>some ρ
 | i::is,d::ds,ρ=>if i=0 then none else sets is ds (ρ.set i (.sh d))
 | _,_,_=>none
noncomputable def bT (is:List Nat):FB:=fun d ρ=>match d with
 | .tup ds=>sets is ds ρ
 | _=>none
noncomputable def eY (bd:FB) (t:FT) (el:FE):List Dat→Env→List Dat→Option (List Dat×Env)
 | [],ρ,acc=>some (acc,ρ)
 | d::r,ρ,acc=>match bd d ρ with
  | none=>none
  | some ρ1=>match t ρ1 with
   | none=>none
   | some (false,ρ2)=>eY bd t el r ρ2 acc
   | some (true,ρ2)=>match el ρ2 with
    | none=>none
    | some (x,ρ3)=>match tk ρ3 x with
     | none=>none
     | some (y,ρ4)=>eY bd t el r ρ4 (acc++[y])
noncomputable def fF (it:FI) (own:Nat) (bd:FB) (t:FT) (el:FE):FE:=fun ρ=>match it ρ with
 | none=>none
 | some (ds,ρ1)=>if ds.length≤SZ then (match eY bd t el ds (ρ1++List.replicate own .un) [] with
  | none=>none
  | some (ys,ρ2)=>some (.new (.lst ys),ρ2.take ρ1.length)) else none
inductive Out where
 | nx (ρ:Env)
 | ret (r:RV) (ρ:Env)
 | bk (ρ:Env)
 | ct (ρ:Env)
noncomputable abbrev FS:=Env→Option Out
noncomputable def sNx:FS:=fun ρ=>some (.nx ρ)
noncomputable def av (s u:FS):FS:=fun ρ=>match s ρ with
 | some (.nx ρ1)=>u ρ1
 | o=>o
noncomputable def sA (i:Nat) (e:FE):FS:=fun ρ=>if i=0 then none else match e ρ with
 | none=>none
 | some (.new d,ρ1)=>some (.nx (ρ1.set i (.ow d)))
 | some (x,ρ1)=>match tk ρ1 x with
  | none=>none
  | some (d,ρ2)=>some (.nx (ρ2.set i (.sh d)))
noncomputable def sU (is:List Nat) (e:FE):FS:=fun ρ=>match e ρ with
 | none=>none
 | some (x,ρ1)=>match tk ρ1 x with
  | some (.tup ds,ρ2)=>(match sets is ds ρ2 with
   | none=>none
   | some ρ3=>some (.nx ρ3))
  | _=>none
noncomputable def sE (e:FE):FS:=fun ρ=>match e ρ with
 | none=>none
 | some (_,ρ1)=>some (.nx ρ1)
noncomputable def sR (e:FE):FS:=fun ρ=>match e ρ with
 | none=>none
 | some (.new d,ρ1)=>some (.ret (.new d) ρ1)
 | some (.val d,ρ1)=>some (.ret (.val d) ρ1)
 | some (.slot i,ρ1)=>match ρ1[i]? with
  | some (.ow d)=>some (.ret (.new d) (ρ1.set i .un))
  | some (.sh d)=>some (.ret (.val d) ρ1)
  | _=>none
noncomputable def sIf (t:FT) (a b:FS):FS:=fun ρ=>match t ρ with
 | none=>none
 | some (true,ρ1)=>a ρ1
 | some (false,ρ1)=>b ρ1
noncomputable def qL (i:Nat) (e:FE):FS:=fun ρ=>match ρ[i]? with
 | some (.ow (.lst _))=>(match e ρ with
  | none=>none
  | some (x,ρ1)=>match tk ρ1 x with
   | none=>none
   | some (d,ρ2)=>match ρ2[i]? with
    | some (.ow (.lst ds))=>if ds.length<SZ then some (.nx (ρ2.set i (.ow (.lst (ds++[d]))))) else none
    | _=>none)
 | _=>none
noncomputable def ixN (n:Nat) (i:Int):Option Nat:=
 if 0≤i then (if i<n then some i.toNat else none) else if -(n:Int)≤i then some (i+n).toNat else none
noncomputable def xD (i:Nat) (j e:FE):FS:=fun ρ=>match e ρ with
 | none=>none
 | some (x,ρ1)=>match tk ρ1 x with
  | none=>none
  | some (d,ρ2)=>match ρ2[i]? with
   | some (.ow _)=>(match j ρ2 with
    | some (.val (.int k),ρ3)=>(match ρ3[i]? with
     | some (.ow (.lst ds))=>(match ixN ds.length k with
      | none=>none
      | some m=>some (.nx (ρ3.set i (.ow (.lst (ds.set m d))))))
     | _=>none)
    | _=>none)
   | _=>none
noncomputable def jC (bd:FB) (body:FS):List Dat→FS
 | [],ρ=>some (.nx ρ)
 | d::r,ρ=>match bd d ρ with
  | none=>none
  | some ρ1=>match body ρ1 with
   | some (.nx ρ2)=>jC bd body r ρ2
   | some (.ct ρ2)=>jC bd body r ρ2
   | some (.bk ρ2)=>some (.nx ρ2)
   | some (.ret v ρ2)=>some (.ret v ρ2)
   | none=>none
noncomputable def gU (it:FI) (bd:FB) (body:FS):FS:=fun ρ=>match it ρ with
 | none=>none
 | some (ds,ρ1)=>jC bd body ds ρ1
noncomputable def whD (t:FT) (body:FS):Nat→FS
 | 0,_=>none
 | n+1,ρ=>match t ρ with
  | none=>none
  | some (false,ρ1)=>some (.nx ρ1)
  | some (true,ρ1)=>match body ρ1 with
   | some (.nx ρ2)=>whD t body n ρ2
   | some (.ct ρ2)=>whD t body n ρ2
   | some (.bk ρ2)=>some (.nx ρ2)
   | some (.ret v ρ2)=>some (.ret v ρ2)
   | none=>none
noncomputable def fn (n m:Nat) (body:FS) (ds:List Dat):Option RV:=if ds.length=n then (match body (ds.map Cell.sh++List.replicate m .un) with
 | some (.ret r _)=>some r
 | some (.nx _)=>some (.val .non)
 | _=>none) else none
noncomputable def b2i (b:Bool):Int:=if b then 1 else 0
mutual
noncomputable def eqD:Dat→Dat→Bool
 | .non,.non=>true
 | .bl a,.bl b=>a == b
 | .bl a,.int j=>b2i a == j
 | .int i,.bl b=>i == b2i b
 | .int i,.int j=>i == j
 | .str a,.str b=>a == b
 | .tup xs,.tup ys=>cK xs ys
 | .lst xs,.lst ys=>cK xs ys
 | _,_=>false
noncomputable def cK:List Dat→List Dat→Bool
 | [],[]=>true
 | x::xs,y::ys=>eqD x y&&cK xs ys
 | _,_=>false
end
noncomputable def okD:Nat→Dat→Bool
 | _,.dct _ _=>false
 | _,.exc _=>false
 | _,.fn _=>false
 | _,.str s=>s.all fun c=>decide (c<128)
 | 0,.tup _=>false
 | 0,.lst _=>false
 | n+1,.tup xs=>xs.all (okD n)
 | n+1,.lst xs=>xs.all (okD n)
 | _,_=>true
noncomputable abbrev vB (b:Bool):Option RV:=some (.val (.bl b))
noncomputable def k9 (p:Dat→Bool):Dat→Option RV
 | .exc _=>none
 | .fn _=>none
 | d=>vB (p d)
noncomputable abbrev vI (i:Int):Option RV:=some (.val (.int i))
noncomputable def gEq (x y:Dat):Option RV:=if okD 8 x&&okD 8 y then vB (eqD x y) else none
noncomputable def gNe (x y:Dat):Option RV:=if okD 8 x&&okD 8 y then vB (!eqD x y) else none
noncomputable def gLt:Dat→Dat→Option RV
 | .int i,.int j=>vB (decide (i<j))
 | _,_=>none
noncomputable def gLe:Dat→Dat→Option RV
 | .int i,.int j=>vB (decide (i≤j))
 | _,_=>none
noncomputable def gGt:Dat→Dat→Option RV
 | .int i,.int j=>vB (decide (j<i))
 | _,_=>none
noncomputable def gGe:Dat→Dat→Option RV
 | .int i,.int j=>vB (decide (j≤i))
 | _,_=>none
noncomputable def B64:Int:=18446744073709551616
noncomputable def bL:Dat→Dat→Option RV
 | .int i,.int j=>vI (i+j)
 | .lst xs,.lst ys=>if xs.length+ys.length≤SZ then some (.new (.lst (xs++ys))) else none
 | _,_=>none
noncomputable def kB:Dat→Dat→Option RV
 | .int i,.int j=>vI (i-j)
 | _,_=>none
noncomputable def gW:Dat→Dat→Option RV
 | .int i,.int j=>if (-B64<i∧i<B64)∨(-B64<j∧j<B64) then vI (i*j) else none
 | .lst xs,.int k=>if k≤BIG∧-BIG≤k∧xs.length*k.toNat≤SZ then some (.new (.lst (List.replicate k.toNat xs).flatten)) else none
 | _,_=>none
noncomputable def fG:Int:=1606938044258990275541962092341162602522202993782792835301376
noncomputable def xE:Dat→Dat→Option RV
 | .int i,.int j=>if 0<j∧j<fG then vI (i / j) else none
 | _,_=>none
noncomputable def fH:Dat→Dat→Option RV
 | .int i,.int j=>if 0<j then vI (i % j) else none
 | _,_=>none
noncomputable def gF:Dat→Dat→Option RV
 | .int i,.int j=>if 0≤j∧j≤1000000∧i.natAbs<1000000 then vI (i ^ j.toNat) else none
 | _,_=>none
noncomputable def CN:Dat→Option RV
 | .int i=>vI (-i)
 | _=>none
noncomputable def atI (xs:List Dat) (i:Int):Option Dat:=(ixN xs.length i).bind fun j=>xs[j]?
noncomputable def gIx:Dat→Dat→Option RV
 | .lst xs,.int i=>(atI xs i).map .val
 | .tup xs,.int i=>(atI xs i).map .val
 | _,_=>none
noncomputable def inD (x:Dat) (xs:List Dat):Bool:=xs.any fun y=>eqD y x
noncomputable def gIn:Dat→Dat→Option RV
 | x,.lst xs=>if okD 8 x&&xs.all (okD 7) then vB (inD x xs) else none
 | x,.tup xs=>if okD 8 x&&xs.all (okD 7) then vB (inD x xs) else none
 | _,_=>none
noncomputable def eG:Dat→Dat→Option RV
 | x,.lst xs=>if okD 8 x&&xs.all (okD 7) then vB (!inD x xs) else none
 | x,.tup xs=>if okD 8 x&&xs.all (okD 7) then vB (!inD x xs) else none
 | _,_=>none
noncomputable def sIx (n d:Nat):Option Int→Nat
 | none=>d
 | some v=>(if v<0 then max (v+n) 0 else min v n).toNat
noncomputable def cut (xs:List Dat) (lo hi:Option Int):List Dat:=(xs.drop (sIx xs.length 0 lo)).take (sIx xs.length xs.length hi-sIx xs.length 0 lo)
noncomputable def dS:List Dat→Option RV
 | [.lst xs]=>vI xs.length
 | [.tup xs]=>vI xs.length
 | _=>none
noncomputable def k_:List Dat→Option RV
 | [.int i,.int j]=>vI (if j<i then j else i)
 | _=>none
noncomputable def jY:List Dat→Option RV
 | [.int i,.int j]=>vI (if j>i then j else i)
 | _=>none
noncomputable def fJ:List Dat→Option RV
 | [.lst xs]=>some (.new (.lst xs))
 | [.tup xs]=>some (.new (.lst xs))
 | _=>none
noncomputable def lg:List Dat→Option RV
 | [.lst xs]=>some (.val (.tup xs))
 | [.tup xs]=>some (.val (.tup xs))
 | _=>none
noncomputable def isI:Dat→Bool
 | .int _=>true
 | .bl _=>true
 | _=>false
noncomputable def isB:Dat→Bool
 | .bl _=>true
 | _=>false
noncomputable def isL:Dat→Bool
 | .lst _=>true
 | _=>false
noncomputable def isT:Dat→Bool
 | .tup _=>true
 | _=>false
noncomputable def bools:List Dat→Option (List Bool)
 | []=>some []
 | .bl b::r=>(bools r).map fun bs=>b::bs
 | _=>none
noncomputable def tL:List Dat→Option RV
 | [.lst xs]=>(match bools xs with
  | some bs=>vB (bs.all id)
  | none=>none)
 | _=>none
noncomputable def fK (g h:Dat→Dat→Option RV) (a b c:FE):FE:=fun ρ=>match a ρ with
 | none=>none
 | some (x,ρ1)=>match b ρ1 with
  | none=>none
  | some (y,ρ2)=>match pk ρ2 x with
   | none=>none
   | some d=>match pk ρ2 y with
    | none=>none
    | some e=>match g d e with
     | some (.val (.bl true))=>(match c ρ2 with
      | none=>none
      | some (z,ρ3)=>match pk ρ3 y with
       | none=>none
       | some e'=>match pk ρ3 z with
        | none=>none
        | some f=>match h e' f with
         | none=>none
         | some v=>some (v.bq,ρ3))
     | some (.val (.bl false))=>some (.val (.bl false),ρ2)
     | _=>none
noncomputable def part:Option FE→Env→Option (Option Int×Env)
 | none,ρ=>some (none,ρ)
 | some f,ρ=>match f ρ with
  | some (.val (.int i),ρ1)=>some (some i,ρ1)
  | _=>none
noncomputable def tM:List Dat→Option RV
 | [.int i]=>vI i
 | [.bl b]=>vI (b2i b)
 | _=>none
end Dm
namespace Br
open PySem L2
mutual
inductive Rep (H:Hp):V→Dm.Dat→Prop
 | non:Rep H V.non Dm.Dat.non
 | bl (b:Bool):Rep H (V.bl b) (Dm.Dat.bl b)
 | int (i:Int):Rep H (V.int i) (Dm.Dat.int i)
 | str (s:List Nat):Rep H (V.str ⟨s.toArray⟩) (Dm.Dat.str s)
 | tup {a:Addr} {xs:List V} {ds:List Dm.Dat}:H a=some (.tup xs)→ay H xs ds→Rep H (V.ref a) (Dm.Dat.tup ds)
 | lst {a:Addr} {xs:List V} {ds:List Dm.Dat}:Rd H a (.lst xs)→ay H xs ds→Rep H (V.ref a) (Dm.Dat.lst ds)
 | dct {a:Addr} {kvs:List (Key×V)} {ks:List Int} {ds:List Dm.Dat}:H a=some (.dK kvs)→kvs.map (·.1)=ks.map Sum.inl→ay H (kvs.map (·.2)) ds→Rep H (V.ref a) (Dm.Dat.dct ks ds)
 | exc {a:Addr} {C:Nat}:H a=some (.ext fun h=>∃ o,h.get? a=some o∧o.cls=.ref C)→Rep H (V.ref a) (Dm.Dat.exc C)
 | fn (a:Addr):Rep H (V.ref a) (Dm.Dat.fn a)
inductive ay (H:Hp):List V→List Dm.Dat→Prop
 | nil:ay H [] []
 | cons {v:V} {d:Dm.Dat} {vs:List V} {ds:List Dm.Dat}:Rep H v d→ay H vs ds→ay H (v::vs) (d::ds)
end
theorem aj.rd {H H':Hp} (s:aj H H') {a:Addr} {u:HO} (h:Rd H a u):Rd H' a u:=by
 rcases h with h | ⟨o,h⟩
 ·exact .inl (s _ _ h)
 ·exact .inr ⟨o,s _ _ h⟩
mutual
theorem Rep.mono {H H':Hp} (s:aj H H'):∀ {v:V} {d:Dm.Dat},Rep H v d→Rep H' v d
 | _,_,.non=>.non
 | _,_,.bl b=>.bl b
 | _,_,.int i=>.int i
 | _,_,.str x=>.str x
 | _,_,.tup h r=>.tup (s _ _ h) (ay.mono s r)
 | _,_,.lst h r=>.lst (aj.rd s h) (ay.mono s r)
 | _,_,.dct h e r=>.dct (s _ _ h) e (ay.mono s r)
 | _,_,.exc h=>.exc (s _ _ h)
 | _,_,.fn a=>.fn a
theorem ay.mono {H H':Hp} (s:aj H H'):∀ {vs:List V} {ds:List Dm.Dat},ay H vs ds→ay H' vs ds
 | _,_,.nil=>.nil
 | _,_,.cons h r=>.cons (Rep.mono s h) (ay.mono s r)
end
theorem ay.length {H:Hp}:∀ {vs:List V} {ds:List Dm.Dat},ay H vs ds→vs.length=ds.length
 | _,_,.nil=>rfl
 | _,_,.cons _ r=>by simp [ay.length r]
theorem ay.get {H:Hp}:∀ {vs:List V} {ds:List Dm.Dat} {i:Nat} {d:Dm.Dat},ay H vs ds→ds[i]?=some d→∃ v,vs[i]?=some v∧Rep H v d
 | _,_,_,_,.nil,e=>by simp at e
 | _,_,0,_,.cons h _,e=>by simp at e;subst e;exact ⟨_,rfl,h⟩
 | _,_,i+1,_,.cons _ r,e=>by
  obtain ⟨v,h1,h2⟩:=ay.get (i:=i) r (by simpa using e)
  exact ⟨v,by simpa using h1,h2⟩
theorem ay.append {H:Hp}:∀ {vs ws:List V} {ds es:List Dm.Dat},ay H vs ds→ay H ws es→ay H (vs++ws) (ds++es)
 | _,_,_,_,.nil,s=>s
 | _,_,_,_,.cons h r,s=>.cons h (ay.append r s)
theorem ay.take {H:Hp}:∀ {vs:List V} {ds:List Dm.Dat} (n:Nat),ay H vs ds→ay H (vs.take n) (ds.take n)
 | _,_,0,_=>by simpa using ay.nil
 | _,_,_+1,.nil=>by simpa using ay.nil
 | _,_,n+1,.cons h r=>by simpa using ay.cons h (ay.take n r)
theorem ay.drop {H:Hp}:∀ {vs:List V} {ds:List Dm.Dat} (n:Nat),ay H vs ds→ay H (vs.drop n) (ds.drop n)
 | _,_,0,r=>by simpa using r
 | _,_,_+1,.nil=>by simpa using ay.nil
 | _,_,n+1,.cons _ r=>by simpa using ay.drop n r
theorem ay.set {H:Hp} {v:V} {d:Dm.Dat} (h:Rep H v d):∀ {vs:List V} {ds:List Dm.Dat} (i:Nat),ay H vs ds→ay H (vs.set i v) (ds.set i d)
 | _,_,_,.nil=>.nil
 | _,_,0,.cons _ r=>.cons h r
 | _,_,i+1,.cons q r=>.cons q (ay.set h i r)
theorem ay.rep {H:Hp} {vs:List V} {ds:List Dm.Dat} (r:ay H vs ds):∀ k:Nat,ay H (List.replicate k vs).flatten (List.replicate k ds).flatten
 | 0=>by simpa using ay.nil
 | k+1=>by
  rw [List.replicate_succ,List.replicate_succ,List.flatten_cons,List.flatten_cons]
  exact ay.append r (ay.rep r k)
noncomputable def Own (H0 H:Hp) (a:Addr):Dm.Dat→Prop
 | .lst ds=>∃ xs,H a=some (.lst xs)∧ay H0 xs ds
 | .dct ks ds=>∃ kvs:List (Key×V),H a=some (.dK kvs)∧kvs.map (·.1)=ks.map Sum.inl∧ay H0 (kvs.map (·.2)) ds
 | _=>False
theorem Own.some {H0 H:Hp} {a:Addr} {d:Dm.Dat} (h:Own H0 H a d):∃ o,H a=some o:=by
 cases d with
 | lst ds=>obtain ⟨xs,e,_⟩:=h;exact ⟨_,e⟩
 | dct ks ds=>obtain ⟨xs,e,_⟩:=h;exact ⟨_,e⟩
 | _=>exact False.elim h
theorem Own.mono {H0 H H0' H':Hp} {a:Addr} {d:Dm.Dat} (h:Own H0 H a d) (s:aj H0 H0') (e:H' a=H a):Own H0' H' a d:=by
 cases d with
 | lst ds=>obtain ⟨xs,q,r⟩:=h;exact ⟨xs,by rw [e];exact q,r.mono s⟩
 | dct ks ds=>obtain ⟨xs,q,k,r⟩:=h;exact ⟨xs,by rw [e];exact q,k,r.mono s⟩
 | _=>exact False.elim h
noncomputable def jD (H0 H:Hp) (v:V) (d:Dm.Dat):Prop:=Rep H0 v d∨∃ a,v=V.ref a∧Own H0 H a d
inductive qM (H0 H:Hp):List V→List Dm.Dat→Prop
 | nil:qM H0 H [] []
 | cons {v:V} {d:Dm.Dat} {vs:List V} {ds:List Dm.Dat}:jD H0 H v d→qM H0 H vs ds→qM H0 H (v::vs) (d::ds)
noncomputable def shr (H0 H:Hp) (a:Addr):Hp:=fun b=>if b=a then H a else H0 b
theorem dU {H0 H:Hp} {a:Addr}:shr H0 H a a=H a:=by unfold shr;rw [if_pos rfl]
theorem gX {H0 H:Hp} {a b:Addr} (h:b≠a):shr H0 H a b=H0 b:=by unfold shr;rw [if_neg h]
theorem iW {H0 H:Hp} {a:Addr} (h:H0 a=none):aj H0 (shr H0 H a):=fun b o e=>by
 by_cases q:b=a
 ·subst q;rw [h] at e;cases e
 ·rw [gX q];exact e
theorem vn {H0 H:Hp} {a:Addr} (s:aj H0 H):aj (shr H0 H a) H:=fun b o e=>by
 by_cases q:b=a
 ·subst q;rw [dU] at e;exact e
 ·rw [gX q] at e;exact s _ _ e
theorem Own.rep {H0 H:Hp} {a:Addr} {d:Dm.Dat} (h:Own H0 H a d) (n:H0 a=none):Rep (shr H0 H a) (V.ref a) d:=by
 cases d with
 | lst ds=>obtain ⟨xs,q,r⟩:=h;exact .lst (.inl (by rw [dU];exact q)) (r.mono (iW n))
 | dct ks ds=>obtain ⟨xs,q,k,r⟩:=h;exact .dct (by rw [dU];exact q) k (r.mono (iW n))
 | _=>exact False.elim h
noncomputable def af (σ:St) (ρ:Dm.Env) (a:Addr):Prop:=∃ (i:Nat) (d:Dm.Dat),ρ[i]?=some (Dm.Cell.ow d)∧σ[i]?=some (some (V.ref a))
noncomputable abbrev Def (_:Dm.Env) (_:Nat):Prop:=True
structure ao (H0 H:Hp) (σ:St) (ρ:Dm.Env):Prop where
 same:aj H0 H
 len:σ.length=ρ.length
 sh:∀ (i:Nat) (d:Dm.Dat),ρ[i]?=some (Dm.Cell.sh d)→∃ v,σ[i]?=some (some v)∧Rep H0 v d
 ow:∀ (i:Nat) (d:Dm.Dat),ρ[i]?=some (Dm.Cell.ow d)→∃ a,σ[i]?=some (some (V.ref a))∧H0 a=none∧Own H0 H a d
 dis:∀ (i j:Nat) (d e:Dm.Dat) (a:Addr),ρ[i]?=some (Dm.Cell.ow d)→ρ[j]?=some (Dm.Cell.ow e)→σ[i]?=some (some (V.ref a))→σ[j]?=some (some (V.ref a))→i=j
structure Stp (O:Addr→Prop) (H0 H H0' H':Hp):Prop where
 s0:aj H0 H0'
 s1:∀ a o,H a=some o→¬ O a→H' a=some o
 s2:∀ a o,H0' a=some o→H a=none∨H0 a=some o∨O a
 s3:∀ a o,H a=some o→∃ o',H' a=some o'
theorem Stp.refl (O:Addr→Prop) (H0 H:Hp):Stp O H0 H H0 H:=⟨aj.refl _,fun _ _ e _=>e,fun _ _ e=>.inr (.inl e),fun _ o e=>⟨o,e⟩⟩
theorem Stp.gone {O:Addr→Prop} {H0 H H0' H':Hp} (t:Stp O H0 H H0' H') {a:Addr} (h:H' a=none):H a=none:=by
 cases q:H a with
 | none=>rfl
 | some o=>obtain ⟨o',e⟩:=t.s3 a o q;rw [h] at e;cases e
theorem Stp.trans {O1 O2:Addr→Prop} {H0 H H1 H' H2 H'':Hp} (t:Stp O1 H0 H H1 H') (u:Stp O2 H1 H' H2 H'') (k:∀ a,O2 a→O1 a∨H a=none):Stp O1 H0 H H2 H'' where
 s0:=t.s0.trans u.s0
 s1:=fun a o e n=>u.s1 a o (t.s1 a o e n) fun z=>(k a z).elim n fun q=>by rw [q] at e;cases e
 s2:=fun a o e=>by
  rcases u.s2 a o e with q | q | q
  ·exact .inl (t.gone q)
  ·exact t.s2 a o q
  ·rcases k a q with z | z
   ·exact .inr (.inr z)
   ·exact .inl z
 s3:=fun a o e=>by
  obtain ⟨o',e'⟩:=t.s3 a o e
  exact u.s3 a o' e'
theorem Stp.wide {O O':Addr→Prop} {H0 H H0' H':Hp} (t:Stp O H0 H H0' H') (k:∀ a,O a→O' a):Stp O' H0 H H0' H':=
 ⟨t.s0,fun a o e n=>t.s1 a o e fun z=>n (k a z),fun a o e=>(t.s2 a o e).imp id (Or.imp id (k a)),t.s3⟩
structure aD (H0 H H0' H':Hp):Prop where
 s0:aj H0 H0'
 s1:aj H H'
 s2:∀ a o,H0' a=some o→H a=none∨H0 a=some o
 s3:aj H0' H'
theorem aD.refl {H0 H:Hp} (s:aj H0 H):aD H0 H H0 H:=⟨aj.refl _,aj.refl _,fun _ _ e=>.inr e,s⟩
theorem aD.stp {H0 H H0' H':Hp} (g:aD H0 H H0' H') (O:Addr→Prop):Stp O H0 H H0' H':=
 ⟨g.s0,fun a o e _=>g.s1 a o e,fun a o e=>(g.s2 a o e).imp id .inl,fun a o e=>⟨o,g.s1 a o e⟩⟩
theorem aD.trans {H0 H H1 H' H2 H'':Hp} (t:aD H0 H H1 H') (u:aD H1 H' H2 H''):aD H0 H H2 H'' where
 s0:=t.s0.trans u.s0
 s1:=t.s1.trans u.s1
 s2:=fun a o e=>by
  rcases u.s2 a o e with q | q
  ·exact .inl (t.s1.free q)
  ·exact t.s2 a o q
 s3:=u.s3
theorem aD.Jr {H0 H:Hp} (s:aj H0 H) {p:Addr} {o:HO} (n:H p=none):aD H0 H (upd H0 p o) (upd H p o) where
 s0:=fun b u e=>by rw [aq (aM e (s.free n))];exact e
 s1:=fun b u e=>by rw [aq (aM e n)];exact e
 s2:=fun b u e=>by
  by_cases q:b=p
  ·subst q;exact .inl n
  ·rw [aq q] at e;exact .inr e
 s3:=fun b u e=>by
  by_cases q:b=p
  ·subst q;rw [au] at e ⊢;exact e
  ·rw [aq q] at e ⊢;exact s _ _ e
theorem aD.iX {H0 H:Hp} (s:aj H0 H) {p:Addr} {o:HO} (n:H p=none):aD H0 H H0 (upd H p o) where
 s0:=aj.refl _
 s1:=fun b u e=>by rw [aq (aM e n)];exact e
 s2:=fun b u e=>.inr e
 s3:=fun b u e=>by rw [aq (aM (s _ _ e) n)];exact s _ _ e
noncomputable def fm (Hs H0 H:Hp) (σ:St) (ρ:Dm.Env) (v:V):Dm.Val→Prop
 | .val d=>Rep H0 v d
 | .slot i=>σ[i]?=some (some v)∧Def ρ i
 | .new d=>∃ a,v=V.ref a∧Hs a=none∧¬ af σ ρ a∧H0 a=none∧Own H0 H a d
structure ESt (σ:St) (ρ:Dm.Env) (H0 H:Hp) (ρ':Dm.Env) (H0' H':Hp):Prop where
 st:ao H0' H' σ ρ'
 stp:Stp (af σ ρ) H0 H H0' H'
 own:∀ a,af σ ρ' a→af σ ρ a
 dfn:∀ i,Def ρ i→Def ρ' i
theorem ESt.refl {σ:St} {ρ:Dm.Env} {H0 H:Hp} (st:ao H0 H σ ρ):ESt σ ρ H0 H ρ H0 H:=⟨st,Stp.refl _ _ _,fun _ z=>z,fun _ z=>z⟩
theorem ESt.trans {σ:St} {ρ ρ1 ρ2:Dm.Env} {H0 H H1 H' H2 H'':Hp} (t:ESt σ ρ H0 H ρ1 H1 H') (u:ESt σ ρ1 H1 H' ρ2 H2 H''):ESt σ ρ H0 H ρ2 H2 H'':=
 ⟨u.st,t.stp.trans u.stp fun a z=>.inl (t.own a z),fun a z=>t.own a (u.own a z),fun i z=>u.dfn i (t.dfn i z)⟩
theorem ao.grow {σ:St} {ρ:Dm.Env} {H0 H H0' H':Hp} (st:ao H0 H σ ρ) (g:aD H0 H H0' H'):ao H0' H' σ ρ where
 same:=g.s3
 len:=st.len
 sh:=fun i d e=>by
  obtain ⟨v,q,r⟩:=st.sh i d e
  exact ⟨v,q,r.mono g.s0⟩
 ow:=fun i d e=>by
  obtain ⟨a,q,n,w⟩:=st.ow i d e
  obtain ⟨o,z⟩:=w.some
  refine ⟨a,q,?_,w.mono g.s0 ((g.s1 a o z).trans z.symm)⟩
  cases y:H0' a with
  | none=>rfl
  | some u=>
   rcases g.s2 a u y with k | k
   ·rw [z] at k;cases k
   ·rw [n] at k;cases k
 dis:=st.dis
theorem ESt.grow {σ:St} {ρ:Dm.Env} {H0 H H0' H':Hp} (st:ao H0 H σ ρ) (g:aD H0 H H0' H'):ESt σ ρ H0 H ρ H0' H':=
 ⟨st.grow g,g.stp _,fun _ z=>z,fun _ z=>z⟩
theorem fm.mono {Hs H0 H H0' H':Hp} {σ:St} {ρ ρ':Dm.Env} {v:V} {x:Dm.Val} (r:fm Hs H0 H σ ρ v x) (t:ESt σ ρ H0 H ρ' H0' H'):fm Hs H0' H' σ ρ' v x:=by
 cases x with
 | val d=>exact Rep.mono t.stp.s0 r
 | slot i=>exact ⟨r.1,t.dfn i r.2⟩
 | new d=>
  obtain ⟨a,e,n,no,n0,w⟩:=r
  obtain ⟨o,z⟩:=w.some
  refine ⟨a,e,n,fun y=>no (t.own a y),?_,w.mono t.stp.s0 ((t.stp.s1 a o z no).trans z.symm)⟩
  cases y:H0' a with
  | none=>rfl
  | some u=>
   rcases t.stp.s2 a u y with k | k | k
   ·rw [z] at k;cases k
   ·rw [n0] at k;cases k
   ·exact absurd k no
theorem fm.early {Hs Hs' H0 H:Hp} {σ:St} {ρ:Dm.Env} {v:V} {x:Dm.Val} (r:fm Hs H0 H σ ρ v x) (k:∀ a,Hs a=none→Hs' a=none):fm Hs' H0 H σ ρ v x:=by
 cases x with
 | val d=>exact r
 | slot i=>exact r
 | new d=>obtain ⟨a,e,n,z⟩:=r;exact ⟨a,e,k a n,z⟩
theorem fm.look {Hs H0 H:Hp} {σ:St} {ρ:Dm.Env} {v:V} {x:Dm.Val} {d:Dm.Dat} (r:fm Hs H0 H σ ρ v x) (st:ao H0 H σ ρ) (e:Dm.pk ρ x=some d):jD H0 H v d:=by
 cases x with
 | val d'=>cases e;exact .inl r
 | new d'=>
  cases e
  obtain ⟨a,e,_,_,_,w⟩:=r
  exact .inr ⟨a,e,w⟩
 | slot i=>
  obtain ⟨q,_⟩:=r
  unfold Dm.pk at e
  dsimp only at e
  split at e
  ·rename_i d' h
   cases e
   obtain ⟨a,z,_,w⟩:=st.ow i d h
   rw [q] at z
   cases z
   exact .inr ⟨a,rfl,w⟩
  ·rename_i d' h
   cases e
   obtain ⟨u,z,w⟩:=st.sh i d h
   rw [q] at z
   cases z
   exact .inl w
  ·cases e
noncomputable def pq (Hs H0 H:Hp) (v:V):Dm.RV→Prop
 | .val d=>Rep H0 v d
 | .new d=>∃ a,v=V.ref a∧Hs a=none∧H0 a=none∧Own H0 H a d
theorem pq.toV {H H0' H' H0:Hp} {σ:St} {ρ:Dm.Env} {v:V} {z:Dm.RV} (r:pq H H0' H' v z) (st:ao H0 H σ ρ):fm H H0' H' σ ρ v z.bq:=by
 cases z with
 | val d=>exact r
 | new d=>
  obtain ⟨a,e,n,n0,w⟩:=r
  refine ⟨a,e,n,fun ⟨i,d',h1,h2⟩=>?_,n0,w⟩
  obtain ⟨a',q,_,w'⟩:=st.ow i d' h1
  rw [h2] at q
  cases q
  obtain ⟨o,z⟩:=w'.some
  rw [n] at z;cases z
noncomputable def tD (f:Dm.FE):TE:=fun σ H Q=>∃ H0 ρ x ρ',ao H0 H σ ρ∧f ρ=some (x,ρ')∧∀ v H0' H',ESt σ ρ H0 H ρ' H0' H'→fm H H0' H' σ ρ' v x→Q v H'
noncomputable def tDT (f:Dm.FT):TT:=fun σ H Q=>∃ H0 ρ b ρ',ao H0 H σ ρ∧f ρ=some (b,ρ')∧∀ H0' H',ESt σ ρ H0 H ρ' H0' H'→Q b H'
inductive aY (Hs H0 H:Hp) (σ:St) (ρ:Dm.Env):List V→List Dm.Val→Prop
 | nil:aY Hs H0 H σ ρ [] []
 | cons {v:V} {x:Dm.Val} {vs:List V} {xs:List Dm.Val}:fm Hs H0 H σ ρ v x→aY Hs H0 H σ ρ vs xs→aY Hs H0 H σ ρ (v::vs) (x::xs)
noncomputable def tDA (fs:List Dm.FE):TA:=fun σ H Q=>∃ H0 ρ xs ρ',ao H0 H σ ρ∧Dm.eAs fs ρ=some (xs,ρ')∧∀ vs H0' H',ESt σ ρ H0 H ρ' H0' H'→aY H H0' H' σ ρ' vs xs→Q vs H'
noncomputable abbrev DE (X:Cx) (e:Expr) (f:Dm.FE):Prop:=PE X e (tD f)
noncomputable abbrev DT (X:Cx) (e:Expr) (f:Dm.FT):Prop:=PT X e (tDT f)
noncomputable abbrev DA (X:Cx) (es:List Expr) (fs:List Dm.FE):Prop:=PA X es (tDA fs)
theorem PE.weak {X:Cx} {e:Expr} {t t':TE} (h:PE X e t) (k:∀ σ H Q,t' σ H Q→t σ H Q):PE X e t':=fun pins s σ H Q I q=>h pins s σ H Q I (k σ H Q q)
theorem PT.weak {X:Cx} {e:Expr} {t t':TT} (h:PT X e t) (k:∀ σ H Q,t' σ H Q→t σ H Q):PT X e t':=fun pins s σ H Q I q=>h pins s σ H Q I (k σ H Q q)
theorem PA.weak {X:Cx} {es:List Expr} {t t':TA} (h:PA X es t) (k:∀ σ H Q,t' σ H Q→t σ H Q):PA X es t':=fun pos pins s σ H Q I q=>h pos pins s σ H Q I (k σ H Q q)
theorem PS.weak {X:Cx} {st:Stmt} {t t':TS} (h:PS X st t) (k:∀ D σ H,t' D σ H→t D σ H):PS X st t':=fun pins s σ H D I q=>h pins s σ H D I (k D σ H q)
theorem PSs.weak {X:Cx} {st:List Stmt} {t t':TS} (h:PSs X st t) (k:∀ D σ H,t' D σ H→t D σ H):PSs X st t':=fun pins s σ H D I q=>h pins s σ H D I (k D σ H q)
theorem c_ {H0 H:Hp} {a:Addr} (s:aj H0 H):aj H0 (shr H0 H a):=fun b o e=>by
 by_cases q:b=a
 ·subst q;rw [dU];exact s _ _ e
 ·rw [gX q];exact e
theorem Own.Js {H0 H0c H:Hp} {a:Addr} {d:Dm.Dat} (h:Own H0 H a d) (b:aj H0 H0c) (s:aj H0c H):Rep (shr H0c H a) (V.ref a) d:=by
 cases d with
 | lst ds=>obtain ⟨xs,q,r⟩:=h;exact .lst (.inl (by rw [dU];exact q)) (r.mono (b.trans (c_ s)))
 | dct ks ds=>obtain ⟨xs,q,k,r⟩:=h;exact .dct (by rw [dU];exact q) k (r.mono (b.trans (c_ s)))
 | _=>exact False.elim h
theorem fm.rho {Hs H0 H:Hp} {σ:St} {ρ ρ':Dm.Env} {v:V} {x:Dm.Val} (r:fm Hs H0 H σ ρ v x) (o:∀ a,af σ ρ' a→af σ ρ a) (d:∀ i,Def ρ i→Def ρ' i):fm Hs H0 H σ ρ' v x:=by
 cases x with
 | val d=>exact r
 | slot i=>exact ⟨r.1,d i r.2⟩
 | new d=>obtain ⟨a,e,n,no,z⟩:=r;exact ⟨a,e,n,fun y=>no (o a y),z⟩
theorem aY.rho {Hs H0 H:Hp} {σ:St} {ρ ρ':Dm.Env} (o:∀ a,af σ ρ' a→af σ ρ a) (d:∀ i,Def ρ i→Def ρ' i):∀ {vs:List V} {xs:List Dm.Val},aY Hs H0 H σ ρ vs xs→aY Hs H0 H σ ρ' vs xs
 | _,_,.nil=>.nil
 | _,_,.cons h r=>.cons (h.rho o d) (aY.rho o d r)
theorem aY.early {Hs Hs' H0 H:Hp} {σ:St} {ρ:Dm.Env} (k:∀ a,Hs a=none→Hs' a=none):∀ {vs:List V} {xs:List Dm.Val},aY Hs H0 H σ ρ vs xs→aY Hs' H0 H σ ρ vs xs
 | _,_,.nil=>.nil
 | _,_,.cons h r=>.cons (h.early k) (aY.early k r)
theorem aF {ρ:Dm.Env} {i j:Nat} {c d:Dm.Cell} (h:(ρ.set i c)[j]?=some d):(j=i∧d=c)∨(j≠i∧ρ[j]?=some d):=by
 by_cases e:j=i
 ·subst e
  by_cases l:j<ρ.length
  ·rw [List.getElem?_set_self l] at h
   exact .inl ⟨rfl,(Option.some.inj h).symm⟩
  ·rw [List.getElem?_eq_none (by simpa using Nat.not_lt.mp l)] at h
   cases h
 ·rw [List.getElem?_set_ne (Ne.symm e)] at h
  exact .inr ⟨e,h⟩
theorem tN {H0 H:Hp} {σ:St} {ρ:Dm.Env} {i:Nat} {a:Addr} {d:Dm.Dat} (st:ao H0 H σ ρ) (e:ρ[i]?=some (.ow d)) (q:σ[i]?=some (some (V.ref a))) :
  ao (shr H0 H a) H σ (ρ.set i (.sh d))∧(∀ b,af σ (ρ.set i (.sh d)) b→af σ ρ b)∧∀ j,Def ρ j→Def (ρ.set i (.sh d)) j:=by
 obtain ⟨a',q',n,w⟩:=st.ow i d e
 rw [q] at q'
 cases q'
 have hil:i<ρ.length:=(List.getElem?_eq_some_iff.mp e).1
 refine ⟨⟨vn st.same,by rw [List.length_set];exact st.len,fun j d' h=>?_,fun j d' h=>?_,fun j k d1 d2 b h1 h2 h3 h4=>?_⟩,fun b ⟨j,d',h1,h2⟩=>?_,fun j h=>?_⟩
 ·rcases aF h with ⟨rfl,z⟩ | ⟨_,h⟩
  ·cases z
   exact ⟨_,q,w.rep n⟩
  ·obtain ⟨v,z,r⟩:=st.sh j d' h
   exact ⟨v,z,r.mono (iW n)⟩
 ·rcases aF h with ⟨_,z⟩ | ⟨hj,h⟩
  ·cases z
  ·obtain ⟨b,z,n',w'⟩:=st.ow j d' h
   have nb:b≠a:=fun y=>hj (st.dis j i d' d a h e (y▸z) q)
   exact ⟨b,z,by rw [gX nb];exact n',w'.mono (iW n) rfl⟩
 ·rcases aF h1 with ⟨_,z⟩ | ⟨_,h1⟩
  ·cases z
  ·rcases aF h2 with ⟨_,z⟩ | ⟨_,h2⟩
   ·cases z
   ·exact st.dis j k d1 d2 b h1 h2 h3 h4
 ·rcases aF h1 with ⟨_,z⟩ | ⟨_,h1⟩
  ·cases z
  ·exact ⟨j,d',h1,h2⟩
 ·trivial
theorem xF {H0 H:Hp} {σ:St} {ρ:Dm.Env} {a:Addr} (st:ao H0 H σ ρ) (no:¬ af σ ρ a):ao (shr H0 H a) H σ ρ where
 same:=vn st.same
 len:=st.len
 sh:=fun j d h=>by
  obtain ⟨v,z,r⟩:=st.sh j d h
  exact ⟨v,z,r.mono (c_ st.same)⟩
 ow:=fun j d h=>by
  obtain ⟨b,z,n',w'⟩:=st.ow j d h
  have nb:b≠a:=fun y=>no ⟨j,d,h,y▸z⟩
  exact ⟨b,z,by rw [gX nb];exact n',w'.mono (c_ st.same) rfl⟩
 dis:=st.dis
theorem take1 {Hs H0s H0 H0c H:Hp} {σ:St} {ρs ρ ρ':Dm.Env} {v:V} {x:Dm.Val} {d:Dm.Dat} (t:ESt σ ρs H0s Hs ρ H0c H) (b:aj H0 H0c) (r:fm Hs H0 H σ ρ v x) (e:Dm.tk ρ x=some (d,ρ')) :
  ∃ gY,ESt σ ρs H0s Hs ρ' gY H∧aj H0c gY∧Rep gY v d∧(∀ a,af σ ρ' a→af σ ρ a)∧∀ i,Def ρ i→Def ρ' i:=by
 cases x with
 | val d'=>cases e;exact ⟨H0c,t,aj.refl _,Rep.mono b r,fun _ z=>z,fun _ z=>z⟩
 | new d'=>
  cases e
  obtain ⟨a,e,n,no,n0,w⟩:=r
  subst e
  have ss:=c_ (a:=a) t.st.same
  refine ⟨shr H0c H a,⟨xF t.st no,⟨t.stp.s0.trans ss,t.stp.s1,fun c o q=>?_,t.stp.s3⟩,t.own,t.dfn⟩,ss,w.Js b t.st.same,fun _ z=>z,fun _ z=>z⟩
  by_cases y:c=a
  ·subst y;exact .inl n
  ·rw [gX y] at q;exact t.stp.s2 c o q
 | slot i=>
  obtain ⟨q,_⟩:=r
  unfold Dm.tk at e
  dsimp only at e
  split at e
  ·rename_i d' h
   cases e
   obtain ⟨a,z,n,w⟩:=t.st.ow i _ h
   rw [q] at z
   cases z
   obtain ⟨s1,s2,s3⟩:=tN t.st h q
   have ss:=c_ (a:=a) t.st.same
   refine ⟨shr H0c H a,⟨s1,⟨t.stp.s0.trans ss,t.stp.s1,fun c o q'=>?_,t.stp.s3⟩,fun b z=>t.own b (s2 b z),fun j z=>s3 j (t.dfn j z)⟩,ss,w.Js (aj.refl _) t.st.same,s2,s3⟩
   by_cases y:c=a
   ·subst y;exact .inr (.inr (t.own c ⟨i,_,h,q⟩))
   ·rw [gX y] at q';exact t.stp.s2 c o q'
  ·rename_i d' h
   cases e
   obtain ⟨u,z,w⟩:=t.st.sh i _ h
   rw [q] at z
   cases z
   exact ⟨H0c,t,aj.refl _,w,fun _ z=>z,fun _ z=>z⟩
  ·cases e
theorem takes {Hs H0s H0 H:Hp} {σ:St} {ρs:Dm.Env}:∀ {xs:List Dm.Val} {vs:List V} {ρ ρ':Dm.Env} {ds:List Dm.Dat} {H0c:Hp},ESt σ ρs H0s Hs ρ H0c H→aj H0 H0c→aY Hs H0 H σ ρ vs xs→Dm.tks ρ xs=some (ds,ρ') →
  ∃ gY,ESt σ ρs H0s Hs ρ' gY H∧aj H0c gY∧ay gY vs ds
 | [],_,ρ,ρ',ds,H0c,t,b,r,e=>by
  cases r
  cases e
  exact ⟨H0c,t,aj.refl _,.nil⟩
 | x::xs,_,ρ,ρ',ds,H0c,t,b,r,e=>by
  cases r with
  | cons h r=>
   unfold Dm.tks at e
   split at e
   ·cases e
   ·rename_i d ρ1 e1
    split at e
    ·cases e
    ·rename_i ds' ρ2 e2
     cases e
     obtain ⟨H1,t1,b1,r1,o1,d1⟩:=take1 t b h e1
     obtain ⟨H2,t2,b2,r2⟩:=takes t1 (b.trans b1) (r.rho o1 d1) e2
     exact ⟨H2,t2,b1.trans b2,.cons (r1.mono b2) r2⟩
theorem Jt {ρ ρ':Dm.Env} {x:Dm.Val} {d:Dm.Dat} (e:Dm.tk ρ x=some (d,ρ')) (y:Dm.Val):Dm.pk ρ' y=Dm.pk ρ y:=by
 cases x with
 | val d'=>cases e;rfl
 | new d'=>cases e;rfl
 | slot i=>
  unfold Dm.tk at e
  dsimp only at e
  split at e
  ·rename_i d' h
   cases e
   cases y with
   | val _=>rfl
   | new _=>rfl
   | slot j=>
    unfold Dm.pk
    dsimp only
    by_cases z:j=i
    ·subst z
     rw [List.getElem?_set_self (List.getElem?_eq_some_iff.mp h).1,h]
    ·rw [List.getElem?_set_ne (Ne.symm z)]
  ·cases e;rfl
  ·cases e
theorem zG {ρ:Dm.Env} {x:Dm.Val} {d:Dm.Dat} (e:Dm.pk ρ x=some d):∃ ρ',Dm.tk ρ x=some (d,ρ'):=by
 cases x with
 | val d'=>cases e;exact ⟨ρ,rfl⟩
 | new d'=>cases e;exact ⟨ρ,rfl⟩
 | slot i=>
  unfold Dm.pk at e
  dsimp only at e
  unfold Dm.tk
  dsimp only
  split at e
  ·rename_i d' h;cases e;exact ⟨_,rfl⟩
  ·rename_i d' h;cases e;exact ⟨_,rfl⟩
  ·cases e
theorem lq:∀ {xs:List Dm.Val} {ρ:Dm.Env} {ds:List Dm.Dat},Dm.pks ρ xs=some ds→∃ ρ',Dm.tks ρ xs=some (ds,ρ')
 | [],ρ,ds,e=>by cases e;exact ⟨ρ,rfl⟩
 | x::xs,ρ,ds,e=>by
  unfold Dm.pks at e
  split at e
  ·cases e
  ·rename_i d e1
   split at e
   ·cases e
   ·rename_i ds' e2
    cases e
    obtain ⟨ρ1,h1⟩:=zG e1
    have key:∀ ys:List Dm.Val,Dm.pks ρ1 ys=Dm.pks ρ ys:=fun ys=>by
     induction ys with
     | nil=>rfl
     | cons y ys ih=>unfold Dm.pks;rw [Jt h1 y,ih]
    obtain ⟨ρ2,h2⟩:=lq (xs:=xs) (ρ:=ρ1) (ds:=ds') (by rw [key];exact e2)
    exact ⟨ρ2,by unfold Dm.tks;rw [h1];dsimp only;rw [h2]⟩
theorem looks {Hs H0 H:Hp} {σ:St} {ρ:Dm.Env} (st:ao H0 H σ ρ):∀ {xs:List Dm.Val} {vs:List V} {ds:List Dm.Dat},aY Hs H0 H σ ρ vs xs→Dm.pks ρ xs=some ds→qM H0 H vs ds
 | [],_,ds,r,e=>by cases r;cases e;exact .nil
 | x::xs,_,ds,r,e=>by
  cases r with
  | cons h r=>
   unfold Dm.pks at e
   split at e
   ·cases e
   ·rename_i d e1
    split at e
    ·cases e
    ·rename_i ds' e2
     cases e
     exact .cons (h.look st e1) (looks st r e2)
noncomputable def OpD (r:R2) (g:Dm.Dat→Dm.Dat→Option Dm.RV):Prop:=∀ (H0 H:Hp) (x y:V) (dx dy:Dm.Dat) (z:Dm.RV) (Q:VK),aj H0 H→jD H0 H x dx→jD H0 H y dy→g dx dy=some z →
 (∀ v H0' H',aD H0 H H0' H'→pq H H0' H' v z→Q v H')→r x y H Q
noncomputable def UnD (r:V→Hp→VK→Prop) (g:Dm.Dat→Option Dm.RV):Prop:=∀ (H0 H:Hp) (x:V) (dx:Dm.Dat) (z:Dm.RV) (Q:VK),aj H0 H→jD H0 H x dx→g dx=some z →
 (∀ v H0' H',aD H0 H H0' H'→pq H H0' H' v z→Q v H')→r x H Q
noncomputable def CallD (r:List V→Hp→VK→Prop) (g:List Dm.Dat→Option Dm.RV):Prop:=∀ (H0 H:Hp) (vs:List V) (ds:List Dm.Dat) (z:Dm.RV) (Q:VK),aj H0 H→qM H0 H vs ds→g ds=some z →
 (∀ v H0' H',aD H0 H H0' H'→pq H H0' H' v z→Q v H')→r vs H Q
noncomputable def spD (f:List Dm.Dat→Option Dm.RV):Sp:=fun vs H Q _=>∃ H0 ds z,aj H0 H∧ay H0 vs ds∧f ds=some z∧∀ v H0' H',aD H0 H H0' H'→pq H H0' H' v z→Q v H'
section
variable {σ:St} {H:Hp} {Q:VK}
theorem Ju {i:Nat} (h:tD (Dm.eV i) σ H Q):fB i σ H Q:=by
 obtain ⟨H0,ρ,x,ρ',st,e,k⟩:=h
 unfold Dm.eV at e
 split at e
 ·rename_i d h1
  cases e
  obtain ⟨v,q,r⟩:=st.sh i d h1
  exact ⟨v,q,k v H0 H (.refl st) r⟩
 ·rename_i d h1
  cases e
  obtain ⟨a,q,_⟩:=st.ow i d h1
  exact ⟨_,q,k _ H0 H (.refl st) ⟨q,trivial⟩⟩
 ·cases e
theorem pA {d:Dm.Dat} {v:V} (c:∀ H0:Hp,Rep H0 v d) (h:tD (Dm.eC d) σ H Q):tC v σ H Q:=by
 obtain ⟨H0,ρ,x,ρ',st,e,k⟩:=h
 cases e
 exact k v H0 H (.refl st) (c H0)
theorem tO {r:R2} {g:Dm.Dat→Dm.Dat→Option Dm.RV} {fa fb:Dm.FE} (o:OpD r g) (h:tD (Dm.e2 g fa fb) σ H Q):tOp r (tD fa) (tD fb) σ H Q:=by
 obtain ⟨H0,ρ,x,ρ',st,e,k⟩:=h
 unfold Dm.e2 at e
 split at e
 ·cases e
 rename_i x1 ρ1 e1
 split at e
 ·cases e
 rename_i y1 ρ2 e2
 split at e
 ·cases e
 rename_i dx p1
 split at e
 ·cases e
 rename_i dy p2
 split at e
 ·cases e
 rename_i z gz
 cases e
 refine ⟨H0,ρ,x1,ρ1,st,e1,fun v H1 Hb t1 r1=>⟨H1,ρ1,y1,_,t1.st,e2,fun u H2 Hc t2 r2=>?_⟩⟩
 refine o H2 Hc v u dx dy z Q t2.st.same ((r1.mono t2).look t2.st p1) (r2.look t2.st p2) gz fun w H3 Hd g3 r3=>?_
 exact k w H3 Hd (t1.trans (t2.trans (.grow t2.st g3))) ((r3.toV t2.st).early fun a n=>(t1.trans t2).stp.gone n)
theorem Lu {r:V→Hp→VK→Prop} {g:Dm.Dat→Option Dm.RV} {fa:Dm.FE} (o:UnD r g) (h:tD (Dm.e1 g fa) σ H Q):tUn r (tD fa) σ H Q:=by
 obtain ⟨H0,ρ,x,ρ',st,e,k⟩:=h
 unfold Dm.e1 at e
 split at e
 ·cases e
 rename_i x1 ρ1 e1
 split at e
 ·cases e
 rename_i dx p1
 split at e
 ·cases e
 rename_i z gz
 cases e
 refine ⟨H0,ρ,x1,_,st,e1,fun v H1 Hb t1 r1=>?_⟩
 refine o H1 Hb v dx z Q t1.st.same (r1.look t1.st p1) gz fun w H3 Hd g3 r3=>?_
 exact k w H3 Hd (t1.trans (.grow t1.st g3)) ((r3.toV t1.st).early fun a n=>t1.stp.gone n)
theorem Jv {Q:List V→Hp→Prop} (h:tDA [] σ H Q):gD σ H Q:=by
 obtain ⟨H0,ρ,xs,ρ',st,e,k⟩:=h
 cases e
 exact k [] H0 H (.refl st) .nil
theorem GH {f:Dm.FE} {fs:List Dm.FE} {Q:List V→Hp→Prop} (h:tDA (f::fs) σ H Q):dg (tD f) (tDA fs) σ H Q:=by
 obtain ⟨H0,ρ,xs,ρ',st,e,k⟩:=h
 unfold Dm.eAs at e
 split at e
 ·cases e
 rename_i x1 ρ1 e1
 split at e
 ·cases e
 rename_i xs1 ρ2 e2
 cases e
 refine ⟨H0,ρ,x1,ρ1,st,e1,fun v H1 Hb t1 r1=>⟨H1,ρ1,xs1,_,t1.st,e2,fun vs H2 Hc t2 r2=>?_⟩⟩
 exact k (v::vs) H2 Hc (t1.trans t2) (.cons (r1.mono t2) (r2.early fun a n=>t1.stp.gone n))
theorem Jw {r:List V→Hp→VK→Prop} {g:List Dm.Dat→Option Dm.RV} {fs:List Dm.FE} (o:CallD r g) (h:tD (Dm.eB g fs) σ H Q):tCB r (tDA fs) σ H Q:=by
 obtain ⟨H0,ρ,x,ρ',st,e,k⟩:=h
 unfold Dm.eB at e
 split at e
 ·cases e
 rename_i xs ρ1 e1
 split at e
 ·cases e
 rename_i ds p1
 split at e
 ·cases e
 rename_i z gz
 cases e
 refine ⟨H0,ρ,xs,_,st,e1,fun vs H1 Hb t1 r1=>?_⟩
 refine o H1 Hb vs ds z Q t1.st.same (looks t1.st r1 p1) gz fun w H3 Hd g3 r3=>?_
 exact k w H3 Hd (t1.trans (.grow t1.st g3)) ((r3.toV t1.st).early fun a n=>t1.stp.gone n)
theorem iY {n:Nat} (h:n≤Dm.SZ):n≤sizeLine:=Nat.le_trans h (by decide)
theorem Jx {fs:List Dm.FE} (h:tD (Dm.kD fs) σ H Q):CA (tDA fs) σ H Q:=by
 obtain ⟨H0,ρ,x,ρ',st,e,k⟩:=h
 unfold Dm.kD at e
 split at e
 ·cases e
 rename_i xs ρ1 e1
 split at e
 ·cases e
 rename_i ds ρ2 e2
 split at e
 ·rename_i hz
  cases e
  refine ⟨H0,ρ,xs,ρ1,st,e1,fun vs H1 Hb t1 r1=>?_⟩
  obtain ⟨H2,t2,b2,r2⟩:=takes t1 (aj.refl _) r1 e2
  refine ⟨by rw [r2.length];exact iY hz,fun p hp=>?_⟩
  have g:=aD.Jr (o:=HO.tup vs) t2.st.same hp
  exact k _ _ _ (t2.trans (.grow t2.st g)) (.tup au (r2.mono g.s0))
 ·cases e
theorem Jy {fs:List Dm.FE} (h:tD (Dm.cF fs) σ H Q):zd (tDA fs) σ H Q:=by
 obtain ⟨H0,ρ,x,ρ',st,e,k⟩:=h
 unfold Dm.cF at e
 split at e
 ·cases e
 rename_i xs ρ1 e1
 split at e
 ·cases e
 rename_i ds ρ2 e2
 split at e
 ·rename_i hz
  cases e
  refine ⟨H0,ρ,xs,ρ1,st,e1,fun vs H1 Hb t1 r1=>?_⟩
  obtain ⟨H2,t2,b2,r2⟩:=takes t1 (aj.refl _) r1 e2
  refine ⟨by rw [r2.length];exact iY hz,fun p hp=>?_⟩
  have g:=aD.iX (o:=HO.lst vs) t2.st.same hp
  refine k _ _ _ (t2.trans (.grow t2.st g)) ⟨p,rfl,t2.stp.gone hp,fun ⟨i,d,h1,h2⟩=>?_,t2.st.same.free hp,vs,au,r2⟩
  obtain ⟨a,q,_,w⟩:=t2.st.ow i d h1
  rw [h2] at q
  cases q
  obtain ⟨o,z⟩:=w.some
  rw [hp] at z;cases z
 ·cases e
theorem Rep.plain {H0 H1:Hp} {v:V} {d:Dm.Dat} (r:Rep H0 v d) (n:Dm.dJ d=false):Rep H1 v d:=by
 cases r with
 | non=>exact .non
 | bl b=>exact .bl b
 | int i=>exact .int i
 | str s=>exact .str s
 | tup _ _=>cases n
 | lst _ _=>cases n
 | dct _ _ _=>cases n
 | exc _=>cases n
 | fn a=>exact .fn a
theorem Own.box {H0 H:Hp} {a:Addr} {d:Dm.Dat} (w:Own H0 H a d):Dm.dJ d=true:=by
 cases d with
 | lst ds=>rfl
 | dct ks ds=>rfl
 | _=>exact False.elim w
theorem GI {f:List Dm.Dat→Option Dm.RV} {fs:List Dm.FE} {E:XK} (h:tD (Dm.eF f fs) σ H Q):fD (spD f) [] E (tDA fs) σ H Q:=by
 obtain ⟨H0,ρ,x,ρ',st,e,k⟩:=h
 unfold Dm.eF at e
 split at e
 ·cases e
 rename_i xs ρ1 e1
 split at e
 ·cases e
 rename_i ds p1
 split at e
 ·cases e
 rename_i z fz
 refine ⟨H0,ρ,xs,ρ1,st,e1,fun vs H1 Hb t1 r1=>?_⟩
 dsimp only
 rw [List.append_nil]
 obtain ⟨ρ2,e2⟩:=lq p1
 obtain ⟨H2,t2,b2,r2⟩:=takes t1 (aj.refl _) r1 e2
 split at e
 ·rw [e2] at e
  cases e
  exact ⟨H2,ds,z,t2.st.same,r2,fz,fun w H3 Hd g3 r3=>k w H3 Hd (t2.trans (.grow t2.st g3)) ((r3.toV t2.st).early fun a n=>t2.stp.gone n)⟩
 ·rename_i nb
  cases e
  refine ⟨H2,ds,z,t2.st.same,r2,fz,fun w H3 Hd g3 r3=>?_⟩
  have g:aD H1 Hb H1 Hd:=⟨aj.refl _,g3.s1,fun a o q=>.inr q,t1.st.same.trans g3.s1⟩
  refine k w H1 Hd (t1.trans (.grow t1.st g)) ?_
  cases z with
  | val d=>exact Rep.plain r3 (by simpa [Dm.RV.dat] using nb)
  | new d=>
   obtain ⟨a,_,_,_,w⟩:=r3
   exact absurd w.box (by simpa [Dm.RV.dat] using nb)
theorem Rep.pB {H0:Hp} {v:V} {c:Bool} (r:Rep H0 v (.bl c)):v=.bl c:=by cases r;rfl
theorem Rep.isInt {H0:Hp} {v:V} {c:Int} (r:Rep H0 v (.int c)):v=.int c:=by cases r;rfl
theorem Jz {a b:Dm.FE} (h:tD (Dm.gE a b) σ H Q):EG (tD a) (tD b) σ H Q:=by
 obtain ⟨H0,ρ,x,ρ',st,e,k⟩:=h
 unfold Dm.gE at e
 split at e
 ·rename_i ρ1 e1
  refine ⟨H0,ρ,_,_,st,e1,fun v H1 Hb t1 r1=>⟨true,Rep.pB r1,?_⟩⟩
  try dsimp only
  rw [if_pos rfl]
  exact ⟨H1,ρ1,x,ρ',t1.st,e,fun v H2 Hc t2 r2=>k v H2 Hc (t1.trans t2) (r2.early fun a n=>t1.stp.gone n)⟩
 ·rename_i ρ1 e1
  cases e
  refine ⟨H0,ρ,_,_,st,e1,fun v H1 Hb t1 r1=>⟨false,Rep.pB r1,?_⟩⟩
  try dsimp only
  rw [if_neg Bool.false_ne_true]
  exact k _ H1 Hb t1 (Rep.bl false)
 ·cases e
theorem JA {a:Dm.FE} (h:tD (Dm.tK a) σ H Q):EH (tD a) σ H Q:=by
 obtain ⟨H0,ρ,x,ρ',st,e,k⟩:=h
 unfold Dm.tK at e
 split at e
 ·rename_i c ρ1 e1
  cases e
  exact ⟨H0,ρ,_,_,st,e1,fun v H1 Hb t1 r1=>⟨c,Rep.pB r1,k _ H1 Hb t1 (Rep.bl (!c))⟩⟩
 ·cases e
variable {Qt:Bool→Hp→Prop}
theorem pC {a:Dm.FE} (h:tDT (Dm.tV a) σ H Qt):EK (tD a) σ H Qt:=by
 obtain ⟨H0,ρ,x,ρ',st,e,k⟩:=h
 unfold Dm.tV at e
 split at e
 ·rename_i c ρ1 e1
  cases e
  exact ⟨H0,ρ,_,_,st,e1,fun v H1 Hb t1 r1=>⟨_,Rep.pB r1,k H1 Hb t1⟩⟩
 ·cases e
theorem GJ {t:Dm.FT} (h:tDT (Dm.b9 t) σ H Qt):b9 (tDT t) σ H Qt:=by
 obtain ⟨H0,ρ,x,ρ',st,e,k⟩:=h
 unfold Dm.b9 at e
 split at e
 ·rename_i c ρ1 e1
  cases e
  exact ⟨H0,ρ,_,_,st,e1,fun H1 Hb t1=>k H1 Hb t1⟩
 ·cases e
theorem GK {t u:Dm.FT} (h:tDT (Dm.ku t u) σ H Qt):ku (tDT t) (tDT u) σ H Qt:=by
 obtain ⟨H0,ρ,x,ρ',st,e,k⟩:=h
 unfold Dm.ku at e
 split at e
 ·rename_i ρ1 e1
  refine ⟨H0,ρ,_,ρ1,st,e1,fun H1 Hb t1=>?_⟩
  dsimp only
  rw [if_pos rfl]
  exact ⟨H1,ρ1,x,ρ',t1.st,e,fun H2 Hc t2=>k H2 Hc (t1.trans t2)⟩
 ·rename_i ρ1 e1
  cases e
  refine ⟨H0,ρ,_,_,st,e1,fun H1 Hb t1=>?_⟩
  dsimp only
  rw [if_neg Bool.false_ne_true]
  exact k H1 Hb t1
 ·cases e
theorem JB {t u:Dm.FT} (h:tDT (Dm.tOr t u) σ H Qt):tOr (tDT t) (tDT u) σ H Qt:=by
 obtain ⟨H0,ρ,x,ρ',st,e,k⟩:=h
 unfold Dm.tOr at e
 split at e
 ·rename_i ρ1 e1
  cases e
  refine ⟨H0,ρ,_,_,st,e1,fun H1 Hb t1=>?_⟩
  dsimp only
  rw [if_pos rfl]
  exact k H1 Hb t1
 ·rename_i ρ1 e1
  refine ⟨H0,ρ,_,ρ1,st,e1,fun H1 Hb t1=>?_⟩
  dsimp only
  rw [if_neg Bool.false_ne_true]
  exact ⟨H1,ρ1,x,ρ',t1.st,e,fun H2 Hc t2=>k H2 Hc (t1.trans t2)⟩
 ·cases e
end
structure SSt (σ:St) (ρ:Dm.Env) (H0 H:Hp) (σ':St) (ρ':Dm.Env) (H0' H':Hp):Prop where
 st:ao H0' H' σ' ρ'
 stp:Stp (af σ ρ) H0 H H0' H'
 own:∀ a,af σ' ρ' a→af σ ρ a∨H a=none
 fx:σ'[0]?=σ[0]?
theorem ESt.sst {σ:St} {ρ ρ':Dm.Env} {H0 H H0' H':Hp} (t:ESt σ ρ H0 H ρ' H0' H'):SSt σ ρ H0 H σ ρ' H0' H':=⟨t.st,t.stp,fun a z=>.inl (t.own a z),rfl⟩
theorem SSt.refl {σ:St} {ρ:Dm.Env} {H0 H:Hp} (st:ao H0 H σ ρ):SSt σ ρ H0 H σ ρ H0 H:=(ESt.refl st).sst
theorem SSt.trans {σ σ1 σ2:St} {ρ ρ1 ρ2:Dm.Env} {H0 H H1 H' H2 H'':Hp} (t:SSt σ ρ H0 H σ1 ρ1 H1 H') (u:SSt σ1 ρ1 H1 H' σ2 ρ2 H2 H''):SSt σ ρ H0 H σ2 ρ2 H2 H'':=
 ⟨u.st,t.stp.trans u.stp t.own,fun a z=>(u.own a z).elim (t.own a) fun n=>.inr (t.stp.gone n),u.fx.trans t.fx⟩
noncomputable def JC (σ:St) (ρ:Dm.Env) (H H0' H':Hp) (v:V):Dm.RV→Prop
 | .val d=>Rep H0' v d
 | .new d=>∃ a,v=V.ref a∧(H a=none∨af σ ρ a)∧H0' a=none∧Own H0' H' a d
noncomputable def lu (D:Ends) (σ:St) (ρ:Dm.Env) (H0 H:Hp):Dm.Out→Prop
 | .nx ρ'=>∀ σ' H0' H',SSt σ ρ H0 H σ' ρ' H0' H'→D.nx σ' H'
 | .bk ρ'=>∀ σ' H0' H',SSt σ ρ H0 H σ' ρ' H0' H'→D.bk σ' H'
 | .ct ρ'=>∀ σ' H0' H',SSt σ ρ H0 H σ' ρ' H0' H'→D.ct σ' H'
 | .ret z ρ'=>∀ σ' v H0' H',SSt σ ρ H0 H σ' ρ' H0' H'→JC σ ρ H H0' H' v z→(∀ d a,z=.new d→v=.ref a→¬ af σ' ρ' a)→D.rt v H'
noncomputable def tDS (g:Dm.FS):TS:=fun D σ H=>∃ H0 ρ o,ao H0 H σ ρ∧g ρ=some o∧lu D σ ρ H0 H o
theorem lu.pre {D:Ends} {σ σ1:St} {ρ ρ1:Dm.Env} {H0 H H1 H':Hp} {o:Dm.Out} (t:SSt σ ρ H0 H σ1 ρ1 H1 H') (k:lu D σ ρ H0 H o):lu D σ1 ρ1 H1 H' o:=by
 cases o with
 | nx ρ'=>exact fun σ' H0' H' u=>k σ' H0' H' (t.trans u)
 | bk ρ'=>exact fun σ' H0' H' u=>k σ' H0' H' (t.trans u)
 | ct ρ'=>exact fun σ' H0' H' u=>k σ' H0' H' (t.trans u)
 | ret z ρ'=>
  refine fun σ' v H0' H'' u r no=>k σ' v H0' H'' (t.trans u) ?_ no
  cases z with
  | val d=>exact r
  | new d=>
   obtain ⟨a,e,n,n0,w⟩:=r
   refine ⟨a,e,?_,n0,w⟩
   rcases n with n | n
   ·exact .inl (t.stp.gone n)
   ·exact (t.own a n).symm
theorem ao.mask {H0 H:Hp} {σ:L2.St} {ρ:Dm.Env} (st:ao H0 H σ ρ) (i:Nat):ao H0 H σ (ρ.set i .un) where
 same:=st.same
 len:=by rw [List.length_set];exact st.len
 sh:=fun j d h=>by
  by_cases q:i=j
  ·subst q;rw [List.getElem?_set] at h;simp only [if_true] at h;split at h<;>cases h
  ·rw [List.getElem?_set_ne q] at h;exact st.sh j d h
 ow:=fun j d h=>by
  by_cases q:i=j
  ·subst q;rw [List.getElem?_set] at h;simp only [if_true] at h;split at h<;>cases h
  ·rw [List.getElem?_set_ne q] at h;exact st.ow j d h
 dis:=fun j j' d d' a h1 h2 h3 h4=>by
  by_cases q:i=j
  ·subst q;rw [List.getElem?_set] at h1;simp only [if_true] at h1;split at h1<;>cases h1
  ·by_cases q':i=j'
   ·subst q';rw [List.getElem?_set] at h2;simp only [if_true] at h2;split at h2<;>cases h2
   ·rw [List.getElem?_set_ne q] at h1
    rw [List.getElem?_set_ne q'] at h2
    exact st.dis j j' d d' a h1 h2 h3 h4
theorem bD {σ:L2.St} {ρ:Dm.Env} {i:Nat} {a:Addr} (h:af σ (ρ.set i .un) a):∃ (j:Nat) (d:Dm.Dat),j≠i∧ρ[j]?=some (Dm.Cell.ow d)∧σ[j]?=some (some (V.ref a)):=by
 obtain ⟨j,d,h1,h2⟩:=h
 by_cases q:i=j
 ·subst q;rw [List.getElem?_set] at h1;simp only [if_true] at h1;split at h1<;>cases h1
 ·rw [List.getElem?_set_ne q] at h1;exact ⟨j,d,fun z=>q z.symm,h1,h2⟩
section
variable {D:Ends} {σ:St} {H:Hp}
theorem Lv (h:tDS Dm.sNx D σ H):vd D σ H:=by
 obtain ⟨H0,ρ,o,st,e,k⟩:=h
 cases e
 exact k σ H0 H (.refl st)
theorem JD {s u:Dm.FS} (h:tDS (Dm.av s u) D σ H):gC (tDS s) (tDS u) D σ H:=by
 obtain ⟨H0,ρ,o,st,e,k⟩:=h
 unfold Dm.av at e
 split at e
 ·rename_i ρ1 e1
  exact ⟨H0,ρ,.nx ρ1,st,e1,fun σ' H0' H' t=>⟨H0',ρ1,o,t.st,e,k.pre t⟩⟩
 ·rename_i h1
  cases o with
  | nx ρ1=>exact absurd e (h1 ρ1)
  | bk ρ1=>exact ⟨H0,ρ,_,st,e,k⟩
  | ct ρ1=>exact ⟨H0,ρ,_,st,e,k⟩
  | ret z ρ1=>exact ⟨H0,ρ,_,st,e,k⟩
theorem GL {f:Dm.FE} (h:tDS (Dm.sE f) D σ H):iM (tD f) D σ H:=by
 obtain ⟨H0,ρ,o,st,e,k⟩:=h
 unfold Dm.sE at e
 split at e
 ·cases e
 ·rename_i x ρ1 e1
  cases e
  exact ⟨H0,ρ,x,ρ1,st,e1,fun v H0' H' t r=>k σ H0' H' t.sst⟩
theorem JE {f:Dm.FE} (h:tDS (Dm.sR f) D σ H):yN (tD f) D σ H:=by
 obtain ⟨H0,ρ,o,st,e,k⟩:=h
 unfold Dm.sR at e
 split at e
 ·cases e
 ·rename_i d ρ1 e1
  cases e
  refine ⟨H0,ρ,_,ρ1,st,e1,fun v H0' H' t r=>?_⟩
  obtain ⟨a,e,n,no,n0,w⟩:=r
  exact k σ v H0' H' t.sst ⟨a,e,.inl n,n0,w⟩ fun d' a' _ e' z=>by
   rw [e] at e'
   cases e'
   exact no z
 ·rename_i d ρ1 e1
  cases e
  exact ⟨H0,ρ,_,ρ1,st,e1,fun v H0' H' t r=>k σ v H0' H' t.sst r fun d' a' z=>by cases z⟩
 ·rename_i i ρ1 e1
  split at e
  ·rename_i d h1
   cases e
   refine ⟨H0,ρ,_,ρ1,st,e1,fun v H0' H' t r=>?_⟩
   obtain ⟨q,_⟩:=r
   obtain ⟨a,q',n0,w⟩:=t.st.ow i d h1
   rw [q] at q'
   cases q'
   refine k σ _ H0' H' ⟨t.st.mask i,t.stp,fun b z=>?_,rfl⟩ ⟨a,rfl,.inr (t.own a ⟨i,d,h1,q⟩),n0,w⟩ fun d' a' _ e' z=>?_
   ·obtain ⟨j,d2,_,z1,z2⟩:=bD z
    exact .inl (t.own b ⟨j,d2,z1,z2⟩)
   ·cases e'
    obtain ⟨j,d2,hj,z1,z2⟩:=bD z
    exact hj (t.st.dis j i d2 d a z1 h1 z2 q)
  ·rename_i d h1
   cases e
   refine ⟨H0,ρ,_,ρ1,st,e1,fun v H0' H' t r=>?_⟩
   obtain ⟨q,_⟩:=r
   obtain ⟨u,q',w⟩:=t.st.sh i d h1
   rw [q] at q'
   cases q'
   exact k σ _ H0' H' t.sst w fun d' a' z=>by cases z
  ·cases e
theorem JF {t:Dm.FT} {a b:Dm.FS} (h:tDS (Dm.sIf t a b) D σ H):Cs (tDT t) (tDS a) (tDS b) D σ H:=by
 obtain ⟨H0,ρ,o,st,e,k⟩:=h
 unfold Dm.sIf at e
 split at e
 ·cases e
 ·rename_i ρ1 e1
  refine ⟨H0,ρ,true,ρ1,st,e1,fun H1 Hb t1=>?_⟩
  dsimp only
  rw [if_pos rfl]
  exact ⟨H1,ρ1,o,t1.st,e,k.pre t1.sst⟩
 ·rename_i ρ1 e1
  refine ⟨H0,ρ,false,ρ1,st,e1,fun H1 Hb t1=>?_⟩
  dsimp only
  rw [if_neg Bool.false_ne_true]
  exact ⟨H1,ρ1,o,t1.st,e,k.pre t1.sst⟩
end
theorem fM {σ:St} {i j:Nat} {c d:Option V} (h:(σ.set i c)[j]?=some d):(j=i∧d=c)∨(j≠i∧σ[j]?=some d):=by
 by_cases e:j=i
 ·subst e
  by_cases l:j<σ.length
  ·rw [List.getElem?_set_self l] at h
   exact .inl ⟨rfl,(Option.some.inj h).symm⟩
  ·rw [List.getElem?_eq_none (by simpa using Nat.not_lt.mp l)] at h
   cases h
 ·rw [List.getElem?_set_ne (Ne.symm e)] at h
  exact .inr ⟨e,h⟩
theorem ao.inσ {H0 H:Hp} {σ:St} {ρ:Dm.Env} {i:Nat} {c d:Dm.Cell} (st:ao H0 H σ ρ) (h:(ρ.set i c)[i]?=some d):i<σ.length:=by
 have:=(List.getElem?_eq_some_iff.mp h).1
 rw [List.length_set] at this
 rw [st.len];exact this
theorem cU {σ:St} {ρ:Dm.Env} {i:Nat} {v:V} {d:Dm.Dat} {b:Addr} (h:af (σ.set i (some v)) (ρ.set i (.sh d)) b):af σ ρ b:=by
 obtain ⟨j,d',h1,h2⟩:=h
 rcases aF h1 with ⟨_,z⟩ | ⟨hj,h1⟩
 ·cases z
 ·rcases fM h2 with ⟨z,_⟩ | ⟨_,h2⟩
  ·exact absurd z hj
  ·exact ⟨j,d',h1,h2⟩
theorem ao.pD {H0 H:Hp} {σ:St} {ρ:Dm.Env} {i:Nat} {v:V} {d:Dm.Dat} (st:ao H0 H σ ρ) (r:Rep H0 v d):ao H0 H (σ.set i (some v)) (ρ.set i (.sh d)) where
 same:=st.same
 len:=by rw [List.length_set,List.length_set];exact st.len
 sh:=fun j d' h=>by
  rcases aF h with ⟨rfl,z⟩ | ⟨hj,h'⟩
  ·cases z
   exact ⟨v,List.getElem?_set_self (st.inσ h),r⟩
  ·obtain ⟨u,q,w⟩:=st.sh j d' h'
   exact ⟨u,by rw [List.getElem?_set_ne (Ne.symm hj)];exact q,w⟩
 ow:=fun j d' h=>by
  rcases aF h with ⟨_,z⟩ | ⟨hj,h'⟩
  ·cases z
  ·obtain ⟨u,q,w⟩:=st.ow j d' h'
   exact ⟨u,by rw [List.getElem?_set_ne (Ne.symm hj)];exact q,w⟩
 dis:=fun j k d1 d2 b h1 h2 h3 h4=>by
  rcases aF h1 with ⟨_,z⟩ | ⟨hj,h1⟩
  ·cases z
  rcases aF h2 with ⟨_,z⟩ | ⟨hk,h2⟩
  ·cases z
  rw [List.getElem?_set_ne (Ne.symm hj)] at h3
  rw [List.getElem?_set_ne (Ne.symm hk)] at h4
  exact st.dis j k d1 d2 b h1 h2 h3 h4
theorem ao.zH {H0 H:Hp} {σ:St} {ρ:Dm.Env} {i:Nat} {a:Addr} {d:Dm.Dat} (st:ao H0 H σ ρ) (no:¬ af σ ρ a) (n0:H0 a=none) (w:Own H0 H a d):ao H0 H (σ.set i (some (.ref a))) (ρ.set i (.ow d)) where
 same:=st.same
 len:=by rw [List.length_set,List.length_set];exact st.len
 sh:=fun j d' h=>by
  rcases aF h with ⟨_,z⟩ | ⟨hj,h'⟩
  ·cases z
  ·obtain ⟨u,q,w⟩:=st.sh j d' h'
   exact ⟨u,by rw [List.getElem?_set_ne (Ne.symm hj)];exact q,w⟩
 ow:=fun j d' h=>by
  rcases aF h with ⟨rfl,z⟩ | ⟨hj,h'⟩
  ·cases z
   exact ⟨a,List.getElem?_set_self (st.inσ h),n0,w⟩
  ·obtain ⟨u,q,w⟩:=st.ow j d' h'
   exact ⟨u,by rw [List.getElem?_set_ne (Ne.symm hj)];exact q,w⟩
 dis:=fun j k d1 d2 b h1 h2 h3 h4=>by
  rcases aF h1 with ⟨e1,z1⟩ | ⟨hj,h1'⟩
  ·rcases aF h2 with ⟨e2,z2⟩ | ⟨hk,h2'⟩
   ·rw [e1,e2]
   ·rcases fM h3 with ⟨_,z⟩ | ⟨z,_⟩
    ·cases z
     rw [List.getElem?_set_ne (Ne.symm hk)] at h4
     exact absurd ⟨k,d2,h2',h4⟩ no
    ·exact absurd e1 z
  ·rcases aF h2 with ⟨e2,z2⟩ | ⟨hk,h2'⟩
   ·rcases fM h4 with ⟨_,z⟩ | ⟨z,_⟩
    ·cases z
     rw [List.getElem?_set_ne (Ne.symm hj)] at h3
     exact absurd ⟨j,d1,h1',h3⟩ no
    ·exact absurd e2 z
   ·rw [List.getElem?_set_ne (Ne.symm hj)] at h3
    rw [List.getElem?_set_ne (Ne.symm hk)] at h4
    exact st.dis j k d1 d2 b h1' h2' h3 h4
theorem pF {σ:St} {ρ:Dm.Env} {i:Nat} {a b:Addr} {d:Dm.Dat} (h:af (σ.set i (some (.ref a))) (ρ.set i (.ow d)) b):b=a∨af σ ρ b:=by
 obtain ⟨j,d',h1,h2⟩:=h
 rcases aF h1 with ⟨e,_⟩ | ⟨hj,h1⟩
 ·rcases fM h2 with ⟨_,z⟩ | ⟨z,_⟩
  ·cases z;exact .inl rfl
  ·exact absurd e z
 ·rcases fM h2 with ⟨z,_⟩ | ⟨_,h2⟩
  ·exact absurd z hj
  ·exact .inr ⟨j,d',h1,h2⟩
theorem ao.write {H0 H:Hp} {σ:St} {ρ:Dm.Env} {i:Nat} {a:Addr} {d d':Dm.Dat} {o:HO} (st:ao H0 H σ ρ) (e:ρ[i]?=some (.ow d)) (q:σ[i]?=some (some (V.ref a))) (w':Own H0 (upd H a o) a d') :
  ao H0 (upd H a o) σ (ρ.set i (.ow d')):=by
 obtain ⟨a',q',n,w⟩:=st.ow i d e
 rw [q] at q'
 cases q'
 refine ⟨fun b u z=>?_,by rw [List.length_set];exact st.len,fun j d1 h=>?_,fun j d1 h=>?_,fun j k d1 d2 b h1 h2 h3 h4=>?_⟩
 ·rw [aq (aM z n)];exact st.same _ _ z
 ·rcases aF h with ⟨_,z⟩ | ⟨hj,h'⟩
  ·cases z
  ·exact st.sh j d1 h'
 ·rcases aF h with ⟨rfl,z⟩ | ⟨hj,h'⟩
  ·cases z
   exact ⟨a,q,n,w'⟩
  ·obtain ⟨b,q1,n1,w1⟩:=st.ow j d1 h'
   have nb:b≠a:=fun y=>hj (st.dis j i d1 d a h' e (y▸q1) q)
   exact ⟨b,q1,n1,w1.mono (aj.refl _) (aq nb)⟩
 ·have f:∀ {j:Nat} {d1:Dm.Dat},(ρ.set i (.ow d'))[j]?=some (.ow d1)→∃ d2,ρ[j]?=some (.ow d2):=fun {j d1} h=>by
   rcases aF h with ⟨rfl,_⟩ | ⟨_,h'⟩
   ·exact ⟨d,e⟩
   ·exact ⟨d1,h'⟩
  obtain ⟨x1,y1⟩:=f h1
  obtain ⟨x2,y2⟩:=f h2
  exact st.dis j k x1 x2 b y1 y2 h3 h4
theorem bX {σ:St} {ρ:Dm.Env} {i:Nat} {d d':Dm.Dat} {b:Addr} (e:ρ[i]?=some (.ow d)) (h:af σ (ρ.set i (.ow d')) b):af σ ρ b:=by
 obtain ⟨j,d1,h1,h2⟩:=h
 rcases aF h1 with ⟨rfl,_⟩ | ⟨_,h'⟩
 ·exact ⟨j,d,e,h2⟩
 ·exact ⟨j,d1,h',h2⟩
theorem Stp.write {σ:St} {ρ:Dm.Env} {H0 H:Hp} {a:Addr} {o:HO} (w:af σ ρ a):Stp (af σ ρ) H0 H H0 (upd H a o):=
 ⟨aj.refl _,fun b u e n=>by rw [aq (show b≠a from fun z=>n (by rw [z];exact w))];exact e,fun b u e=>.inr (.inl e),fun b u e=>by
  by_cases z:b=a
  ·subst z;exact ⟨o,au⟩
  ·exact ⟨u,by rw [aq z];exact e⟩⟩
section
variable {D:Ends} {σ:St} {H:Hp}
theorem ER {i:Nat} {f:Dm.FE} (h:tDS (Dm.sA i f) D σ H):iN (tD f) (cE i) D σ H:=by
 obtain ⟨H0,ρ,o,st,e,k⟩:=h
 unfold Dm.sA at e
 split at e
 ·cases e
 rename_i hi0
 split at e
 ·cases e
 ·rename_i d ρ1 e1
  cases e
  refine ⟨H0,ρ,_,ρ1,st,e1,fun v H0' H' t r=>?_⟩
  obtain ⟨a,e,n,no,n0,w⟩:=r
  subst e
  refine k _ H0' H' ⟨t.st.zH no n0 w,t.stp,fun b z=>?_,List.getElem?_set_ne hi0⟩
  rcases pF z with rfl | z
  ·exact .inr n
  ·exact .inl (t.own b z)
 ·rename_i x ρ1 _ e1
  split at e
  ·cases e
  ·rename_i d ρ2 e2
   cases e
   refine ⟨H0,ρ,_,ρ1,st,e1,fun v H0' H' t r=>?_⟩
   obtain ⟨H1,t1,b1,r1,_,_⟩:=take1 t (aj.refl _) r e2
   exact k _ H1 H' ⟨t1.st.pD r1,t1.stp,fun b z=>.inl (t1.own b (cU z)),List.getElem?_set_ne hi0⟩
theorem vo {ρ:Dm.Env} {i:Nat} {d:Dm.Dat} {j:Nat} (h:Def ρ j):Def (ρ.set i (.sh d)) j:=trivial
noncomputable def eK:List Nat→TGs
 | []=>Je
 | i::is=>EI (cE i) (eK is)
theorem pG {H0 H:Hp} {Q:St→Hp→Prop}:∀ {is:List Nat} {xs:List V} {ds:List Dm.Dat} {σ:St} {ρ ρ':Dm.Env},ao H0 H σ ρ→ay H0 xs ds→Dm.sets is ds ρ=some ρ' →
  (∀ σ',ao H0 H σ' ρ'→(∀ a,af σ' ρ' a→af σ ρ a)→(∀ j,j∉is→σ'[j]?=σ[j]?)→(∀ j,Def ρ j→Def ρ' j)→σ'[0]?=σ[0]?→Q σ' H)→eK is xs σ H Q
 | [],_,[],σ,ρ,ρ',st,r,e,k=>by
  cases r
  cases e
  exact ⟨rfl,k σ st (fun _ z=>z) (fun _ _=>rfl) (fun _ z=>z) rfl⟩
 | i::is,_,d::ds,σ,ρ,ρ',st,r,e,k=>by
  cases r with
  | cons h r=>
   unfold Dm.sets at e
   split at e
   ·cases e
   rename_i hi0
   refine ⟨_,_,rfl,?_⟩
   refine pG (st.pD h) r e fun σ' st' o' n' d' f'=>k σ' st' (fun a z=>cU (o' a z)) (fun j hj=>?_) (fun j z=>d' j (vo z)) (f'.trans (List.getElem?_set_ne hi0))
   rw [n' j fun z=>hj (List.mem_cons_of_mem _ z)]
   exact List.getElem?_set_ne fun z=>hj (by rw [z];exact List.mem_cons_self)
 | [],_,_::_,_,_,_,_,_,e,_=>by cases e
 | _::_,_,[],_,_,_,_,_,e,_=>by cases e
theorem ly:∀ {is:List Nat} {ds:List Dm.Dat} {ρ ρ':Dm.Env},Dm.sets is ds ρ=some ρ'→ds.length=is.length
 | [],[],_,_,_=>rfl
 | i::is,_::ds,_,_,e=>by
  unfold Dm.sets at e
  split at e
  ·cases e
  ·simp [ly (is:=is) (ds:=ds) e]
 | [],_::_,_,_,e=>by cases e
 | _::_,[],_,_,e=>by cases e
noncomputable def BD (is:List Nat) (g:TG) (bd:Dm.FB):Prop:=∀ (H0 H:Hp) (σ:St) (ρ ρ':Dm.Env) (x:V) (d:Dm.Dat) (Q:St→Hp→Prop),ao H0 H σ ρ→Rep H0 x d→bd d ρ=some ρ' →
 (∀ σ',ao H0 H σ' ρ'→(∀ a,af σ' ρ' a→af σ ρ a)→(∀ j,j∉is→σ'[j]?=σ[j]?)→(∀ j,Def ρ j→Def ρ' j)→σ'[0]?=σ[0]?→Q σ' H)→g x σ H Q
theorem vp (i:Nat):BD [i] (cE i) (Dm.bN i):=by
 intro H0 H σ ρ ρ' x d Q st r e k
 unfold Dm.bN at e
 split at e
 ·cases e
 rename_i hi0
 cases e
 refine k _ (st.pD r) (fun a z=>cU z) (fun j hj=>?_) (fun j h=>vo h) (List.getElem?_set_ne hi0)
 exact List.getElem?_set_ne (fun z=>hj (by rw [z];exact List.mem_singleton.mpr rfl))
theorem zI {K:PySem.W.Frag} {is:List Nat} {n:Nat} {f:Dm.FE} (hn:is.length=n) (h:tDS (Dm.sU is f) D σ H):iN (tD f) (Ge K n (eK is)) D σ H:=by
 obtain ⟨H0,ρ,o,st,e,k⟩:=h
 unfold Dm.sU at e
 split at e
 ·cases e
 ·rename_i x ρ1 e1
  split at e
  ·rename_i ds ρ2 e2
   split at e
   ·cases e
   ·rename_i ρ3 e3
    cases e
    refine ⟨H0,ρ,_,ρ1,st,e1,fun v H0' H' t r=>?_⟩
    obtain ⟨H1,t1,b1,r1,_,_⟩:=take1 t (aj.refl _) r e2
    cases r1 with
    | tup q rs=>
     refine ⟨_,_,rfl,SqT.of (t1.st.same _ _ q),by rw [rs.length,ly e3,hn],?_⟩
     exact pG t1.st rs e3 fun σ' st' o' _ _ f'=>k σ' H1 H' ⟨st',t1.stp,fun a z=>.inl (t1.own a (o' a z)),f'⟩
  ·cases e
theorem GN {K:PySem.W.Frag} (is:List Nat) {n:Nat} (hn:is.length=n):BD is (Ge K n (eK is)) (Dm.bT is):=by
 intro H0 H σ ρ ρ' x d Q st r e k
 unfold Dm.bT at e
 split at e
 ·cases r with
  | tup q rs=>exact ⟨_,_,rfl,SqT.of (st.same _ _ q),by rw [rs.length,ly e,hn],pG st rs e k⟩
 ·cases e
theorem JG {K:PySem.W.Frag} {i:Nat} {f:Dm.FE} (h:tDS (Dm.qL i f) D σ H):iM (tBM K "list" iR (fB i) (tDA [f])) D σ H:=by
 obtain ⟨H0,ρ,o,st,e,k⟩:=h
 unfold Dm.qL at e
 split at e
 ·rename_i ds0 h0
  obtain ⟨a0,q0,n0,w0⟩:=st.ow i _ h0
  refine ⟨_,q0,?_⟩
  split at e
  ·cases e
  rename_i x ρ1 e1
  split at e
  ·cases e
  rename_i d ρ2 e2
  split at e
  ·rename_i ds h2
   split at e
   ·rename_i hz
    cases e
    obtain ⟨xs0,y0,_⟩:=w0
    refine ⟨.inl ⟨rfl,xs0,.inl (.inl y0)⟩,?_⟩
    refine ⟨H0,ρ,[x],ρ1,st,by unfold Dm.eAs;rw [e1];rfl,fun vs H0' H' t r=>?_⟩
    cases r with
    | cons r rr=>
     cases rr
     obtain ⟨H1,t1,b1,r1,_,_⟩:=take1 t (aj.refl _) r e2
     obtain ⟨a,q,n,w⟩:=t1.st.ow i _ h2
     rw [q0] at q
     cases q
     obtain ⟨xs,y,rs⟩:=w
     refine ⟨a0,xs,_,rfl,rfl,y,by rw [rs.length];exact Nat.lt_of_lt_of_le hz (by decide),?_⟩
     have ow:af σ ρ2 a0:=⟨i,_,h2,q0⟩
     refine k σ H1 _ ⟨t1.st.write h2 q0 ⟨_,au,rs.append (.cons r1 .nil)⟩,t1.stp.trans (Stp.write ow) fun b z=>.inl (t1.own b z),fun b z=>.inl (t1.own b (bX h2 z)),rfl⟩
   ·cases e
  ·cases e
 ·cases e
theorem pH (n:Nat) (i:Int):Dm.ixN n i=L2.ixN n i:=rfl
theorem JH {i:Nat} {j f:Dm.FE} (h:tDS (Dm.xD i j f) D σ H):iN (tD f) (kB (fB i) (tD j) qF) D σ H:=by
 obtain ⟨H0,ρ,o,st,e,k⟩:=h
 unfold Dm.xD at e
 split at e
 ·cases e
 rename_i x ρ1 e1
 split at e
 ·cases e
 rename_i d ρ2 e2
 split at e
 case h_2=>cases e
 rename_i d0 h2
 split at e
 ·rename_i m ρ3 e3
  split at e
  ·rename_i ds h3
   split at e
   ·cases e
   ·rename_i p e4
    cases e
    refine ⟨H0,ρ,_,ρ1,st,e1,fun v H0' H' t r=>?_⟩
    obtain ⟨H1,t1,b1,r1,_,_⟩:=take1 t (aj.refl _) r e2
    obtain ⟨a0,q0,_,_⟩:=t1.st.ow i _ h2
    refine ⟨_,q0,H1,ρ2,_,ρ3,t1.st,e3,fun u H2 Hc t2 r2=>?_⟩
    obtain ⟨a,q,n,w⟩:=t2.st.ow i _ h3
    rw [q0] at q
    cases q
    obtain ⟨xs,y,rs⟩:=w
    refine ⟨a0,xs,m,p,rfl,Rep.isInt r2,y,by rw [rs.length];exact e4,?_⟩
    have ow:af σ ρ3 a0:=⟨i,_,h3,q0⟩
    have tt:=t1.trans t2
    refine k σ H2 _ ⟨t2.st.write h3 q0 ⟨_,au,rs.set (r1.mono t2.stp.s0) p⟩,tt.stp.trans (Stp.write ow) fun b z=>.inl (tt.own b z),fun b z=>.inl (tt.own b (bX h3 z)),rfl⟩
  ·cases e
 ·cases e
theorem CO {t:Dm.FT} {body:Dm.FS} {n:Nat} (h:tDS (Dm.whD t body n) D σ H):yT (tDT t) (tDS body) D σ H:=by
 refine ⟨fun m σ H=>tDS (Dm.whD t body m) D σ H,⟨n,h⟩,?_⟩
 rintro m σ H ⟨H0,ρ,o,st,e,k⟩
 cases m with
 | zero=>unfold Dm.whD at e;cases e
 | succ m=>
  unfold Dm.whD at e
  split at e
  ·cases e
  ·rename_i ρ1 e1
   cases e
   refine ⟨H0,ρ,false,ρ1,st,e1,fun H1 Hb t1=>?_⟩
   dsimp only
   rw [if_neg Bool.false_ne_true]
   exact k σ H1 Hb t1.sst
  ·rename_i ρ1 e1
   refine ⟨H0,ρ,true,ρ1,st,e1,fun H1 Hb t1=>?_⟩
   dsimp only
   rw [if_pos rfl]
   refine ⟨fun σ' H'=>tDS (Dm.whD t body m) D σ' H',fun σ' H' q=>⟨m,Nat.lt_succ_self m,q⟩,?_⟩
   have k1:=k.pre t1.sst
   split at e
   ·rename_i ρ2 e2
    exact ⟨H1,ρ1,_,t1.st,e2,fun σ' H0' H' t2=>⟨H0',ρ2,o,t2.st,e,k1.pre t2⟩⟩
   ·rename_i ρ2 e2
    exact ⟨H1,ρ1,_,t1.st,e2,fun σ' H0' H' t2=>⟨H0',ρ2,o,t2.st,e,k1.pre t2⟩⟩
   ·rename_i ρ2 e2
    cases e
    exact ⟨H1,ρ1,_,t1.st,e2,k1⟩
   ·rename_i v ρ2 e2
    cases e
    exact ⟨H1,ρ1,_,t1.st,e2,k1⟩
   ·cases e
noncomputable def JW (J:It) (H00:Hp) (ys:List Dm.Dat):Prop:=∀ H0 H,aj H00 H0→aj H0 H→(∀ i,ys.length≤i→J.stop i H) ∧
 ∀ (i:Nat) (d:Dm.Dat),ys[i]?=some d→J.go i H∧∀ x H',J.yld i H x H'→∃ H0',aD H0 H H0' H'∧Rep H0' x d
noncomputable def tDI (fi:Dm.FI):TI:=fun σ H R=>∃ H0 ρ ys ρ',ao H0 H σ ρ∧fi ρ=some (ys,ρ')∧∀ J H0' H',ESt σ ρ H0 H ρ' H0' H'→JW J H0' ys→R J H'
theorem JI {fi:Dm.FI} {bd:Dm.FB} {g:TG} {body:Dm.FS} {is:List Nat} (hb:BD is g bd) (h:tDS (Dm.gU fi bd body) D σ H):yY (tDI fi) g (tDS body) D σ H:=by
 obtain ⟨H0,ρ,o,st,e,k⟩:=h
 unfold Dm.gU at e
 split at e
 ·cases e
 rename_i ys ρ1 e1
 refine ⟨H0,ρ,ys,ρ1,st,e1,fun J H00 Hb t1 jw=>?_⟩
 refine ⟨fun i m σ H=>∃ H0 ρ o,ao H0 H σ ρ∧aj H00 H0∧m=ys.length-i∧i≤ys.length∧Dm.jC bd body (ys.drop i) ρ=some o∧lu D σ ρ H0 H o,
  ⟨ys.length,H00,ρ1,o,t1.st,aj.refl _,by simp,Nat.zero_le _,by simpa using e,k.pre t1.sst⟩,?_⟩
 rintro i m σ H ⟨H0,ρ,o,st,s00,rfl,hi,e,k⟩
 obtain ⟨js,jg⟩:=jw H0 H s00 st.same
 by_cases hlt:i<ys.length
 ·have hd:ys[i]?=some ys[i]:=by simp [hlt]
  obtain ⟨g1,g2⟩:=jg i ys[i] hd
  rw [List.drop_eq_getElem_cons hlt] at e
  unfold Dm.jC at e
  refine .inr ⟨g1,fun σ' H'=>∃ H0 ρ o,ao H0 H' σ' ρ∧aj H00 H0∧Dm.jC bd body (ys.drop (i+1)) ρ=some o∧lu D σ' ρ H0 H' o,?_,fun x H' y=>?_⟩
  ·rintro σ' H' ⟨H0',ρ',o',h1,h2,h3,h4⟩
   exact ⟨ys.length-(i+1),by omega,H0',ρ',o',h1,h2,rfl,hlt,h3,h4⟩
  ·obtain ⟨H0',gr,rx⟩:=g2 x H' y
   split at e
   ·cases e
   ·rename_i ρ2 e2
    have t2:=ESt.grow st gr
    refine hb H0' H' σ ρ ρ2 x ys[i] _ t2.st rx e2 fun σ2 st2 o2 _ _ f2=>?_
    have t3:SSt σ ρ H0 H σ2 ρ2 H0' H':=⟨st2,t2.stp,fun a z=>.inl (o2 a z),f2⟩
    have k3:=k.pre t3
    have s3:aj H00 H0':=s00.trans gr.s0
    split at e
    ·rename_i ρ3 e3
     exact ⟨H0',ρ2,_,st2,e3,fun σ4 H4 Hd t4=>⟨H4,ρ3,o,t4.st,s3.trans t4.stp.s0,e,k3.pre t4⟩⟩
    ·rename_i ρ3 e3
     exact ⟨H0',ρ2,_,st2,e3,fun σ4 H4 Hd t4=>⟨H4,ρ3,o,t4.st,s3.trans t4.stp.s0,e,k3.pre t4⟩⟩
    ·rename_i ρ3 e3
     cases e
     exact ⟨H0',ρ2,_,st2,e3,k3⟩
    ·rename_i v ρ3 e3
     cases e
     exact ⟨H0',ρ2,_,st2,e3,k3⟩
    ·cases e
 ·have e':i=ys.length:=by omega
  subst e'
  rw [List.drop_length] at e
  cases e
  exact .inl ⟨js _ (Nat.le_refl _),k σ H0 H (.refl st)⟩
theorem CP {K:PySem.W.Frag} {H0:Hp} {a:Addr} {xs:List V} {ds:List Dm.Dat} (hq:Rd H0 a (.lst xs)) (rs:ay H0 xs ds):JW (Itl K a) H0 ds:=by
 intro H0' H s0 s1
 have q:SqL K H a xs:=.inl (aj.rd s1 (aj.rd s0 hq))
 refine ⟨fun i hi=>⟨xs,q,by rw [rs.length];exact hi⟩,fun i d e=>?_⟩
 obtain ⟨v,hv,rv⟩:=rs.get e
 refine ⟨⟨xs,v,q,hv⟩,fun x H' y=>?_⟩
 obtain ⟨e1,y⟩:=y
 subst e1
 have z:=y xs q
 rw [hv] at z
 cases z
 exact ⟨H0',aD.refl s1,rv.mono s0⟩
theorem GO {K:PySem.W.Frag} {H0:Hp} {a:Addr} {xs:List V} {ds:List Dm.Dat} (hq:H0 a=some (.tup xs)) (rs:ay H0 xs ds):JW (Itt K a) H0 ds:=by
 intro H0' H s0 s1
 have q:SqT K H a xs:=.inl (.inl (s1 _ _ (s0 _ _ hq)))
 refine ⟨fun i hi=>⟨xs,q,by rw [rs.length];exact hi⟩,fun i d e=>?_⟩
 obtain ⟨v,hv,rv⟩:=rs.get e
 refine ⟨⟨xs,v,q,hv⟩,fun x H' y=>?_⟩
 obtain ⟨e1,y⟩:=y
 subst e1
 have z:=y xs q
 rw [hv] at z
 cases z
 exact ⟨H0',aD.refl s1,rv.mono s0⟩
theorem zJ {H0:Hp} {lo:Int} {n:Nat}:JW (Itr lo n) H0 (Dm.ups lo n):=by
 intro H0' H s0 s1
 have el:(Dm.ups lo n).length=n:=by simp [Dm.ups]
 refine ⟨fun i hi=>by rw [el] at hi;exact hi,fun i d e=>?_⟩
 have hi:i<n:=by have:=(List.getElem?_eq_some_iff.mp e).1;rw [el] at this;exact this
 have hd:d=.int (lo+i):=by
  unfold Dm.ups at e
  rw [List.getElem?_map,List.getElem?_range hi] at e
  exact (Option.some.inj e).symm
 refine ⟨hi,fun x H' y=>?_⟩
 obtain ⟨rfl,rfl⟩:=y
 subst hd
 exact ⟨H0',aD.refl s1,.int _⟩
variable {R:It→Hp→Prop}
theorem Lw {K:PySem.W.Frag} {f:Dm.FE} (h:tDI (Dm.iL f) σ H R):kX K (tD f) σ H R:=by
 obtain ⟨H0,ρ,ys,ρ',st,e,k⟩:=h
 unfold Dm.iL at e
 split at e
 ·cases e
 rename_i x ρ1 e1
 split at e
 ·rename_i ds ρ2 e2
  cases e
  refine ⟨H0,ρ,_,ρ1,st,e1,fun v H0' H' t r=>?_⟩
  obtain ⟨H1,t1,b1,r1,_,_⟩:=take1 t (aj.refl _) r e2
  cases r1 with
  | lst q rs=>exact ⟨_,rfl,⟨_,.inl (aj.rd t1.st.same q)⟩,k _ H1 H' t1 (CP q rs)⟩
 ·cases e
theorem Lx {K:PySem.W.Frag} {f:Dm.FE} (h:tDI (Dm.iT f) σ H R):yV K (tD f) σ H R:=by
 obtain ⟨H0,ρ,ys,ρ',st,e,k⟩:=h
 unfold Dm.iT at e
 split at e
 ·cases e
 rename_i x ρ1 e1
 split at e
 ·rename_i ds ρ2 e2
  cases e
  refine ⟨H0,ρ,_,ρ1,st,e1,fun v H0' H' t r=>?_⟩
  obtain ⟨H1,t1,b1,r1,_,_⟩:=take1 t (aj.refl _) r e2
  cases r1 with
  | tup q rs=>exact ⟨_,rfl,⟨_,.inl (.inl (t1.st.same _ _ q))⟩,k _ H1 H' t1 (GO q rs)⟩
 ·cases e
theorem JJ {f:Dm.FE} (h:tDI (Dm.iR1 f) σ H R):EJ (tDA [f]) σ H R:=by
 obtain ⟨H0,ρ,ys,ρ',st,e,k⟩:=h
 unfold Dm.iR1 at e
 split at e
 ·rename_i j ρ1 e1
  split at e
  ·rename_i hb
   cases e
   refine ⟨H0,ρ,[.val (.int j)],_,st,by unfold Dm.eAs;rw [e1];rfl,fun vs H0' H' t r=>?_⟩
   cases r with
   | cons r rr=>
    cases rr
    cases Rep.isInt r
    have h1:=hb.1
    have h2:=hb.2
    unfold Dm.BIG at h1 h2
    exact ⟨j,rfl,by omega,by omega,k _ H0' H' t zJ⟩
  ·cases e
 ·cases e
noncomputable def tLC (wi:TI) (own:Nat) (g:TG) (tt:TT) (te:TE):TE:=fun σ H Q=>wi σ H fun J H1=>∀ D,H1 D=none→∃ W:Nat→Nat→St→Hp→Prop,
 (∃ m,W 0 m (σ++List.replicate own none) (upd H1 D (.lst [])))∧∀ i m σ' H',W i m σ' H' →
  (J.stop i H'∧Q (.ref D) H')∨(J.go i H'∧∀ x H2,J.yld i H' x H2→g x σ' H2 fun σ2 H3=>tt σ2 H3 fun b H4=>if b=true
   then te σ2 H4 fun y H5=>∃ acc,H5 D=some (.lst acc)∧acc.length<sizeLine∧∃ m',m'<m∧W (i+1) m' σ2 (upd H5 D (.lst (acc++[y])))
   else ∃ m',m'<m∧W (i+1) m' σ2 H4)
theorem ao.aside {H0 H:Hp} {σ:St} {ρ:Dm.Env} {a:Addr} {o:HO} (st:ao H0 H σ ρ) (n0:H0 a=none) (no:¬ af σ ρ a):ao H0 (upd H a o) σ ρ where
 same:=fun b u z=>by rw [aq (aM z n0)];exact st.same _ _ z
 len:=st.len
 sh:=st.sh
 ow:=fun j d h=>by
  obtain ⟨b,q,n,w⟩:=st.ow j d h
  have nb:b≠a:=fun y=>no ⟨j,d,h,y▸q⟩
  exact ⟨b,q,n,w.mono (aj.refl _) (aq nb)⟩
 dis:=st.dis
theorem ao.aZ {H0 H:Hp} {σ:St} {ρ:Dm.Env} {a:Addr} (st:ao H0 H σ ρ) (h:H a=none):¬ af σ ρ a:=fun ⟨i,d,h1,h2⟩=>by
 obtain ⟨b,q,n,w⟩:=st.ow i d h1
 rw [h2] at q
 cases q
 obtain ⟨o,z⟩:=w.some
 rw [h] at z;cases z
theorem iZ {α:Type} {l:List α} {r:List α} {i:Nat} {x:α} (h:(l++r)[i]?=some x) (n:x∉r):i<l.length∧l[i]?=some x:=by
 by_cases hi:i<l.length
 ·rw [List.getElem?_append_left hi] at h
  exact ⟨hi,h⟩
 ·rw [List.getElem?_append_right (Nat.not_lt.mp hi)] at h
  exact absurd (List.mem_of_getElem? h) n
theorem zK {d:Dm.Dat} {k:Nat}:Dm.Cell.sh d∉List.replicate k Dm.Cell.un:=fun h=>by
 have:=List.eq_of_mem_replicate h
 cases this
theorem i6 {d:Dm.Dat} {k:Nat}:Dm.Cell.ow d∉List.replicate k Dm.Cell.un:=fun h=>by
 have:=List.eq_of_mem_replicate h
 cases this
theorem ao.ext {H0 H:Hp} {σ:St} {ρ:Dm.Env} (st:ao H0 H σ ρ) (k:Nat):ao H0 H (σ++List.replicate k none) (ρ++List.replicate k .un) where
 same:=st.same
 len:=by simp [st.len]
 sh:=fun i d h=>by
  obtain ⟨hi,h⟩:=iZ h zK
  obtain ⟨v,q,r⟩:=st.sh i d h
  exact ⟨v,by rw [List.getElem?_append_left (by rw [st.len];exact hi)];exact q,r⟩
 ow:=fun i d h=>by
  obtain ⟨hi,h⟩:=iZ h i6
  obtain ⟨v,q,r⟩:=st.ow i d h
  exact ⟨v,by rw [List.getElem?_append_left (by rw [st.len];exact hi)];exact q,r⟩
 dis:=fun i j d e a h1 h2 h3 h4=>by
  obtain ⟨hi,h1⟩:=iZ h1 i6
  obtain ⟨hj,h2⟩:=iZ h2 i6
  rw [List.getElem?_append_left (by rw [st.len];exact hi)] at h3
  rw [List.getElem?_append_left (by rw [st.len];exact hj)] at h4
  exact st.dis i j d e a h1 h2 h3 h4
theorem dW {H0 H:Hp} {σ:St} {ρ:Dm.Env} (st:ao H0 H σ ρ) {k:Nat} {a:Addr} (h:af (σ++List.replicate k none) (ρ++List.replicate k .un) a):af σ ρ a:=by
 obtain ⟨i,d,h1,h2⟩:=h
 obtain ⟨hi,h1⟩:=iZ h1 i6
 rw [List.getElem?_append_left (by rw [st.len];exact hi)] at h2
 exact ⟨i,d,h1,h2⟩
theorem Stp.aside {O:Addr→Prop} {H0 H H0' H':Hp} {D:Addr} {o:HO} (t:Stp O H0 H H0' H') (hD:H D=none):Stp O H0 H H0' (upd H' D o):=
 ⟨t.s0,fun a u e n=>by rw [aq (aM e hD)];exact t.s1 a u e n,t.s2,fun a u e=>by rw [aq (aM e hD)];exact t.s3 a u e⟩
theorem ESt.bO {σ:St} {ρ ρ':Dm.Env} {H0 H H0' H':Hp} (t:ESt σ ρ H0 H ρ' H0' H') {D:Addr} {o:HO} (h:H D=some o) (n0:H0 D=none) (no:¬ af σ ρ D):H' D=some o∧H0' D=none∧¬ af σ ρ' D:=by
 refine ⟨t.stp.s1 D o h no,?_,fun z=>no (t.own D z)⟩
 cases q:H0' D with
 | none=>rfl
 | some u=>
  rcases t.stp.s2 D u q with z | z | z
  ·rw [h] at z;cases z
  ·rw [n0] at z;cases z
  ·exact absurd z no
noncomputable def JWa (J:It) (H00:Hp) (pa:Option (Addr×HO)) (ys:List Dm.Dat):Prop:=∀ H0 H,aj H00 H0→aj H0 H→(∀ q,pa=some q→H q.1=some q.2)→(∀ i,ys.length≤i→J.stop i H) ∧
 ∀ (i:Nat) (d:Dm.Dat),ys[i]?=some d→J.go i H∧∀ x H',J.yld i H x H'→∃ H0',aD H0 H H0' H'∧Rep H0' x d
theorem qN {σ:St} {own:Nat} {bd:Dm.FB} {g:TG} {t:Dm.FT} {el:Dm.FE} {is:List Nat} {Q:VK} {H00 Hb:Hp} {ρ1 ρ2:Dm.Env} {ds ys:List Dm.Dat} {J:It} {pa:Option (Addr×HO)} (hb:BD is g bd) (hl:∀ i∈is,σ.length≤i)
  (st1:ao H00 Hb σ ρ1) (hp:∀ q,pa=some q→Hb q.1=some q.2∧H00 q.1=none∧¬ af σ ρ1 q.1) (jw:JWa J H00 pa ds) (hsz:ds.length≤Dm.SZ) (e2:Dm.eY bd t el ds (ρ1++List.replicate own .un) []=some (ys,ρ2))
  (k:∀ v H0' H',ESt σ ρ1 H00 Hb (ρ2.take ρ1.length) H0' H'→fm Hb H0' H' σ (ρ2.take ρ1.length) v (.new (.lst ys))→(∀ q,pa=some q→H' q.1=some q.2∧H0' q.1=none)→Q v H') (D:Addr) (hD:Hb D=none) :
  ∃ W:Nat→Nat→St→Hp→Prop,(∃ m,W 0 m (σ++List.replicate own none) (upd Hb D (.lst [])))∧∀ i m σ' H',W i m σ' H' →
  (J.stop i H'∧Q (.ref D) H')∨(J.go i H'∧∀ x H2,J.yld i H' x H2→g x σ' H2 fun σ2 H3=>tDT t σ2 H3 fun b H4=>if b=true
   then tD el σ2 H4 fun y H5=>∃ acc,H5 D=some (.lst acc)∧acc.length<sizeLine∧∃ m',m'<m∧W (i+1) m' σ2 (upd H5 D (.lst (acc++[y])))
   else ∃ m',m'<m∧W (i+1) m' σ2 H4):=by
 have hpD:∀ q,pa=some q→q.1≠D:=fun q e z=>by have:=(hp q e).1;rw [z,hD] at this;cases this
 have noD:¬ af σ ρ1 D:=st1.aZ hD
 refine ⟨fun i m σ' H'=>∃ (H0c:Hp) (ρc:Dm.Env) (xG:List Dm.Dat) (tP:List V),ao H0c H' σ' ρc∧aj H00 H0c∧m=ds.length-i∧i≤ds.length∧Dm.eY bd t el (ds.drop i) ρc xG=some (ys,ρ2) ∧
  H' D=some (.lst tP)∧ay H0c tP xG∧H0c D=none∧xG.length≤i∧Stp (af σ ρ1) H00 Hb H0c H'∧(∀ j,j<σ.length→σ'[j]?=σ[j]?)∧(∀ a,af σ' ρc a→af σ ρ1 a)∧(∀ j,Def ρ1 j→Def ρc j)∧(∀ q,pa=some q→H' q.1=some q.2∧H0c q.1=none∧¬ af σ' ρc q.1),
  ⟨ds.length,H00,ρ1++List.replicate own .un,[],[],(st1.aside (st1.same.free hD) noD).ext own,aj.refl _,by simp,Nat.zero_le _,by simpa using e2,au,.nil,st1.same.free hD,Nat.zero_le _,(Stp.refl _ _ _).aside hD,
   fun j hj=>List.getElem?_append_left hj,fun a z=>dW st1 z,fun j z=>trivial,fun q e=>⟨by rw [aq (hpD q e)];exact (hp q e).1,(hp q e).2.1,fun z=>(hp q e).2.2 (dW st1 z)⟩⟩,?_⟩
 rintro i m σ' H' ⟨H0c,ρc,xG,tP,sc,s00,rfl,hi,ec,hDl,ra,n0,hal,sp,hσ,ho,hdf,hpc⟩
 have nOc:¬ af σ' ρc D:=fun z=>noD (ho D z)
 obtain ⟨js,jg⟩:=jw H0c H' s00 sc.same fun q e=>(hpc q e).1
 by_cases hlt:i<ds.length
 ·have hd:ds[i]?=some ds[i]:=by simp [hlt]
  obtain ⟨g1,g2⟩:=jg i ds[i] hd
  rw [List.drop_eq_getElem_cons hlt] at ec
  unfold Dm.eY at ec
  refine .inr ⟨g1,fun y H2 yy=>?_⟩
  obtain ⟨H0',gr,rx⟩:=g2 y H2 yy
  split at ec
  ·cases ec
  rename_i ρ3 e3
  have t2:=ESt.grow sc gr
  obtain ⟨hD2,n02,no2⟩:=t2.bO hDl n0 nOc
  have hp2:=fun q e=>t2.bO (hpc q e).1 (hpc q e).2.1 (hpc q e).2.2
  refine hb H0' H2 σ' ρc ρ3 y ds[i] _ t2.st rx e3 fun σ3 st3 o3 k3 d3 _=>?_
  have no3:¬ af σ3 ρ3 D:=fun z=>no2 (o3 D z)
  have po3:∀ q,pa=some q→¬ af σ3 ρ3 q.1:=fun q e z=>(hp2 q e).2.2 (o3 q.1 z)
  have hσ3:∀ j,j<σ.length→σ3[j]?=σ[j]?:=fun j hj=>(k3 j fun z=>Nat.not_lt.mpr (hl j z) hj).trans (hσ j hj)
  have ho3:∀ a,af σ3 ρ3 a→af σ ρ1 a:=fun a z=>ho a (o3 a z)
  have JK:∀ j,Def ρ1 j→Def ρ3 j:=fun j z=>d3 j (hdf j z)
  have sp3:Stp (af σ ρ1) H00 Hb H0' H2:=sp.trans t2.stp fun a z=>.inl (ho a z)
  have ra3:=ra.mono gr.s0
  have s3:aj H00 H0':=s00.trans gr.s0
  split at ec
  ·cases ec
  ·rename_i ρ4 e4
   refine ⟨H0',ρ3,false,ρ4,st3,e4,fun zL H'' t4=>?_⟩
   dsimp only
   rw [if_neg Bool.false_ne_true]
   obtain ⟨hD4,n04,no4⟩:=t4.bO hD2 n02 no3
   have hp4:=fun q e=>t4.bO (hp2 q e).1 (hp2 q e).2.1 (po3 q e)
   exact ⟨ds.length-(i+1),by omega,zL,ρ4,xG,tP,t4.st,s3.trans t4.stp.s0,rfl,hlt,ec,hD4,ra3.mono t4.stp.s0,n04,Nat.le_succ_of_le hal,sp3.trans t4.stp fun a z=>.inl (ho3 a z),hσ3,fun a z=>ho3 a (t4.own a z),fun j z=>t4.dfn j (JK j z),hp4⟩
  ·rename_i ρ4 e4
   refine ⟨H0',ρ3,true,ρ4,st3,e4,fun zL H'' t4=>?_⟩
   dsimp only
   rw [if_pos rfl]
   obtain ⟨hD4,n04,no4⟩:=t4.bO hD2 n02 no3
   have hp4:=fun q e=>t4.bO (hp2 q e).1 (hp2 q e).2.1 (po3 q e)
   split at ec
   ·cases ec
   rename_i x5 ρ5 e5
   split at ec
   ·cases ec
   rename_i y6 ρ6 e6
   refine ⟨zL,ρ4,x5,ρ5,t4.st,e5,fun v H5 Hc t5 r5=>?_⟩
   obtain ⟨H6,t6,b6,r6,_,_⟩:=take1 t5 (aj.refl _) r5 e6
   obtain ⟨hD6,n06,no6⟩:=t6.bO hD4 n04 no4
   have hp6:=fun q e=>t6.bO (hp4 q e).1 (hp4 q e).2.1 (hp4 q e).2.2
   refine ⟨tP,hD6,?_,ds.length-(i+1),by omega,H6,ρ6,xG++[y6],tP++[v],t6.st.aside n06 no6,(s3.trans t4.stp.s0).trans t6.stp.s0,rfl,hlt,ec,au,?_,n06,?_,?_,hσ3,fun a z=>ho3 a (t4.own a (t6.own a z)),fun j z=>t6.dfn j (t4.dfn j (JK j z)),fun q e=>⟨by rw [aq (hpD q e)];exact (hp6 q e).1,(hp6 q e).2.1,(hp6 q e).2.2⟩⟩
   ·rw [ra.length]
    unfold Dm.SZ at hsz
    exact Nat.lt_of_le_of_lt (Nat.le_trans hal (Nat.le_trans (Nat.le_of_lt hlt) hsz)) (by decide)
   ·exact ((ra3.mono t4.stp.s0).mono t6.stp.s0).append (.cons r6 .nil)
   ·rw [List.length_append,List.length_singleton];omega
   ·exact ((sp3.trans t4.stp fun a z=>.inl (ho3 a z)).trans t6.stp fun a z=>.inl (ho3 a (t4.own a z))).aside hD
 ·have e':i=ds.length:=by omega
  subst e'
  rw [List.drop_length] at ec
  cases ec
  refine .inl ⟨js _ (Nat.le_refl _),k _ H0c H' ?_ ?_ fun q e=>⟨(hpc q e).1,(hpc q e).2.1⟩⟩
  ·have hlen:σ.length≤ρ2.length:=by
    rw [← sc.len]
    refine Nat.not_lt.mp fun z=>?_
    have q:=hσ σ'.length z
    rw [List.getElem?_eq_none (Nat.le_refl _),List.getElem?_eq_getElem z] at q
    cases q
   have tk:∀ {j:Nat} {c:Dm.Cell},(ρ2.take ρ1.length)[j]?=some c→j<σ.length∧ρ2[j]?=some c:=fun {j c} h=>by
    have hj:j<ρ1.length:=by
     have:=(List.getElem?_eq_some_iff.mp h).1
     rw [List.length_take] at this
     omega
    rw [List.getElem?_take_of_lt hj] at h
    exact ⟨by rw [st1.len];exact hj,h⟩
   have own':∀ a,af σ (ρ2.take ρ1.length) a→af σ' ρ2 a:=fun a ⟨j,d,h1,h2⟩=>by
    obtain ⟨hj,h1⟩:=tk h1
    exact ⟨j,d,h1,(hσ j hj).trans h2⟩
   refine ⟨⟨sc.same,?_,fun j d h=>?_,fun j d h=>?_,fun j j' d d' a h1 h2 h3 h4=>?_⟩,sp,fun a z=>ho a (own' a z),fun j z=>?_⟩
   ·rw [List.length_take,← st1.len];omega
   ·obtain ⟨hj,h⟩:=tk h
    obtain ⟨v,q,r⟩:=sc.sh j d h
    exact ⟨v,(hσ j hj).symm.trans q,r⟩
   ·obtain ⟨hj,h⟩:=tk h
    obtain ⟨v,q,r⟩:=sc.ow j d h
    exact ⟨v,(hσ j hj).symm.trans q,r⟩
   ·obtain ⟨hj,h1⟩:=tk h1
    obtain ⟨hj',h2⟩:=tk h2
    exact sc.dis j j' d d' a h1 h2 ((hσ j hj).trans h3) ((hσ j' hj').trans h4)
   ·trivial
  ·refine ⟨D,rfl,hD,fun ⟨j,d,h1,h2⟩=>?_,n0,tP,hDl,ra⟩
   have hj:j<ρ1.length:=by
    have:=(List.getElem?_eq_some_iff.mp h1).1
    rw [List.length_take] at this
    omega
   rw [List.getElem?_take_of_lt hj] at h1
   exact nOc ⟨j,d,h1,(hσ j (by rw [st1.len];exact hj)).trans h2⟩
theorem tQ {fi:Dm.FI} {own:Nat} {bd:Dm.FB} {g:TG} {t:Dm.FT} {el:Dm.FE} {is:List Nat} {Q:VK} (hb:BD is g bd) (hl:∀ i∈is,σ.length≤i) (h:tD (Dm.fF fi own bd t el) σ H Q) :
  tLC (tDI fi) own g (tDT t) (tD el) σ H Q:=by
 obtain ⟨H0,ρ,x,ρ',st,e,k⟩:=h
 unfold Dm.fF at e
 split at e
 ·cases e
 rename_i ds ρ1 e1
 split at e
 case isFalse=>cases e
 rename_i hsz
 split at e
 ·cases e
 rename_i ys ρ2 e2
 cases e
 refine ⟨H0,ρ,ds,ρ1,st,e1,fun J H00 Hb t1 jw D hD=>qN (pa:=none) hb hl t1.st (fun q e=>by cases e) (fun H0 H s0 s1 _=>jw H0 H s0 s1) hsz e2 (fun v H0' H' t2 r2 _=>k v H0' H' (t1.trans t2) (r2.early fun a n=>t1.stp.gone n)) D hD⟩
theorem aV {n m:Nat} {body:Dm.FS} {vs:List V} {H:Hp} {Q:VK} {E:XK} (h:spD (Dm.fn n m body) vs H Q E):vs.length=n:=by
 obtain ⟨H0,ds,z,s,rs,e,k⟩:=h
 unfold Dm.fn at e
 split at e
 ·rename_i hl
  rw [rs.length];exact hl
 ·cases e
theorem dh {N:List Str} {n m:Nat} {body:Dm.FS} {vs:List V} {Q:VK} {E:XK} (hm:N.length=n+m) (h:spD (Dm.fn n m body) vs H Q E) :
  tDS body { nx:=fun _ H'=>Q .non H',rt:=Q } (start N vs) H:=by
 have hvn:=aV h
 obtain ⟨H0,ds,z,s,rs,e,k⟩:=h
 have hl:=rs.length
 have no:∀ a,¬ af (start N vs) (ds.map Dm.Cell.sh++List.replicate m .un) a:=fun a ⟨i,d,h1,_⟩=>by
  by_cases hi:i<ds.length
  ·rw [List.getElem?_append_left (by simpa using hi),List.getElem?_map] at h1
   cases q:ds[i]? with
   | none=>rw [q] at h1;cases h1
   | some y=>rw [q] at h1;cases h1
  ·rw [List.getElem?_append_right (by simpa using hi),List.getElem?_replicate] at h1
   split at h1<;>cases h1
 have st:ao H0 H (start N vs) (ds.map Dm.Cell.sh++List.replicate m .un):=by
  refine ⟨s,?_,fun i d h=>?_,fun i d h=>?_,fun i j d e a h1 h2 _ _=>?_⟩
  ·unfold L2.start
   simp only [List.length_append,List.length_map,List.length_replicate]
   omega
  ·have hi:i<ds.length:=by
    by_cases hi:i<ds.length
    ·exact hi
    ·rw [List.getElem?_append_right (by simpa using hi),List.getElem?_replicate] at h
     split at h<;>cases h
   rw [List.getElem?_append_left (by simpa using hi),List.getElem?_map] at h
   cases q:ds[i]? with
   | none=>rw [q] at h;cases h
   | some y=>
    rw [q] at h
    cases h
    obtain ⟨v,hv,r⟩:=rs.get q
    refine ⟨v,?_,r⟩
    unfold L2.start
    rw [List.getElem?_append_left (by simpa [hl] using hi),List.getElem?_map,hv]
    rfl
  ·by_cases hi:i<ds.length
   ·rw [List.getElem?_append_left (by simpa using hi),List.getElem?_map] at h
    cases q:ds[i]? with
    | none=>rw [q] at h;cases h
    | some y=>rw [q] at h;cases h
   ·rw [List.getElem?_append_right (by simpa using hi),List.getElem?_replicate] at h
    split at h<;>cases h
  ·by_cases hi:i<ds.length
   ·rw [List.getElem?_append_left (by simpa using hi),List.getElem?_map] at h1
    cases q:ds[i]? with
    | none=>rw [q] at h1;cases h1
    | some y=>rw [q] at h1;cases h1
   ·rw [List.getElem?_append_right (by simpa using hi),List.getElem?_replicate] at h1
    split at h1<;>cases h1
 have gr:∀ {H0' H'},Stp (af (start N vs) (ds.map Dm.Cell.sh++List.replicate m .un)) H0 H H0' H'→aj H0' H'→aD H0 H H0' H':=fun {H0' H'} t ss=>
  ⟨t.s0,fun a o e=>t.s1 a o e (no a),fun a o e=>(t.s2 a o e).imp id fun q=>q.elim id fun z=>absurd z (no a),ss⟩
 unfold Dm.fn at e
 rw [if_pos (by rw [← hl];exact hvn)] at e
 split at e
 ·rename_i r ρ' e1
  cases e
  refine ⟨H0,_,_,st,e1,fun σ' v H0' H' t r _=>k v H0' H' (gr t.stp t.st.same) ?_⟩
  cases z with
  | val d=>exact r
  | new d=>
   obtain ⟨a,e,n,n0,w⟩:=r
   exact ⟨a,e,n.elim id fun z=>absurd z (no a),n0,w⟩
 ·rename_i ρ' e1
  cases e
  exact ⟨H0,_,_,st,e1,fun σ' H0' H' t=>k _ H0' H' (gr t.stp t.st.same) .non⟩
 ·cases e
end
open PySem PySem.Spec PyProof.Rows L2
noncomputable def br (X:Cx) (nm:List Str) (scope:Scope) (own:List Str) (cl:List (Str×Addr)) (C:Addr) (s:Shared) (H:Hp) (fp:List Addr):Cx where
 prog:=X.prog
 w:=X.w
 K:=X.K
 mg:=X.mg
 base:=X.base
 A:=X.A
 N:=nm++own
 s₀:=s
 H₀:=H
 env:=compEnvC scope cl C X.env
 outer:=X.stack
 stack:=X.stack
 ex:=fp
 fn:=fun _=>false
 calm:=X.calm
 pn:=[]
 xe:=fun _ _=>False
noncomputable def PTs (X:Cx) (ifs:List Expr) (t:TT):Prop:=
 ∀ (pins:List (Addr×Obj)) (s:Shared) (σ:L2.St) (H:Hp) (Q:Bool→Hp→Prop),Inv X pins σ H s→t σ H Q →
  wpAny (model X.prog X.w) X.A (forIn ifs true fun c r=>if r=true then do let ok ← isTrue c X.env (eval c X.env);pure (ForInStep.yield ok) else pure (ForInStep.yield r)) (TP X pins σ Q) X.xe s
noncomputable def tR:TT:=fun _ H Q=>Q true H
theorem pI {X:Cx}:PTs X [] tR:=fun pins s σ H Q I h=>wpAny_tests_nil ⟨H,I,h⟩
theorem CQ {X:Cx} {c:Expr} {t:TT} (h:PT X c t):PTs X [c] t:=fun pins s σ H Q I hq=>wpAny_tests_one (h pins s σ H Q I hq)
theorem dP (env:Env):∀ (names:List (Str×NameKind)) (cs:List (Str×Addr)),(∀ y∈names,y.2=.free→∃ c,env.cells.lookup y.1=some c) →
  ∃ cl,(forIn names cs fun (x:Str×NameKind) (r:List (Str×Addr))=>(if (x.2 == NameKind.free)=true then do let c ← cellOf env x.1;pure (ForInStep.yield ((x.1,c)::r)) else pure (ForInStep.yield r):Sem (ForInStep (List (Str×Addr)))))=pure cl ∧
   (∀ x c,cl.lookup x=some c→env.cells.lookup x=some c∨cs.lookup x=some c)∧(∀ y∈names,y.2=.free→∃ c,cl.lookup y.1=some c)∧(∀ x c,cs.lookup x=some c→∃ c',cl.lookup x=some c')
 | [],cs,_=>⟨cs,rfl,fun _ _ h=>.inr h,fun _ h=>(nomatch h),fun _ c h=>⟨c,h⟩⟩
 | (n,k)::r,cs,h=>by
  have hr:∀ y∈r,y.2=.free→∃ c,env.cells.lookup y.1=some c:=fun y hy=>h y (List.mem_cons_of_mem _ hy)
  by_cases hk:k=.free
  ·subst hk
   obtain ⟨c,hc⟩:=h (n,.free) List.mem_cons_self rfl
   obtain ⟨cl,e,h1,h2,h3⟩:=dP env r ((n,c)::cs) hr
   refine ⟨cl,?_,fun x c' q=>?_,fun y hy hf=>?_,fun x c' q=>?_⟩
   ·rw [List.forIn_cons]
    have e1:cellOf env n=pure c:=by unfold cellOf;rw [hc]
    simp only [beq_self_eq_true,if_true,e1,pure_bind]
    exact e
   ·rcases h1 x c' q with z | z
    ·exact .inl z
    ·rw [List.lookup_cons] at z
     cases hx:x == n with
     | true=>
      rw [hx] at z
      have:x=n:=by simpa using hx
      subst this
      injection z with z
      subst z
      exact .inl hc
     | false=>rw [hx] at z;exact .inr z
   ·rcases List.mem_cons.mp hy with rfl | hy
    ·exact h3 n c (by rw [List.lookup_cons,beq_self_eq_true])
    ·exact h2 y hy hf
   ·by_cases hx:x=n
    ·subst hx
     exact h3 x c (by rw [List.lookup_cons,beq_self_eq_true])
    ·have hx':(x == n)=false:=by simpa using hx
     exact h3 x c' (by rw [List.lookup_cons,hx'];exact q)
  ·have hb:(k == NameKind.free)=false:=by simpa using hk
   obtain ⟨cl,e,h1,h2,h3⟩:=dP env r cs hr
   refine ⟨cl,?_,h1,fun y hy hf=>?_,h3⟩
   ·rw [List.forIn_cons]
    simp only [hb,Bool.false_eq_true,if_false,pure_bind]
    exact e
   ·rcases List.mem_cons.mp hy with rfl | hy
    ·exact absurd hf hk
    ·exact h2 y hy hf
theorem lz {env:Env} {scope:Scope} (h:∀ y∈scope.names,y.2=.free→∃ c,env.cells.lookup y.1=some c) :
  ∃ cl,closureFor scope env=pure cl∧(∀ x c,cl.lookup x=some c→env.cells.lookup x=some c)∧∀ y∈scope.names,y.2=.free→∃ c,cl.lookup y.1=some c:=by
 obtain ⟨cl,e,h1,h2,_⟩:=dP env scope.names [] h
 refine ⟨cl,?_,fun x c q=>(h1 x c q).elim id fun z=>by simp at z,h2⟩
 unfold closureFor
 have e':(forIn scope.names ([]:List (Str×Addr)) fun (x:Str×NameKind) (r:List (Str×Addr))=>(if (x.2 == NameKind.free)=true then do let c ← cellOf env x.1;pure (ForInStep.yield ((x.1,c)::r)) else pure (ForInStep.yield r):Sem (ForInStep (List (Str×Addr)))))=pure cl:=e
 first
  | (rw [show (forIn scope.names ([]:List (Str×Addr)) _:Sem (List (Str×Addr)))=pure cl from e'];rfl)
  | (simp only [e'];rfl)
theorem pJ {prog:Program} {w:World} {A:Around} {R:Result→Shared→Prop} {s:Shared} {elt target iter:Expr} {ifs:List Expr} {scope:Scope} {pos:Pos} {it acc:Value} {env:Env} (I:Nat→Shared→Prop)
  (turn:∀ n s,I n s→wpAny (model prog w) A (pyNext it) (fun r s₁=>match r with
   | none=>R (.ok .next) s₁
   | some v=>wpAny (model prog w) A (letOwnedTupleGo target it v) (fun _ s₁'=>wpAny (model prog w) A (assign target env v) (fun _ s₂=>
     wpAny (model prog w) A (forIn ifs true fun c r=>if r=true then do let ok ← isTrue c env (eval c env);pure (ForInStep.yield ok) else pure (ForInStep.yield r)) (fun ok s₃=>
      if ok=true then wpAny (model prog w) A (eval elt env) (fun x s₄=>
       wpAny (model prog w) A (call (.builtin "list.append") [acc,x]) (fun _ s₅=>∃ m,m<n∧I m s₅) (fun _ _=>False) s₄) (fun _ _=>False) s₃
      else ∃ m,m<n∧I m s₃) (fun _ _=>False) s₂) (fun _ _=>False) s₁') (fun _ _=>False) s₁) (fun _ _=>False) s)
  (n:Nat) (h:I n s) :
  codeAny (model prog w) A (.compLoop (.ListComp elt [⟨target,iter,ifs,0⟩] scope pos) 0 it acc env) R s:=by
 have no:∀ {P:Value→Shared→Prop} (x:Value) (s':Shared),False→P x s':=fun _ _ f=>f.elim
 refine codeAny_loop rfl I (fun n s hI=>?_) n h
 show wpAny _ A ((compTurn (.ListComp elt [⟨target,iter,ifs,0⟩] scope pos) 0 it acc env).onRaise (fun x=>do noteFrame x env;theTreesLotGoes x)) _ _ s
 refine wpAny_noted ?_
 rw [compTurn_list]
 refine wpAny_bind (wpAny_standAt (wpAny_bind (wpAny_mono (turn n s hI) (fun r s₁ h₁=>?_) no)))
 cases r with
 | none=>exact wpAny_pure h₁
 | some v=>
  refine wpAny_bind (wpAny_mono h₁ (fun _ s₁' h₁'=>?_) no)
  refine wpAny_bind (wpAny_mono h₁' (fun _ s₂ h₂=>wpAny_bind (wpAny_mono h₂ (fun ok s₃ h₃=>?_) no)) no)
  cases ok with
  | false=>exact wpAny_pure ⟨rfl,h₃⟩
  | true=>
   exact wpAny_bind (wpAny_bind (wpAny_mono h₃ (fun x s₄ h₄=>wpAny_bind (wpAny_mono h₄ (fun _ s₅ h₅=>wpAny_pure (wpAny_pure ⟨rfl,h₅⟩)) no)) no))
theorem cC (env:Env):∀ (names:List (Str×NameKind)) (x:Str) (k:NameKind),
  (names.map fun (n,k)=>if (k == NameKind.free&&env.scope.kind == .function&&env.kindOf n == some .cell) then (n,NameKind.cell) else (n,k)).lookup x=some k →
  ∃ k0,names.lookup x=some k0∧(k=k0∨(k0=.free∧k=.cell))
 | [],x,k,h=>by simp at h
 | (n,k1)::r,x,k,h=>by
  have h:List.lookup x ((if (k1 == NameKind.free&&env.scope.kind == .function&&env.kindOf n == some .cell)=true then (n,NameKind.cell) else (n,k1))::r.map fun (n,k)=>if (k == NameKind.free&&env.scope.kind == .function&&env.kindOf n == some .cell) then (n,NameKind.cell) else (n,k))=some k:=h
  cases hx:x == n with
  | true=>
   by_cases hc:(k1 == NameKind.free&&env.scope.kind == .function&&env.kindOf n == some .cell)=true
   ·rw [if_pos hc,List.lookup_cons,hx] at h
    injection h with h
    have hk:k1=.free:=by
     simp only [Bool.and_eq_true,beq_iff_eq] at hc
     exact hc.1.1
    exact ⟨k1,by rw [List.lookup_cons,hx],.inr ⟨hk,h.symm⟩⟩
   ·rw [if_neg hc,List.lookup_cons,hx] at h
    injection h with h
    exact ⟨k1,by rw [List.lookup_cons,hx],.inl h.symm⟩
  | false=>
   by_cases hc:(k1 == NameKind.free&&env.scope.kind == .function&&env.kindOf n == some .cell)=true
   ·rw [if_pos hc,List.lookup_cons,hx] at h
    obtain ⟨k0,e,z⟩:=cC env r x k h
    exact ⟨k0,by rw [List.lookup_cons,hx];exact e,z⟩
   ·rw [if_neg hc,List.lookup_cons,hx] at h
    obtain ⟨k0,e,z⟩:=cC env r x k h
    exact ⟨k0,by rw [List.lookup_cons,hx];exact e,z⟩
structure di (X:Cx) (nm:List Str) (scope:Scope):Prop where
 kind:scope.kind=.function
 cell:∀ y∈scope.names,y.2≠.cell
 names:∀ y∈scope.names,y.2=.local→scope.names.lookup y.1=some .local
 free:∀ y∈scope.names,y.2=.free→X.env.kindOf y.1=some .cell∨X.env.kindOf y.1=some .free
 apart:∀ x∈nm,scope.names.lookup x≠some .local
 len:nm.length=X.N.length
 mask:∀ (i:Nat) (x:Str),nm[i]?=some x→X.N[i]?=some x∨scope.names.lookup x=none
section
variable {X:Cx} {nm:List Str} {elt tg iter:Expr} {ifs:List Expr} {scope:Scope} {pos:Pos} {own:List Str} {wi:TI} {g:TG} {tt:TT} {te:TE}
theorem nY {pins:List (Addr×Obj)} {s2:Shared} {σ:L2.St} {H2:Hp} {cl:List (Str×Addr)} {it:Addr} {fp:List Addr} {tn:Nat→Heap→Prop} {J:It} {Q:VK} {E:Value→Shared→Prop} {RR:Value→Addr→Result→Shared→Prop}
  (hc:X.calm=true) (S:di X nm scope) (lA:∀ x c,cl.lookup x=some c→X.env.cells.lookup x=some c) (xH:∀ y∈scope.names,y.2=.free→∃ c,cl.lookup y.1=some c)
  (hg:∀ cl C s H fp,PG (br X nm scope own cl C s H fp) tg g) (ht:∀ cl C s H fp,PTs (br X nm scope own cl C s H fp) ifs tt) (he:∀ cl C s H fp,PE (br X nm scope own cl C s H fp) elt te)
  (I2:Inv X pins σ H2 s2) (T:Turn X.prog X.w X.K tg J fp it tn) (st2:tn 0 s2.heap) (f2:∀ b∈fp,qC X pins H2 b)
  (hR:∀ D,H2 D=none→∃ W:Nat→Nat→L2.St→Hp→Prop,
   (∃ m,W 0 m (σ++List.replicate own.length none) (upd H2 D (.lst [])))∧∀ i m σ' H',W i m σ' H' →
    (J.stop i H'∧Q (.ref D) H')∨(J.go i H'∧∀ x H2,J.yld i H' x H2→g x σ' H2 fun σ2 H3=>tt σ2 H3 fun b H4=>if b=true
     then te σ2 H4 fun y H5=>∃ acc,H5 D=some (.lst acc)∧acc.length<sizeLine∧∃ m',m'<m∧W (i+1) m' σ2 (upd H5 D (.lst (acc++[y])))
     else ∃ m',m'<m∧W (i+1) m' σ2 H4))
  (Ly:∀ D C H6 s6,Inv X pins σ H6 s6→H6 C=none→C≠X.env.locals→X.s₀.heap.objs.size≤C→(∀ x c,X.env.cells.lookup x=some c→c≠C)→(∀ p∈X.pn++pins,p.1≠C)→(∃ m,s6.heap.Ns C m)→Q (.ref D) H6→RR (.ref D) C (.ok .next) s6) :
  wpAny (model X.prog X.w) X.A (newList []) (fun acc s₃=>wpAny (model X.prog X.w) X.A (newFunctionEnv scope X.env.globals cl [] X.env.qual none .none (some X.env)) (fun cenv s₄=>
   codeAny (model X.prog X.w) X.A (.compStart (.ListComp elt [⟨tg,iter,ifs,0⟩] scope pos) 0 (.ref it) acc { cenv with scope:=relabel scope X.env }) (RR acc cenv.locals) s₄) E s₃) E s2:=by
 have no:∀ {P:Value→Shared→Prop} (x:Value) (s':Shared),False→P x s':=fun _ _ f=>f.elim
 refine wpAny_newObj_type (wpAny_newFunctionEnv S.cell (by intro y hy;simp at hy) (fun h₁ hns₁ hsb₁=>?_) S.kind)
 dsimp only at hns₁ hsb₁ ⊢
 have I3:Inv X pins σ (upd H2 s2.heap.objs.size (.lst [])) { s2 with heap:=s2.heap.push { cls:=.type "list",dict:=none,data:=.seq ([]:List Value).toArray } }:=I2.Gz (t':=s2.toks) (ys:=[]) (its:=[]) .nil (Nat.zero_le _)
 generalize hG2:s2.heap.push { cls:=.type "list",dict:=none,data:=.seq ([]:List Value).toArray }=G2 at hns₁ hsb₁ I3 ⊢
 have hC:G2.objs.size=s2.heap.objs.size+1:=by rw [← hG2,Heap.size_push]
 have up2:∀ b o,s2.heap.get? b=some o→G2.get? b=some o:=fun b o e=>hG2▸Heap.get?_push_of_some _ e
 have up3:∀ b o,G2.get? b=some o→h₁.get? b=some o:=fun b o e=>hsb₁.extBut b o (Nat.ne_of_lt (Heap.lt_size e)) (Heap.get?_push_of_some _ e)
 have Lz:G2.get? G2.objs.size=none:=Heap.get?_none_of_le (Nat.le_refl _)
 have fpo:∀ b∈fp,∃ o,s2.heap.get? b=some o:=fun b hb=>by
  obtain ⟨o,e,_⟩:=T.obj 0 _ st2 b hb
  exact ⟨o,e⟩
 have fpC:∀ b∈fp,b≠G2.objs.size:=fun b hb=>by
  obtain ⟨o,e⟩:=fpo b hb
  exact Nat.ne_of_lt (Heap.lt_size (up2 b o e))
 have H3C:(upd H2 s2.heap.objs.size (.lst [])) G2.objs.size=none:=I3.hok.fresh (Nat.le_refl _)
 have fpD:∀ b∈fp,b≠s2.heap.objs.size:=fun b hb=>by
  obtain ⟨o,e⟩:=fpo b hb
  exact Nat.ne_of_lt (Heap.lt_size e)
 have JL:∀ b∈fp,b∉frs X.stack:=fun b hb z=>by
  rcases List.mem_cons.mp (I3.sY b z) with y | y
  ·exact (f2 b hb).2.1 y
  ·exact (f2 b hb).2.2.1 y
 have ok':(br X nm scope own cl G2.objs.size { s2 with heap:=G2 } (upd H2 s2.heap.objs.size (.lst [])) fp).Ok:=by
  refine ⟨I3.ok.mod,S.kind,I3.ok.glob,I3.ok.blt,Nat.le_refl _,fun x y c e1 e2=>I3.ok.inj x y c (lA x c e1) (lA y c e2),fun x hx=>?_,fun x c z=>(nomatch z),I3.ok.hd,I3.ok.frames,.inl rfl,
   fun b hb=>⟨fpC b hb,fun x c e=>(f2 b hb).2.2.2.2.1 x c (lA x c e)⟩,fun b o e=>I3.bs b o e,Nat.le_trans I3.ok.bsz I3.sz,fun b o e hb=>?_,fun b hb=>JL b hb,I3.stack,I3.u9⟩
  ·have hx:(relabel scope X.env).names.lookup x=some .cell∨(relabel scope X.env).names.lookup x=some .free:=hx
   have key:∀ k,(relabel scope X.env).names.lookup x=some k→k≠.local→k=.cell∨k=.free→∃ c,cl.lookup x=some c:=fun k hk _ hkk=>by
    obtain ⟨k0,e0,z⟩:=cC X.env scope.names x k hk
    have m0:=PySem.mem_of_lookup e0
    have f0:k0=.free:=by
     rcases z with z | z
     ·subst z
      rcases hkk with q | q
      ·exact absurd q (S.cell _ m0)
      ·exact q
     ·exact z.1
    exact xH (x,k0) m0 f0
   rcases hx with hx | hx
   ·exact key _ hx (by decide) (.inl rfl)
   ·exact key _ hx (by decide) (.inr rfl)
  ·rcases (f2 b hb).2.2.2.1 with z | z
   ·exact I3.ok.yK b o e z
   ·exact absurd (Nat.lt_of_lt_of_le (Heap.lt_size e) (Nat.le_trans I3.ok.bsz z)) (Nat.lt_irrefl _)
 have stat:∀ {H':Hp},(∀ b∈fp,H' b=none)→∀ b∈fp,qC (br X nm scope own cl G2.objs.size { s2 with heap:=G2 } (upd H2 s2.heap.objs.size (.lst [])) fp) [] H' b:=fun hn b hb=>
  ⟨hn b hb,fpC b hb,JL b hb,.inl hb,fun x c e=>(f2 b hb).2.2.2.2.1 x c (lA x c e),fun p hp=>(nomatch (show p∈([]:List (Addr×Obj)) from hp))⟩
 have I4:Inv (br X nm scope own cl G2.objs.size { s2 with heap:=G2 } (upd H2 s2.heap.objs.size (.lst [])) fp) [] (σ++List.replicate own.length none) (upd H2 s2.heap.objs.size (.lst [])) { s2 with heap:=h₁,toks:=s2.toks+([]:List (Str×Value)).length }:=by
  refine ⟨ok',rfl,I3.bare,Un.kept up3,⟨_,hns₁,fun i x v e1 e2 e3=>?_⟩,fun x c e=>?_,H3C,fun x c e=>I3.gG x c (lA x c e),fun p hp=>(nomatch (show p∈([]:List (Addr×Obj)) from hp)),I3.hok.kept up3,?_⟩
  ·have e1:(nm++own)[i]?=some x:=e1
   have hi:i<σ.length:=by
    by_cases hi:i<σ.length
    ·exact hi
    ·rw [List.getElem?_append_right (Nat.not_lt.mp hi),List.getElem?_replicate] at e2
     split at e2<;>cases e2
   rw [List.getElem?_append_left hi] at e2
   rw [List.getElem?_append_left (by rw [S.len,← I3.len];exact hi)] at e1
   have key:∀ k,(relabel scope X.env).names.lookup x=some k→k=.local∨k=.cell∨k=.free→scope.names.lookup x=some .free∧(k=.cell∨k=.free):=fun k hk hkk=>by
    obtain ⟨k0,e0,z⟩:=cC X.env scope.names x k hk
    have m0:=PySem.mem_of_lookup e0
    have n1:k0≠.local:=fun y=>S.apart x (List.mem_of_getElem? e1) (y▸e0)
    have n2:k0≠.cell:=S.cell _ m0
    rcases z with z | z
    ·subst z
     rcases hkk with q | q | q
     ·exact absurd q n1
     ·exact absurd q n2
     ·subst q;exact ⟨e0,.inr rfl⟩
    ·obtain ⟨z1,z2⟩:=z
     subst z1;subst z2
     exact ⟨e0,.inl rfl⟩
   have hk:∃ k,(relabel scope X.env).names.lookup x=some k∧(k=.cell∨k=.free)∧scope.names.lookup x=some .free:=by
    rcases (show (relabel scope X.env).names.lookup x=some .local∨(relabel scope X.env).names.lookup x=some .cell∨(relabel scope X.env).names.lookup x=some .free from e3) with q | q | q
    ·obtain ⟨a,b⟩:=key _ q (.inl rfl);exact ⟨_,q,b,a⟩
    ·obtain ⟨a,b⟩:=key _ q (.inr (.inl rfl));exact ⟨_,q,b,a⟩
    ·obtain ⟨a,b⟩:=key _ q (.inr (.inr rfl));exact ⟨_,q,b,a⟩
   obtain ⟨k,hk1,hk2,hk3⟩:=hk
   have m0:=PySem.mem_of_lookup hk3
   obtain ⟨c,hcc⟩:=xH (x,.free) m0 rfl
   obtain ⟨m,hn,hl⟩:=I3.loc
   have hout:=S.free (x,.free) m0 rfl
   have LA:Vis X.env.scope x:=by
    rcases hout with q | q
    ·exact .inr (.inl q)
    ·exact .inr (.inr q)
   have e1':X.N[i]?=some x:=by
    rcases S.mask i x e1 with z | z
    ·exact z
    ·rw [z] at hk3;cases hk3
   obtain ⟨u,ru,lk⟩:=hl i x v e1' e2 LA
   refine ⟨u,ru,.inr ⟨?_,c,hcc,?_⟩⟩
   ·rcases hk2 with q | q
    ·subst q;exact .inl hk1
    ·subst q;exact .inr hk1
   ·rcases lk with ⟨q,_⟩ | ⟨_,c',e',z⟩
    ·rcases hout with y | y
     ·rw [q] at y;cases y
     ·rw [q] at y;cases y
    ·rw [lA x c hcc] at e'
     cases e'
     obtain ⟨o,ho,hd⟩:=z
     exact ⟨o,up3 c o ho,hd⟩
  ·obtain ⟨v,o,ho,hd⟩:=I3.cell x c (lA x c e)
   exact ⟨v,o,up3 c o ho,hd⟩
  ·show (σ++List.replicate own.length none).length=(nm++own).length
   rw [List.length_append,List.length_append,List.length_replicate,I3.len,S.len]
 obtain ⟨W,⟨m0,w0⟩,turn⟩:=hR s2.heap.objs.size I2.fresh
 have st4:tn 0 h₁:=T.keep 0 _ _ st2 fun b hb o e=>up3 b o (up2 b o e)
 have LB:∀ b∈fp,(upd H2 s2.heap.objs.size (.lst [])) b=none:=fun b hb=>by rw [aq (fpD b hb)];exact (f2 b hb).1
 have loop:∀ s₃:Shared,s₃={ s2 with heap:=h₁,toks:=s2.toks+([]:List (Str×Value)).length } →
   codeAny (model X.prog X.w) X.A (.compLoop (.ListComp elt [⟨tg,iter,ifs,0⟩] scope pos) 0 (.ref it) (.ref s2.heap.objs.size) (compEnvC scope cl G2.objs.size X.env))
    (RR (.ref s2.heap.objs.size) G2.objs.size) s₃:=by
  rintro s₃ rfl
  refine pJ (fun n s'=>∃ i σ' H',Inv (br X nm scope own cl G2.objs.size { s2 with heap:=G2 } (upd H2 s2.heap.objs.size (.lst [])) fp) [] σ' H' s'∧tn i s'.heap∧(∀ b∈fp,H' b=none)∧W i n σ' H') ?_ m0
   ⟨0,_,_,I4,st4,LB,w0⟩
  rintro n s5 ⟨i,σ5,H5,I5,st5,fr5,w5⟩
  rcases turn i n σ5 H5 w5 with ⟨stop,q⟩ | ⟨go,step⟩
  ·refine wpAny_mono (T.done (br X nm scope own cl G2.objs.size { s2 with heap:=G2 } (upd H2 s2.heap.objs.size (.lst [])) fp) rfl rfl rfl hc i [] s5 σ5 H5 (fun _ _=>False) I5 (stat fr5) st5 stop) (fun r s6 hr6=>?_) no
   obtain ⟨hr,I6⟩:=hr6
   subst hr
   have I7:Inv X pins σ H5 s6:=I3.Ja (ch:=fp) I6.os I6.base I6.hok I6.bare fun b hb=>⟨(f2 b hb).2.2.2.1,(f2 b hb).2.1,(f2 b hb).2.2.2.2.1,(f2 b hb).2.2.2.2.2⟩
   refine Ly _ _ H5 s6 I7 I6.free (Nat.ne_of_gt (show X.env.locals<G2.objs.size from I3.lt)) I3.sz (fun x c e=>?_) (fun p hp=>?_) (let ⟨m,hn,_⟩:=I6.loc;⟨m,hn⟩) q
   ·obtain ⟨v,z⟩:=I3.cell x c e
    exact Nat.ne_of_lt z.lt
   ·exact Nat.ne_of_lt (Heap.lt_size (I3.pin p hp).1)
  ·refine wpAny_mono (T.item (br X nm scope own cl G2.objs.size { s2 with heap:=G2 } (upd H2 s2.heap.objs.size (.lst [])) fp) rfl rfl rfl hc i [] s5 σ5 H5 (fun _ _=>False) I5 (stat fr5) st5 go) (fun r s6 hr6=>?_) no
   obtain ⟨u,hr,h6⟩:=hr6
   subst hr
   refine wpAny_mono h6 (fun _ s7 h7=>?_) no
   obtain ⟨x,H7,I7,r7,y7,st7,fr7⟩:=h7
   have I7':=I7.pinned (stat fr7) (T.obj _ _ st7)
   have again:∀ {s9:Shared} {σ9:L2.St} {H9:Hp} {m':Nat},m'<n→Inv (br X nm scope own cl G2.objs.size { s2 with heap:=G2 } (upd H2 s2.heap.objs.size (.lst [])) fp) ([]++kY fp s7.heap) σ9 H9 s9→W (i+1) m' σ9 H9 →
     ∃ m,m<n∧∃ i σ' H',Inv (br X nm scope own cl G2.objs.size { s2 with heap:=G2 } (upd H2 s2.heap.objs.size (.lst [])) fp) [] σ' H' s9∧tn i s9.heap∧(∀ b∈fp,H' b=none)∧W i m σ' H':=fun {s9 σ9 H9 m'} hm I9 w9=>by
    refine ⟨m',hm,i+1,σ9,H9,I9.iO,T.keep _ _ _ st7 fun b hb o e=>(I9.pin (b,o) (List.mem_append_right _ (List.mem_append_right _ (eu hb e)))).1,fun b hb=>?_,w9⟩
    obtain ⟨o,e,d⟩:=T.obj _ _ st7 b hb
    exact (I9.pin (b,o) (List.mem_append_right _ (List.mem_append_right _ (eu hb e)))).2.1
   refine wpAny_mono (hg cl G2.objs.size _ _ fp _ s7 σ5 H7 x u _ I7' r7 (step x H7 y7)) (fun _ s8 h8=>?_) no
   obtain ⟨σ8,H8,I8,q8⟩:=h8
   refine wpAny_mono (ht cl G2.objs.size _ _ fp _ s8 σ8 H8 _ I8 q8) (fun b s9 h9=>?_) no
   obtain ⟨H9,I9,q9⟩:=h9
   cases b with
   | false=>
    rw [if_neg Bool.false_ne_true] at q9 ⊢
    obtain ⟨m',hm,w9⟩:=q9
    exact again hm I9 w9
   | true=>
    rw [if_pos rfl] at q9 ⊢
    refine wpAny_mono (he cl G2.objs.size _ _ fp _ s9 σ8 H9 _ I9 q9) (fun y s10 h10=>?_) no
    obtain ⟨yv,H10,I10,r10,acc,hacc,hlen,m',hm,w10⟩:=h10
    refine wpAny_mono (dQ (X:=br X nm scope own cl G2.objs.size { s2 with heap:=G2 } (upd H2 s2.heap.objs.size (.lst [])) fp) _ s10 σ8 H10 (.ref s2.heap.objs.size) [yv] (.ref s2.heap.objs.size) [y] (fun _ H'=>H'=upd H10 s2.heap.objs.size (.lst (acc++[yv]))) I10 rfl (.cons r10 .nil) ⟨_,acc,yv,rfl,rfl,hacc,hlen,rfl⟩) (fun _ s11 h11=>?_) no
    obtain ⟨_,H11,I11,_,e11⟩:=h11
    subst e11
    exact again hm I11 w10
 exact codeAny_compStart_list (loop _ rfl) (T.self _ 0 _ _ _ st4 (loop _ rfl))
theorem vq (hc:X.calm=true) (S:di X nm scope) (hi:PI X tg iter wi)
  (hg:∀ cl C s H fp,PG (br X nm scope own cl C s H fp) tg g) (ht:∀ cl C s H fp,PTs (br X nm scope own cl C s H fp) ifs tt) (he:∀ cl C s H fp,PE (br X nm scope own cl C s H fp) elt te)
  (hs:∀ x,foldedSetIterable iter X.env x=pure x:=by intro _;rfl):PE X (.ListComp elt [⟨tg,iter,ifs,0⟩] scope pos) (tLC wi own.length g tt te):=by
 intro pins s σ H Q I h
 obtain ⟨cl,hclos,lA,xH⟩:=lz (env:=X.env) (scope:=scope) fun y hy hf=>I.ok.has y.1 (S.free y hy hf)
 rw [eval_ListComp]
 refine wpAny_comprehension_free (use:=none) rfl hs hclos S.kind S.names (thn (hi pins s σ H _ I h) fun v s1 h1=>thn h1 fun itv s2 h2=>?_)
 obtain ⟨it,fp,tn,J,H2,e,I2,T,st2,f2,hR⟩:=h2
 subst e
 refine nY (Q:=Q) (RR:=fun acc C=>compPost (model X.prog X.w) X.A X.xe none (EP X pins σ Q) acc C) hc S lA xH hg ht he I2 T st2 f2 hR ?_
 intro D C H6 s6 I6 hCn hCL hCs hCc hCp hns q
 obtain ⟨m,hn⟩:=hns
 refine ⟨m,hn,fun h' hs'=>⟨.ref D,H6,I6.turned (t':=s6.toks) (fun b o hb e=>(hs'.2 b hb).trans e) hCn hCL (.inr hCs) hCc hCp,rfl,q⟩⟩
theorem fN {i:Nat} {y:Str} {py spos:Pos} (hN:X.N.Nodup) (hi':X.N[i]?=some y) (hy:Loc X.env.scope y) (hc:X.calm=true) (S:di X nm scope) (hi:PI X tg iter wi)
  (hg:∀ cl C s H fp,PG (br X nm scope own cl C s H fp) tg g) (ht:∀ cl C s H fp,PTs (br X nm scope own cl C s H fp) ifs tt) (he:∀ cl C s H fp,PE (br X nm scope own cl C s H fp) elt te)
  (hsw:swapsWith (.ListComp elt [⟨tg,iter,ifs,0⟩] scope pos) (some (.Name y py)) spos.line X.env=pure true:=by rfl)
  (hs:∀ x,foldedSetIterable iter X.env x=pure x:=by intro _;rfl) (hf:X.fn y=true∨X.env.scope.names.lookup y=some .local:=by first | exact .inl rfl | exact .inr rfl | assumption) :
  PS X (.Assign [.Name y py] (.ListComp elt [⟨tg,iter,ifs,0⟩] scope pos) spos) (iN (tLC wi own.length g tt te) (cE i)):=by
 intro pins s σ H Dn I h
 obtain ⟨cl,hclos,lA,xH⟩:=lz (env:=X.env) (scope:=scope) fun y hy hf=>I.ok.has y.1 (S.free y hy hf)
 rw [exec_Assign_Name_used _ _ _ _ hsw]
 refine wpAny_bind (wpAny_standAt (wpAny_bind ?_))
 show wpAny _ X.A (do let _ ← comprehension (.ListComp elt [⟨tg,iter,ifs,0⟩] scope pos) scope X.env _ (newList []) false (eval iter X.env) (some (assign (.Name y py) X.env))) _ _ s
 refine wpAny_bind (wpAny_mono (wpAny_comprehension_free (use:=some (assign (.Name y py) X.env)) (Q:=fun _ s'=>SP X pins Dn .next s') rfl hs hclos S.kind S.names
  (thn (hi pins s σ H _ I h) fun v s1 h1=>thn h1 fun itv s2 h2=>?_)) (fun _ s' hq=>wpAny_pure (wpAny_pure hq)) fun _ _ e=>e)
 obtain ⟨it,fp,tn,J,H2,e,I2,T,st2,f2,hR⟩:=h2
 subst e
 refine nY (Q:=fun x H1=>cE i x σ H1 Dn.nx) (RR:=fun acc C=>compPost (model X.prog X.w) X.A X.xe (some (assign (.Name y py) X.env)) (fun _ s'=>SP X pins Dn .next s') acc C) hc S lA xH hg ht he I2 T st2 f2 hR ?_
 intro D C H6 s6 I6 hCn hCL hCs hCc hCp hns q
 obtain ⟨m,hn⟩:=hns
 show wpAny _ X.A (assign (.Name y py) X.env (.ref D)) _ _ _
 refine wpAny_assign_Name (nQ I6 hN hi' hy (v:=.ref D) rfl (fun s7 I7 h7=>?_) hf)
 obtain ⟨a,sb,ha⟩:=h7
 have hCa:C≠a:=by
  rcases ha with ha | ha
  ·rw [ha];exact hCL
  ·exact Ne.symm (hCc y a ha)
 refine ⟨m,hn.sameBut sb hCa,fun h' hs'=>⟨_,H6,I7.turned (t':=s7.toks) (fun b o hb e=>(hs'.2 b hb).trans e) hCn hCL (.inr hCs) hCc hCp,q⟩⟩
end
mutual
noncomputable def toPy:Dm.Dat→PyData
 | .non=>.none
 | .bl b=>.bool b
 | .int i=>.int i
 | .str s=>.str ⟨s.toArray⟩
 | .tup xs=>.tuple (bQ xs)
 | .lst xs=>.list (bQ xs)
 | .dct _ _=>.dict []
 | .exc _=>.dict []
 | .fn _=>.dict []
noncomputable def bQ:List Dm.Dat→List PyData
 | []=>[]
 | x::xs=>toPy x::bQ xs
end
mutual
theorem i7:∀ a b:Dm.Dat,PyData.eqv (toPy a) (toPy b)=Dm.eqD a b
 | .non,b=>by cases b<;>simp [toPy,PyData.eqv,Dm.eqD]
 | .bl x,b=>by cases b<;>simp [toPy,PyData.eqv,Dm.eqD,Dm.b2i]
 | .int x,b=>by cases b<;>simp [toPy,PyData.eqv,Dm.eqD,Dm.b2i]
 | .str x,b=>by
  cases b with
  | str y=>
   simp only [toPy,PyData.eqv,Dm.eqD]
   rw [Bool.eq_iff_iff]
   simp only [beq_iff_eq]
   constructor
   ·intro h
    have h:=congrArg (fun s:Str=>s.cps.toList) h
    simpa using h
   ·rintro rfl
    rfl
  | _=>simp [toPy,PyData.eqv,Dm.eqD]
 | .tup xs,b=>by
  cases b with
  | tup ys=>simp only [toPy,PyData.eqv,Dm.eqD];exact jE xs ys
  | _=>simp [toPy,PyData.eqv,Dm.eqD]
 | .lst xs,b=>by
  cases b with
  | lst ys=>simp only [toPy,PyData.eqv,Dm.eqD];exact jE xs ys
  | _=>simp [toPy,PyData.eqv,Dm.eqD]
 | .dct ks vs,b=>by cases b<;>simp [toPy,PyData.eqv,Dm.eqD]
 | .exc C,b=>by cases b<;>simp [toPy,PyData.eqv,Dm.eqD]
 | .fn C,b=>by cases b<;>simp [toPy,PyData.eqv,Dm.eqD]
theorem jE:∀ a b:List Dm.Dat,PyData.eqvAll (bQ a) (bQ b)=Dm.cK a b
 | [],b=>by cases b<;>simp [bQ,PyData.eqvAll,Dm.cK]
 | x::xs,b=>by
  cases b with
  | nil=>simp [bQ,PyData.eqvAll,Dm.cK]
  | cons y ys=>simp only [bQ,PyData.eqvAll,Dm.cK];rw [i7 x y,jE xs ys]
end
theorem zM {s:List Nat} (h:(s.all fun c=>decide (c<128))=true):PyData.strOk ⟨s.toArray⟩=true:=by
 unfold PyData.strOk
 rw [Array.all_eq_true']
 intro c hc
 have h1:=List.all_eq_true.mp h c (by simpa using hc)
 have h2:c<128:=of_decide_eq_true h1
 exact decide_eq_true (by omega)
theorem bR {P:Program} {w:World} {H:Hp} {h:Heap} (ok:HOk P w H h):∀ (n:Nat),
  (∀ (v:V) (d:Dm.Dat) (u:Value),Rep H v d→RelV v u→Dm.okD n d=true→∃ as,Reads h u (toPy d) as∧(toPy d).canLay0=true∧(toPy d).depth≤n) ∧
  (∀ (vs:List V) (ds:List Dm.Dat) (us:List Value),ay H vs ds→Vals vs us→ds.all (Dm.okD n)=true→∃ as,ReadsAll h us (bQ ds) as∧PyData.canLayAll0 (bQ ds)=true∧PyData.depthAll (bQ ds)≤n):=by
 intro n
 induction n with
 | zero=>
  have one:∀ (v:V) (d:Dm.Dat) (u:Value),Rep H v d→RelV v u→Dm.okD 0 d=true→∃ as,Reads h u (toPy d) as∧(toPy d).canLay0=true∧(toPy d).depth≤0:=by
   intro v d u r rv k
   cases r with
   | non=>cases rv;exact ⟨_,.none,rfl,Nat.le_refl _⟩
   | bl b=>cases rv;exact ⟨_,.bool b,rfl,Nat.le_refl _⟩
   | int i=>obtain ⟨t,rfl⟩:=rv;exact ⟨_,.int i t,rfl,Nat.le_refl _⟩
   | str s=>obtain ⟨t,rfl⟩:=rv;exact ⟨_,.str _ t,zM k,Nat.le_refl _⟩
   | tup _ _=>cases k
   | lst _ _=>cases k
   | dct _ _ _=>cases k
   | exc _=>cases k
   | fn _=>cases k
  refine ⟨one,fun vs ds=>?_⟩
  induction ds generalizing vs with
  | nil=>intro us r rv _;cases r;cases rv;exact ⟨_,.nil,rfl,Nat.le_refl _⟩
  | cons d ds ih=>
   intro us r rv k
   cases r with
   | cons r rs=>
    cases rv with
    | cons q qs=>
     rw [List.all_cons,Bool.and_eq_true] at k
     obtain ⟨a1,h1,h2,h3⟩:=one _ _ _ r q k.1
     obtain ⟨a2,h4,h5,h6⟩:=ih _ _ rs qs k.2
     exact ⟨_,.cons h1 h4,by simp [bQ,PyData.canLayAll0,h2,h5],by simp only [bQ,PyData.depthAll];omega⟩
 | succ n ih=>
  have one:∀ (v:V) (d:Dm.Dat) (u:Value),Rep H v d→RelV v u→Dm.okD (n+1) d=true→∃ as,Reads h u (toPy d) as∧(toPy d).canLay0=true∧(toPy d).depth≤n+1:=by
   intro v d u r rv k
   cases r with
   | non=>cases rv;exact ⟨_,.none,rfl,Nat.zero_le _⟩
   | bl b=>cases rv;exact ⟨_,.bool b,rfl,Nat.zero_le _⟩
   | int i=>obtain ⟨t,rfl⟩:=rv;exact ⟨_,.int i t,rfl,Nat.zero_le _⟩
   | str s=>obtain ⟨t,rfl⟩:=rv;exact ⟨_,.str _ t,zM k,Nat.zero_le _⟩
   | tup q rs=>
    cases rv
    obtain ⟨z,its,vr,ob,e,hc,m,hd⟩:=ok _ _ q
    obtain ⟨as,h1,h2,h3⟩:=ih.2 _ _ _ rs vr k
    exact ⟨_,.tuple e hc hd h1,h2,by simp only [toPy,PyData.depth];omega⟩
   | lst q rs=>
    cases rv
    obtain ⟨z,its,m,vr,e⟩:=q.ok ok
    obtain ⟨as,h1,h2,h3⟩:=ih.2 _ _ _ rs vr k
    exact ⟨_,.list e rfl rfl h1,h2,by simp only [toPy,PyData.depth];omega⟩
   | dct _ _ _=>cases k
   | exc _=>cases k
   | fn _=>cases k
  refine ⟨one,fun vs ds=>?_⟩
  induction ds generalizing vs with
  | nil=>intro us r rv _;cases r;cases rv;exact ⟨_,.nil,rfl,Nat.zero_le _⟩
  | cons d ds ih=>
   intro us r rv k
   cases r with
   | cons r rs=>
    cases rv with
    | cons q qs=>
     rw [List.all_cons,Bool.and_eq_true] at k
     obtain ⟨a1,h1,h2,h3⟩:=one _ _ _ r q k.1
     obtain ⟨a2,h4,h5,h6⟩:=ih _ _ rs qs k.2
     exact ⟨_,.cons h1 h4,by simp [bQ,PyData.canLayAll0,h2,h5],by simp only [bQ,PyData.depthAll];omega⟩
theorem jD.full {H0 H:Hp} (s:aj H0 H) {v:V} {d:Dm.Dat} (r:jD H0 H v d):Rep H v d:=by
 rcases r with r | ⟨a,rfl,w⟩
 ·exact r.mono s
 ·cases d with
  | lst ds=>obtain ⟨xs,q,rs⟩:=w;exact .lst (.inl q) (rs.mono s)
  | dct ks ds=>obtain ⟨kvs,q,e,rs⟩:=w;exact .dct q e (rs.mono s)
  | _=>exact False.elim w
noncomputable def CS (neg:Bool):R2:=fun x y H Q=>∃ dx dy,Rep H x dx∧Rep H y dy∧Dm.okD 8 dx=true∧Dm.okD 8 dy=true∧Q (.bl (if neg then !Dm.eqD dx dy else Dm.eqD dx dy)) H
section
variable {X:Cx}
theorem zN {k:Nat} (hr:aU k X.A):OpR X (compareOp .Eq) (CS false):=by
 intro pins s σ H x y v u Q I rx ry h
 obtain ⟨dx,dy,r1,r2,k1,k2,q⟩:=h
 obtain ⟨as,h1,h2,h3⟩:=(bR I.hok 8).1 x dx v r1 rx k1
 obtain ⟨bs,h4,h5,h6⟩:=(bR I.hok 8).1 y dy u r2 ry k2
 have hu:=hr.units
 refine PySem.SeqAt.compareEq_reads h1 h4 h2 h5 (by omega) ?_
 rw [i7]
 exact ⟨.bl (Dm.eqD dx dy),H,I,rfl,q⟩
theorem zO {k:Nat} (hr:aU k X.A):OpR X (compareOp .NotEq) (CS true):=by
 intro pins s σ H x y v u Q I rx ry h
 obtain ⟨dx,dy,r1,r2,k1,k2,q⟩:=h
 obtain ⟨as,h1,h2,h3⟩:=(bR I.hok 8).1 x dx v r1 rx k1
 obtain ⟨bs,h4,h5,h6⟩:=(bR I.hok 8).1 y dy u r2 ry k2
 have hu:=hr.units
 refine PySem.SeqAt.compareNe_reads h1 h4 h2 h5 (by omega) ?_
 rw [i7]
 exact ⟨.bl (!Dm.eqD dx dy),H,I,rfl,q⟩
noncomputable def CT (neg:Bool):R2:=fun x y H Q=>∃ dx ds,Rep H x dx∧(Rep H y (.lst ds)∨Rep H y (.tup ds))∧Dm.okD 8 dx=true∧ds.all (Dm.okD 7)=true∧Q (.bl (if neg then !Dm.inD dx ds else Dm.inD dx ds)) H
theorem fO (x:Dm.Dat):∀ ds:List Dm.Dat,((bQ ds).any fun y=>PyData.eqv y (toPy x))=Dm.inD x ds
 | []=>rfl
 | d::ds=>by
  have:=fO x ds
  unfold Dm.inD at this ⊢
  simp only [bQ,List.any_cons,i7]
  rw [this]
theorem GP {k:Nat} (hr:aU k X.A):OpR X (compareOp .In) (CT false):=by
 intro pins s σ H x y v u Q I rx ry h
 obtain ⟨dx,ds,r1,r2,k1,k2,q⟩:=h
 obtain ⟨as,h1,h2,h3⟩:=(bR I.hok 8).1 x dx v r1 rx k1
 have hu:=hr.units
 rcases r2 with r2 | r2
 ·obtain ⟨bs,h4,h5,h6⟩:=(bR I.hok 8).1 y (.lst ds) u r2 ry k2
  have h6:PyData.depthAll (bQ ds)+1≤8:=h6
  refine PySem.SeqAt.in_list_reads h4 h1 h5 h2 (by omega) ?_
  rw [fO]
  exact ⟨.bl (Dm.inD dx ds),H,I,rfl,q⟩
 ·obtain ⟨bs,h4,h5,h6⟩:=(bR I.hok 8).1 y (.tup ds) u r2 ry k2
  have h6:PyData.depthAll (bQ ds)+1≤8:=h6
  refine PySem.SeqAt.in_tuple_reads h4 h1 h5 h2 (by omega) ?_
  rw [fO]
  exact ⟨.bl (Dm.inD dx ds),H,I,rfl,q⟩
theorem nZ {k:Nat} (hr:aU k X.A):OpR X (compareOp .NotIn) (CT true):=by
 intro pins s σ H x y v u Q I rx ry h
 obtain ⟨dx,ds,r1,r2,k1,k2,q⟩:=h
 obtain ⟨as,h1,h2,h3⟩:=(bR I.hok 8).1 x dx v r1 rx k1
 have hu:=hr.units
 rcases r2 with r2 | r2
 ·obtain ⟨bs,h4,h5,h6⟩:=(bR I.hok 8).1 y (.lst ds) u r2 ry k2
  have h6:PyData.depthAll (bQ ds)+1≤8:=h6
  refine PySem.SeqAt.notIn_list_reads h4 h1 h5 h2 (by omega) ?_
  rw [fO]
  exact ⟨.bl (!Dm.inD dx ds),H,I,rfl,q⟩
 ·obtain ⟨bs,h4,h5,h6⟩:=(bR I.hok 8).1 y (.tup ds) u r2 ry k2
  have h6:PyData.depthAll (bQ ds)+1≤8:=h6
  refine PySem.SeqAt.notIn_tuple_reads h4 h1 h5 h2 (by omega) ?_
  rw [fO]
  exact ⟨.bl (!Dm.inD dx ds),H,I,rfl,q⟩
end
theorem az {H0 H:Hp} {v:V} {i:Int} (r:jD H0 H v (.int i)):v=.int i:=by
 rcases r with r | ⟨a,_,w⟩
 ·exact Rep.isInt r
 ·exact False.elim w
theorem vt {H0 H:Hp} {v:V} {b:Bool} (r:jD H0 H v (.bl b)):v=.bl b:=by
 rcases r with r | ⟨a,_,w⟩
 ·exact Rep.pB r
 ·exact False.elim w
theorem bI {H0 H:Hp} (s:aj H0 H) {v:V} {ds:List Dm.Dat} (r:jD H0 H v (.lst ds)):∃ a xs,v=.ref a∧Rd H a (.lst xs)∧ay H0 xs ds:=by
 rcases r with r | ⟨a,e,xs,q,rs⟩
 ·cases r with
  | lst q rs=>exact ⟨_,_,rfl,aj.rd s q,rs⟩
 ·exact ⟨a,xs,e,.inl q,rs⟩
theorem dX {H0 H:Hp} (s:aj H0 H) {v:V} {ds:List Dm.Dat} (r:jD H0 H v (.tup ds)):∃ a xs,v=.ref a∧H a=some (.tup xs)∧ay H0 xs ds:=by
 rcases r with r | ⟨a,_,w⟩
 ·cases r with
  | tup q rs=>exact ⟨_,_,rfl,s _ _ q,rs⟩
 ·exact False.elim w
theorem GQ:OpD (rI0 fun i j=>.int (i-j)) Dm.kB:=by
 intro H0 H x y dx dy z Q s rx ry e k
 unfold Dm.kB at e
 split at e
 ·cases e;cases az rx;cases az ry
  exact ⟨_,_,rfl,rfl,k _ H0 H (aD.refl s) (.int _)⟩
 ·cases e
theorem zP:OpD (rI0 fun i j=>.bl (decide (i<j))) Dm.gLt:=by
 intro H0 H x y dx dy z Q s rx ry e k
 unfold Dm.gLt at e
 split at e
 ·cases e;cases az rx;cases az ry
  exact ⟨_,_,rfl,rfl,k _ H0 H (aD.refl s) (.bl _)⟩
 ·cases e
theorem zQ:OpD (rI0 fun i j=>.bl (decide (i≤j))) Dm.gLe:=by
 intro H0 H x y dx dy z Q s rx ry e k
 unfold Dm.gLe at e
 split at e
 ·cases e;cases az rx;cases az ry
  exact ⟨_,_,rfl,rfl,k _ H0 H (aD.refl s) (.bl _)⟩
 ·cases e
theorem JM:OpD (rI0 fun i j=>.bl (decide (j<i))) Dm.gGt:=by
 intro H0 H x y dx dy z Q s rx ry e k
 unfold Dm.gGt at e
 split at e
 ·cases e;cases az rx;cases az ry
  exact ⟨_,_,rfl,rfl,k _ H0 H (aD.refl s) (.bl _)⟩
 ·cases e
theorem JN:OpD (rI0 fun i j=>.bl (decide (j≤i))) Dm.gGe:=by
 intro H0 H x y dx dy z Q s rx ry e k
 unfold Dm.gGe at e
 split at e
 ·cases e;cases az rx;cases az ry
  exact ⟨_,_,rfl,rfl,k _ H0 H (aD.refl s) (.bl _)⟩
 ·cases e
theorem GR:OpD (rI (fun _ j=>0<j) fun i j=>.int (i % j)) Dm.fH:=by
 intro H0 H x y dx dy z Q s rx ry e k
 unfold Dm.fH at e
 split at e
 ·split at e
  ·rename_i hj
   cases e;cases az rx;cases az ry
   exact ⟨_,_,rfl,rfl,hj,k _ H0 H (aD.refl s) (.int _)⟩
  ·cases e
 ·cases e
theorem GS:OpD (rI Ji fun i j=>.int (i ^ j.toNat)) Dm.gF:=by
 intro H0 H x y dx dy z Q s rx ry e k
 unfold Dm.gF at e
 split at e
 ·split at e
  ·rename_i hj
   cases e;cases az rx;cases az ry
   exact ⟨_,_,rfl,rfl,⟨hj.1,hj.2.1,Nat.lt_trans hj.2.2 (by decide)⟩,k _ H0 H (aD.refl s) (.int _)⟩
  ·cases e
 ·cases e
section
variable {X:Cx}
noncomputable def ES (i j:Int):Prop:=0<j∧j<Dm.fG
theorem zR:OpR X (binaryOp .FloorDiv) (rI ES fun i j=>.int (i / j)):=opI fun i j _ _ _ _ _ hc q=>by
 have h:j.natAbs.log2<9000:=by
  have h1:j.natAbs<2 ^ 200:=by
   have:=hc.2
   unfold Dm.fG at this
   have h2:=hc.1
   have e:(2:Nat) ^ 200=1606938044258990275541962092341162602522202993782792835301376:=by decide +kernel
   omega
  have h3:j.natAbs≠0:=by have:=hc.1;omega
  have:=(Nat.log2_lt h3).mpr h1
  omega
 have e:i.fdiv j=i / j:=Int.fdiv_eq_ediv_of_nonneg i (Int.le_of_lt hc.1)
 rw [← e] at q
 exact floordiv_int (Int.ne_of_gt hc.1) q (.inl (PyProof.noPylong_of_log2 h))
end
theorem GU:OpD (rI ES fun i j=>.int (i / j)) Dm.xE:=by
 intro H0 H x y dx dy z Q s rx ry e k
 unfold Dm.xE at e
 split at e
 ·split at e
  ·rename_i hj
   cases e;cases az rx;cases az ry
   exact ⟨_,_,rfl,rfl,hj,k _ H0 H (aD.refl s) (.int _)⟩
  ·cases e
 ·cases e
theorem GV:UnD (rU fun i=>.int (-i)) Dm.CN:=by
 intro H0 H x dx z Q s rx e k
 unfold Dm.CN at e
 split at e
 ·cases e;cases az rx
  exact ⟨_,rfl,k _ H0 H (aD.refl s) (.int _)⟩
 ·cases e
noncomputable def zS:R2:=fun x y H Q=>∃ l b xs zs,x=.ref l∧y=.ref b∧Rd H l (.lst xs)∧Rd H b (.lst zs)∧xs.length+zs.length≤sizeLine∧∀ p,H p=none→Q (.ref p) (upd H p (.lst (xs++zs)))
noncomputable def zT:R2:=fun x y H Q=>∃ l k xs,x=.ref l∧y=.int k∧Rd H l (.lst xs)∧-(2 ^ 63)≤k∧k<2 ^ 63∧xs.length*k.toNat≤sizeLine ∧
 ∀ p,H p=none→Q (.ref p) (upd H p (.lst (List.replicate k.toNat xs).flatten))
section
variable {X:Cx}
theorem CU:OpR X (binaryOp .Add) zS:=by
 intro pins s σ H x y v u Q I rx ry h
 obtain ⟨l,b,xs,zs,rfl,rfl,hH,hB,hz,q⟩:=h
 cases rx
 cases ry
 obtain ⟨z,its,n,r,e⟩:=hH.ok I.hok
 obtain ⟨z2,its2,n2,r2,e2⟩:=hB.ok I.hok
 have hl:=r.length
 have hl2:=r2.length
 refine PySem.P.add_list e e2 ?_ (by rw [List.size_toArray,List.size_toArray];omega)
 have ea:its.toArray++its2.toArray=(its++its2).toArray:=by simp
 rw [ea]
 exact ⟨.ref _,_,I.Gz (t':=s.toks) (r.append r2) (by rw [List.length_append];omega),rfl,q _ I.fresh⟩
theorem CV:OpR X (binaryOp .Mult) zT:=by
 intro pins s σ H x y v u Q I rx ry h
 obtain ⟨l,k,xs,rfl,rfl,hH,h1,h2,hz,q⟩:=h
 cases rx
 obtain ⟨t,rfl⟩:=ry
 obtain ⟨z,its,n,r,e⟩:=hH.ok I.hok
 have hl:=r.length
 have hlen:its.toArray.size*k.toNat≤sizeLine:=by rw [List.size_toArray,← hl];exact hz
 have hcap:¬ its.toArray.size*k.toNat>(2 ^ 63-1) / 8:=by
  have:(sizeLine:Nat)≤(2 ^ 63-1) / 8:=by decide
  omega
 have hfit:¬ (!Builtin.List.listFitsIndex k)=true:=by
  rw [fitsIndex_both h1 h2]
  exact Bool.false_ne_true
 have JO:¬ Builtin.List.listTooLong (its.toArray.size*k.toNat)=true:=by
  rw [qG hlen]
  exact Bool.false_ne_true
 have hnew:List.foldl (fun x1 x2=>x1++x2) #[] (List.replicate (if its.toArray.isEmpty=true then 0 else k.toNat) its.toArray)=(List.replicate k.toNat its).flatten.toArray:=by
  have f0:∀ m:Nat,List.foldl (fun x1 x2=>x1++x2) #[] (List.replicate m its.toArray)=(List.replicate m its).flatten.toArray:=fun m=>by
   have:=foldl_rep its m []
   rw [List.nil_append] at this
   exact this
  rw [f0]
  cases its with
  | nil=>simp
  | cons a r'=>rw [if_neg (by simp)]
 refine wpAny_binaryOp_repeat_ref (T := "list") (U := "int") (by decide) ⟨_,e,rfl⟩ (fun s'=>typeIs_int s' k t) noFill_list_mul F.fills_int_mul F.slot_int_rmul repeat_list F.slot_int_index.lookup
  (call_meets F.slot_int_rmul (typeIs_int s k t) F.entry_int_rmul (F.args_int_rmul_2 _ _) (int___rmul___int_list k t l its.toArray n)
   ⟨e,rfl,⟨_,e,rfl⟩,call_meets F.slot_list_mul ⟨_,e,rfl⟩ F.entry_list_mul (F.args_list_mul_2 _ _) (AutoListH.list___mul___list_int_3 l its.toArray n k t hfit hcap JO) ⟨e,?_⟩⟩)
 rw [hnew]
 exact ⟨.ref _,_,I.Gz (t':=s.toks) (r.rep k.toNat) (by rw [len_rep,Nat.mul_comm];exact hz),rfl,q _ I.fresh⟩
theorem CW:OpR X (binaryOp .Add) (fun x y H Q=>rI0 (fun i j=>.int (i+j)) x y H Q∨zS x y H Q):=Gh.or CU
theorem CY:OpR X (binaryOp .Mult) (fun x y H Q=>rI yZ (fun i j=>.int (i*j)) x y H Q∨zT x y H Q):=Gj.or CV
end
theorem GW:OpD (fun x y H Q=>rI0 (fun i j=>.int (i+j)) x y H Q∨zS x y H Q) Dm.bL:=by
 intro H0 H x y dx dy z Q s rx ry e k
 unfold Dm.bL at e
 split at e
 ·cases e;cases az rx;cases az ry
  exact .inl ⟨_,_,rfl,rfl,k _ H0 H (aD.refl s) (.int _)⟩
 ·split at e
  ·rename_i hz
   cases e
   obtain ⟨a,us,rfl,qa,ra⟩:=bI s rx
   obtain ⟨b,ws,rfl,qb,rb⟩:=bI s ry
   refine .inr ⟨a,b,us,ws,rfl,rfl,qa,qb,by rw [ra.length,rb.length];exact iY hz,fun p hp=>?_⟩
   exact k _ _ _ (aD.iX s hp) ⟨p,rfl,hp,s.free hp,_,au,ra.append rb⟩
  ·cases e
 ·cases e
theorem GX:OpD (fun x y H Q=>rI yZ (fun i j=>.int (i*j)) x y H Q∨zT x y H Q) Dm.gW:=by
 intro H0 H x y dx dy z Q s rx ry e k
 unfold Dm.gW at e
 split at e
 ·split at e
  ·rename_i hj
   cases e;cases az rx;cases az ry
   exact .inl ⟨_,_,rfl,rfl,hj,k _ H0 H (aD.refl s) (.int _)⟩
  ·cases e
 ·split at e
  ·rename_i hz
   cases e;cases az ry
   obtain ⟨a,us,rfl,qa,ra⟩:=bI s rx
   obtain ⟨h1,h2,h3⟩:=hz
   unfold Dm.BIG at h1 h2
   refine .inr ⟨a,_,us,rfl,rfl,qa,by omega,by omega,by rw [ra.length];exact iY h3,fun p hp=>?_⟩
   exact k _ _ _ (aD.iX s hp) ⟨p,rfl,hp,s.free hp,_,au,ra.rep _⟩
  ·cases e
 ·cases e
theorem ET:OpD (CS false) Dm.gEq:=by
 intro H0 H x y dx dy z Q s rx ry e k
 unfold Dm.gEq at e
 split at e
 ·rename_i hk
  rw [Bool.and_eq_true] at hk
  cases e
  exact ⟨dx,dy,rx.full s,ry.full s,hk.1,hk.2,k _ H0 H (aD.refl s) (.bl _)⟩
 ·cases e
theorem EU:OpD (CS true) Dm.gNe:=by
 intro H0 H x y dx dy z Q s rx ry e k
 unfold Dm.gNe at e
 split at e
 ·rename_i hk
  rw [Bool.and_eq_true] at hk
  cases e
  exact ⟨dx,dy,rx.full s,ry.full s,hk.1,hk.2,k _ H0 H (aD.refl s) (.bl _)⟩
 ·cases e
theorem JP:OpD (CT false) Dm.gIn:=by
 intro H0 H x y dx dy z Q s rx ry e k
 unfold Dm.gIn at e
 split at e
 ·split at e
  ·rename_i hk
   rw [Bool.and_eq_true] at hk
   cases e
   exact ⟨dx,_,rx.full s,.inl (ry.full s),hk.1,hk.2,k _ H0 H (aD.refl s) (.bl _)⟩
  ·cases e
 ·split at e
  ·rename_i hk
   rw [Bool.and_eq_true] at hk
   cases e
   exact ⟨dx,_,rx.full s,.inr (ry.full s),hk.1,hk.2,k _ H0 H (aD.refl s) (.bl _)⟩
  ·cases e
 ·cases e
theorem qO:OpD (CT true) Dm.eG:=by
 intro H0 H x y dx dy z Q s rx ry e k
 unfold Dm.eG at e
 split at e
 ·split at e
  ·rename_i hk
   rw [Bool.and_eq_true] at hk
   cases e
   exact ⟨dx,_,rx.full s,.inl (ry.full s),hk.1,hk.2,k _ H0 H (aD.refl s) (.bl _)⟩
  ·cases e
 ·split at e
  ·rename_i hk
   rw [Bool.and_eq_true] at hk
   cases e
   exact ⟨dx,_,rx.full s,.inr (ry.full s),hk.1,hk.2,k _ H0 H (aD.refl s) (.bl _)⟩
  ·cases e
 ·cases e
theorem vv {H0:Hp} {xs:List V} {ds:List Dm.Dat} {i:Int} {d:Dm.Dat} (rs:ay H0 xs ds) (e:Dm.atI ds i=some d):∃ v,L2.atI xs i=some v∧Rep H0 v d:=by
 unfold Dm.atI at e
 cases q:Dm.ixN ds.length i with
 | none=>rw [q] at e;cases e
 | some j=>
  rw [q] at e
  obtain ⟨v,hv,r⟩:=rs.get (i:=j) e
  refine ⟨v,?_,r⟩
  unfold L2.atI
  rw [rs.length]
  have q':L2.ixN ds.length i=some j:=q
  rw [q']
  exact hv
theorem JQ {K:PySem.W.Frag}:OpD (fun x y H Q=>Gw K x y H Q∨zg K x y H Q) Dm.gIx:=by
 intro H0 H x y dx dy z Q s rx ry e k
 unfold Dm.gIx at e
 split at e
 ·rename_i ds i
  cases q:Dm.atI ds i with
  | none=>rw [q] at e;cases e
  | some d=>
   rw [q] at e;cases e
   cases az ry
   obtain ⟨a,us,rfl,qa,ra⟩:=bI s rx
   obtain ⟨v,hv,rv⟩:=vv ra q
   exact .inl ⟨a,us,i,v,rfl,rfl,.inl qa,hv,k _ H0 H (aD.refl s) rv⟩
 ·rename_i ds i
  cases q:Dm.atI ds i with
  | none=>rw [q] at e;cases e
  | some d=>
   rw [q] at e;cases e
   cases az ry
   obtain ⟨a,us,rfl,qa,ra⟩:=dX s rx
   obtain ⟨v,hv,rv⟩:=vv ra q
   exact .inr ⟨a,us,i,v,rfl,rfl,.inl (.inl qa),hv,k _ H0 H (aD.refl s) rv⟩
 ·cases e
theorem GY {K:PySem.W.Frag}:CallD (fun xs H Q=>∃ p ys,xs=[.ref p]∧(SqL K H p ys∨SqT K H p ys)∧Q (.int ys.length) H) Dm.dS:=by
 intro H0 H vs ds z Q s rs e k
 unfold Dm.dS at e
 split at e
 ·cases e
  cases rs with
  | cons r rr=>
   cases rr
   obtain ⟨a,us,rfl,qa,ra⟩:=bI s r
   exact ⟨a,us,rfl,.inl (.inl qa),k _ H0 H (aD.refl s) (by rw [ra.length];exact .int _)⟩
 ·cases e
  cases rs with
  | cons r rr=>
   cases rr
   obtain ⟨a,us,rfl,qa,ra⟩:=dX s r
   exact ⟨a,us,rfl,.inr (.inl (.inl qa)),k _ H0 H (aD.refl s) (by rw [ra.length];exact .int _)⟩
 ·cases e
theorem CZ:CallD (fun xs H Q=>∃ i j,xs=[.int i,.int j]∧Q (.int (if j<i then j else i)) H) Dm.k_:=by
 intro H0 H vs ds z Q s rs e k
 unfold Dm.k_ at e
 split at e
 ·cases e
  cases rs with
  | cons r rr=>
   cases rr with
   | cons r' rr=>
    cases rr
    cases az r;cases az r'
    exact ⟨_,_,rfl,k _ H0 H (aD.refl s) (.int _)⟩
 ·cases e
theorem C0:CallD (fun xs H Q=>∃ i j,xs=[.int i,.int j]∧Q (.int (if j>i then j else i)) H) Dm.jY:=by
 intro H0 H vs ds z Q s rs e k
 unfold Dm.jY at e
 split at e
 ·cases e
  cases rs with
  | cons r rr=>
   cases rr with
   | cons r' rr=>
    cases rr
    cases az r;cases az r'
    exact ⟨_,_,rfl,k _ H0 H (aD.refl s) (.int _)⟩
 ·cases e
theorem C1 {K:PySem.W.Frag}:CallD (fun xs H Q=>∃ p ys,xs=[.ref p]∧(SqL K H p ys∨SqT K H p ys)∧∀ l,H l=none→Q (.ref l) (upd H l (.lst ys))) Dm.fJ:=by
 intro H0 H vs ds z Q s rs e k
 unfold Dm.fJ at e
 split at e
 ·cases e
  cases rs with
  | cons r rr=>
   cases rr
   obtain ⟨a,us,rfl,qa,ra⟩:=bI s r
   exact ⟨a,us,rfl,.inl (.inl qa),fun p hp=>k _ _ _ (aD.iX s hp) ⟨p,rfl,hp,s.free hp,_,au,ra⟩⟩
 ·cases e
  cases rs with
  | cons r rr=>
   cases rr
   obtain ⟨a,us,rfl,qa,ra⟩:=dX s r
   exact ⟨a,us,rfl,.inr (.inl (.inl qa)),fun p hp=>k _ _ _ (aD.iX s hp) ⟨p,rfl,hp,s.free hp,_,au,ra⟩⟩
 ·cases e
theorem zU {K:PySem.W.Frag}:CallD (fun xs H Q=>∃ p ys,xs=[.ref p]∧((SqL K H p ys∧∀ l,H l=none→Q (.ref l) (upd H l (.tup ys)))∨(SqT K H p ys∧Q (.ref p) H))) Dm.lg:=by
 intro H0 H vs ds z Q s rs e k
 unfold Dm.lg at e
 split at e
 ·cases e
  cases rs with
  | cons r rr=>
   cases rr
   obtain ⟨a,us,rfl,qa,ra⟩:=bI s r
   refine ⟨a,us,rfl,.inl ⟨.inl qa,fun p hp=>?_⟩⟩
   have g:=aD.Jr (o:=HO.tup us) s hp
   exact k _ _ _ g (.tup au (ra.mono g.s0))
 ·cases e
  cases rs with
  | cons r rr=>
   cases rr
   rcases r with r | ⟨a,_,w⟩
   ·cases r with
    | tup q rs=>exact ⟨_,_,rfl,.inr ⟨.inl (.inl (s _ _ q)),k _ H0 H (aD.refl s) (.tup q rs)⟩⟩
   ·exact False.elim w
 ·cases e
noncomputable abbrev DS (X:Cx) (st:Stmt) (f:Dm.FS):Prop:=PS X st (tDS f)
noncomputable abbrev DSs (X:Cx) (st:List Stmt) (f:Dm.FS):Prop:=PSs X st (tDS f)
noncomputable abbrev DI (X:Cx) (tg it:Expr) (f:Dm.FI):Prop:=PI X tg it (tDI f)
theorem PI.weak {X:Cx} {tg it:Expr} {t t':TI} (h:PI X tg it t) (k:∀ σ H R,t' σ H R→t σ H R):PI X tg it t':=fun pins s σ H R I q=>h pins s σ H R I (k σ H R q)
section
variable {X:Cx} {a b c e:Expr} {fa fb fc f:Dm.FE} {pos:Pos}
theorem d_v (i:Nat) {x:Str} (hN:X.N[i]?=some x:=by rfl) (hv:Vis X.env.scope x:=by first | exact Or.inl rfl | exact Or.inr (Or.inl rfl) | exact Or.inr (Or.inr rfl)) (hd:(x == ("__debug__" : Str))=false:=by decide)
  (hcd:(x == ("__classdict__" : Str))=false:=by decide):DE X (.Name x pos) (Dm.eV i):=PE.weak (bP hN hv hd hcd) fun _ _ _=>Ju
theorem d_i {i:Int} {j}:DE X (.Constant (.int i) j pos) (Dm.eC (.int i)):=PE.weak kT fun _ _ _=>pA fun _=>.int i
theorem d_b {v:Bool} {j}:DE X (.Constant (.bool v) j pos) (Dm.eC (.bl v)):=PE.weak Jb fun _ _ _=>pA fun _=>.bl v
theorem d_n {j}:DE X (.Constant .none j pos) (Dm.eC .non):=PE.weak F6 fun _ _ _=>pA fun _=>.non
theorem tS {op:Operator} {r:R2} {g:Dm.Dat→Dm.Dat→Option Dm.RV} (o:OpR X (binaryOp op) r) (od:OpD r g) (ha:DE X a fa) (hb:DE X b fb):DE X (.BinOp a op b pos) (Dm.e2 g fa fb):=
 PE.weak (Jf o ha hb) fun _ _ _=>tO od
theorem bH (ha:DE X a fa) (hb:DE X b fb):DE X (.BinOp a .Add b pos) (Dm.e2 Dm.bL fa fb):=tS CW GW ha hb
theorem vz (ha:DE X a fa) (hb:DE X b fb):DE X (.BinOp a .Sub b pos) (Dm.e2 Dm.kB fa fb):=tS Gi GQ ha hb
theorem gK (ha:DE X a fa) (hb:DE X b fb):DE X (.BinOp a .Mult b pos) (Dm.e2 Dm.gW fa fb):=tS CY GX ha hb
theorem JR (ha:DE X a fa) (hb:DE X b fb):DE X (.BinOp a .FloorDiv b pos) (Dm.e2 Dm.xE fa fb):=tS zR GU ha hb
theorem fP (ha:DE X a fa) (hb:DE X b fb):DE X (.BinOp a .Mod b pos) (Dm.e2 Dm.fH fa fb):=tS Gk GR ha hb
theorem i8 (ha:DE X a fa) (hb:DE X b fb):DE X (.BinOp a .Pow b pos) (Dm.e2 Dm.gF fa fb):=tS Gm GS ha hb
theorem JS (ha:DE X a fa):DE X (.UnaryOp .USub a pos) (Dm.e1 Dm.CN fa):=PE.weak (Jg Gn ha) fun _ _ _=>Lu GV
theorem qP {op:CmpOp} {r:R2} {g:Dm.Dat→Dm.Dat→Option Dm.RV} (o:OpR X (compareOp op) r) (od:OpD r g) (ha:DE X a fa) (hb:DE X b fb) (hm:behindInMarks op b=false):DE X (.Compare a [op] [b] pos) (Dm.e2 g fa fb):=
 PE.weak (Cw o ha hb hm) fun _ _ _=>tO od
theorem lB {op:CmpOp} {r:R2} {g:Dm.Dat→Dm.Dat→Option Dm.RV} (o:OpR X (compareOp op) r) (od:OpD r g) (ha:DE X a fa) (hb:DE X b fb) (hm:behindInMarks op b=false):DT X (.Compare a [op] [b] pos) (Dm.tV (Dm.e2 g fa fb)):=
 PT.weak (Cy o ha hb hm) fun σ H Q h=>tO od (pC h)
theorem xJ {k:Nat} (hr:aU k X.A) (ha:DE X a fa) (hb:DE X b fb):DE X (.Compare a [.Eq] [b] pos) (Dm.e2 Dm.gEq fa fb):=qP (zN hr) ET ha hb (eE _)
theorem LC {k:Nat} (hr:aU k X.A) (ha:DE X a fa) (hb:DE X b fb):DE X (.Compare a [.NotEq] [b] pos) (Dm.e2 Dm.gNe fa fb):=qP (zO hr) EU ha hb (eE _)
theorem LD (ha:DE X a fa) (hb:DE X b fb):DE X (.Compare a [.Lt] [b] pos) (Dm.e2 Dm.gLt fa fb):=qP y9 zP ha hb (eE _)
theorem zw {k:Nat} (hr:aU k X.A) (ha:DE X a fa) (hb:DE X b fb) (hm:behindInMarks .In b=false:=by rfl):DE X (.Compare a [.In] [b] pos) (Dm.e2 Dm.gIn fa fb):=qP (GP hr) JP ha hb hm
theorem JT {k:Nat} (hr:aU k X.A) (ha:DE X a fa) (hb:DE X b fb) (hm:behindInMarks .NotIn b=false:=by rfl):DE X (.Compare a [.NotIn] [b] pos) (Dm.e2 Dm.eG fa fb):=qP (nZ hr) qO ha hb hm
theorem xK {k:Nat} (hr:aU k X.A) (ha:DE X a fa) (hb:DE X b fb):DT X (.Compare a [.Eq] [b] pos) (Dm.tV (Dm.e2 Dm.gEq fa fb)):=lB (zN hr) ET ha hb (eE _)
theorem lC {k:Nat} (hr:aU k X.A) (ha:DE X a fa) (hb:DE X b fb):DT X (.Compare a [.NotEq] [b] pos) (Dm.tV (Dm.e2 Dm.gNe fa fb)):=lB (zO hr) EU ha hb (eE _)
theorem GZ (ha:DE X a fa) (hb:DE X b fb):DT X (.Compare a [.Lt] [b] pos) (Dm.tV (Dm.e2 Dm.gLt fa fb)):=lB y9 zP ha hb (eE _)
theorem LF (ha:DE X a fa) (hb:DE X b fb):DT X (.Compare a [.Gt] [b] pos) (Dm.tV (Dm.e2 Dm.gGt fa fb)):=lB Jj JM ha hb (eE _)
theorem G0 (ha:DE X a fa) (hb:DE X b fb):DT X (.Compare a [.GtE] [b] pos) (Dm.tV (Dm.e2 Dm.gGe fa fb)):=lB Jk JN ha hb (eE _)
theorem JU {k:Nat} (hr:aU k X.A) (ha:DE X a fa) (hb:DE X b fb) (hm:behindInMarks .NotIn b=false:=by rfl):DT X (.Compare a [.NotIn] [b] pos) (Dm.tV (Dm.e2 Dm.eG fa fb)):=lB (nZ hr) qO ha hb hm
theorem bA (ha:DE X a fa) (hb:DE X b fb) (hs:gk b:=by intro _ _;rfl):DE X (.Subscript a b pos) (Dm.e2 Dm.gIx fa fb):=PE.weak (qE (vh.or o7) ha hb hs) fun _ _ _=>tO JQ
theorem ah:DA X [] []:=PA.weak cJ fun _ _ _=>Jv
theorem aa {es:List Expr} {fs:List Dm.FE} (h:DE X e f) (r:DA X es fs) (hs:starEach (e::es) X.env=(false,eval e X.env)::starEach es X.env:=by rfl):DA X (e::es) (f::fs):=PA.weak (bW h r hs) fun _ _ _=>GH
theorem n5 {es:List Expr} {fs:List Dm.FE} {x1} (h:DA X es fs):DE X (.Tuple es x1 pos) (Dm.kD fs):=PE.weak (tw h) fun _ _ _=>Jx
theorem cO {es:List Expr} {fs:List Dm.FE} (h:DA X es fs):DE X (.List es pos) (Dm.cF fs):=PE.weak (tE h) fun _ _ _=>Jy
theorem xM {es:List Expr} {fs:List Dm.FE} {r:List V→Hp→VK→Prop} {g:List Dm.Dat→Option Dm.RV} {x:Str} {id:String} {p:Pos} (hc:b4 X (.builtin id) r) (cd:CallD r g) (hv:bootBuiltins x=some (.builtin id)) (hg:Gl X x) (hm:X.mg x=none) (ha:DA X (e::es) fs)
  (hn:x ≠ "__name__" := by decide) (hdb:(x == ("__debug__" : Str))=false:=by decide) (he:starEach (e::es) X.env=(false,eval e X.env)::starEach es X.env:=by rfl) (hpl:(backTo pos (starEach es X.env)).any (·.1)=false:=by rfl) :
  DE X (.Call (.Name x p) (e::es) [] pos) (Dm.eB g fs):=PE.weak (iQ hc hg hm hv ha hn hdb he hpl) fun _ _ _=>Jw cd
theorem C2 {es:List Expr} {fs:List Dm.FE} {r:List V→Hp→VK→Prop} {g:List Dm.Dat→Option Dm.RV} {x:Str} {T:String} {p:Pos} (hc:b4 X (.type T) r) (cd:CallD r g) (hv:bootBuiltins x=some (.type T)) (hg:Gl X x) (hm:X.mg x=none) (ha:DA X (e::es) fs)
  (hn:x ≠ "__name__" := by decide) (hdb:(x == ("__debug__" : Str))=false:=by decide) (he:starEach (e::es) X.env=(false,eval e X.env)::starEach es X.env:=by rfl) (hpl:(backTo pos (starEach es X.env)).any (·.1)=false:=by rfl) :
  DE X (.Call (.Name x p) (e::es) [] pos) (Dm.eB g fs):=PE.weak (jz hc hg hm hv ha hn hdb he hpl) fun _ _ _=>Jw cd
variable {es:List Expr} {fs:List Dm.FE} {p:Pos}
theorem fQ (hg:Gl X "len") (hm:X.mg "len" = none) (ha:DA X [e] fs) (he:starEach [e] X.env=[(false,eval e X.env)]:=by rfl) (hpl:(backTo pos (starEach [] X.env)).any (·.1)=false:=by rfl):DE X (.Call (.Name "len" p) [e] [] pos) (Dm.eB Dm.dS fs):=xM o8 GY PySem.boot_len hg hm ha (he:=he) (hpl:=hpl)
theorem tT (hc:X.calm=true) (hg:Gl X "min") (hm:X.mg "min" = none) (ha:DA X [a,b] fs) (he:starEach [a,b] X.env=(false,eval a X.env)::starEach [b] X.env:=by rfl) (hpl:(backTo pos (starEach [b] X.env)).any (·.1)=false:=by rfl):DE X (.Call (.Name "min" p) [a,b] [] pos) (Dm.eB Dm.k_ fs):=xM (xo hc) CZ (by rfl) hg hm ha (he:=he) (hpl:=hpl)
theorem pK (hc:X.calm=true) (hg:Gl X "max") (hm:X.mg "max" = none) (ha:DA X [a,b] fs) (he:starEach [a,b] X.env=(false,eval a X.env)::starEach [b] X.env:=by rfl) (hpl:(backTo pos (starEach [b] X.env)).any (·.1)=false:=by rfl):DE X (.Call (.Name "max" p) [a,b] [] pos) (Dm.eB Dm.jY fs):=xM (xm hc) C0 (by rfl) hg hm ha (he:=he) (hpl:=hpl)
theorem tU (hg:Gl X "list") (hm:X.mg "list" = none) (ha:DA X [e] fs) (he:starEach [e] X.env=[(false,eval e X.env)]:=by rfl) (hpl:(backTo pos (starEach [] X.env)).any (·.1)=false:=by rfl):DE X (.Call (.Name "list" p) [e] [] pos) (Dm.eB Dm.fJ fs):=C2 o9 C1 (by rfl) hg hm ha (he:=he) (hpl:=hpl)
theorem vA (hg:Gl X "tuple") (hm:X.mg "tuple" = none) (ha:DA X [e] fs) (he:starEach [e] X.env=[(false,eval e X.env)]:=by rfl) (hpl:(backTo pos (starEach [] X.env)).any (·.1)=false:=by rfl):DE X (.Call (.Name "tuple" p) [e] [] pos) (Dm.eB Dm.lg fs):=C2 nI zU (by rfl) hg hm ha (he:=he) (hpl:=hpl)
theorem aJ {k:Nat} {F:Addr} {fd:FuncData} {ps:List Str} {g:List Dm.Dat→Option Dm.RV} {x:Str} (G:aR X.prog X.w X.K X.mg X.base CX0 k F fd ps (spD g)) (hr:aU k X.A) (hg:Gl X x) (hm:X.mg x=some (.ref F)) (hk:PySem.W.keepIn X.K (.ref F)=true) (hb:Binds X.K fd ps [])
  (ha:DA X (e::es) fs) (hdb:(x == ("__debug__" : Str))=false:=by decide) (he:starEach (e::es) X.env=(false,eval e X.env)::starEach es X.env:=by rfl) (hpl:(backTo pos (starEach es X.env)).any (·.1)=false:=by rfl) :
  DE X (.Call (.Name x p) (e::es) [] pos) (Dm.eF g fs):=PE.weak (cT G hr hg hm hk hb .nil (gH (X:=X)) ha hdb he hpl) fun _ _ _=>GI
theorem n6 {op} (h:DE X a fa):DE X (.BoolOp op [a] pos) fa:=F9 h
theorem i9 {rest:List Expr} (ha:DE X a fa) (hb:DE X (.BoolOp .And (b::rest) pos) fb):DE X (.BoolOp .And (a::b::rest) pos) (Dm.gE fa fb):=PE.weak (F_ ha hb) fun _ _ _=>Jz
theorem EV (ha:DE X a fa):DE X (.UnaryOp .Not a pos) (Dm.tK fa):=PE.weak (Ga ha) fun _ _ _=>JA
noncomputable abbrev DW (X:Cx) (e:Expr) (f:Dm.FT):Prop:=PW X e (tDT f)
theorem PW.weak {t t':TT} (h:PW X e t) (k:∀ σ H Q,t' σ H Q→t σ H Q):PW X e t':=fun whole pins s σ H Q I q=>h whole pins s σ H Q I (k σ H Q q)
variable {ta tb:Dm.FT}
theorem zV (h:DT X a ta):DW X (.BoolOp .And [a] pos) ta:=pw_and1 h
theorem n8 (h:DT X a ta):DW X (.BoolOp .Or [a] pos) ta:=pw_or1 h
theorem w_and {rest:List Expr} (ha:DT X a ta) (hb:DW X (.BoolOp .And (b::rest) pos) tb):DW X (.BoolOp .And (a::b::rest) pos) (Dm.ku ta tb):=PW.weak (pw_and ha hb) fun _ _ _=>GK
theorem w_or {rest:List Expr} (ha:DT X a ta) (hb:DW X (.BoolOp .Or (b::rest) pos) tb):DW X (.BoolOp .Or (a::b::rest) pos) (Dm.tOr ta tb):=PW.weak (pw_or ha hb) fun _ _ _=>JB
theorem t_w (h:DW X a ta):DT X a ta:=h.pt
theorem dY (h:DT X a ta):DT X (.UnaryOp .Not a pos) (Dm.b9 ta):=PT.weak (F8 h) fun _ _ _=>GJ
theorem dZ (h:DE X e f) (he:∀ whole,isTrue e X.env whole=(do let v ← whole;standAt e.pos;holding [v] (truthy v)):=by intro _;rfl):DT X e (Dm.tV f):=PT.weak (F7 h he) fun _ _ _=>pC
variable {tg:Expr}
theorem zW (hg:Gl X "range") (hm:X.mg "range" = none) (ha:DA X [a] [fa]) (hs:starEach [a] X.env=[(false,eval a X.env)]:=by rfl):DI X tg (.Call (.Name "range" p) [a] [] pos) (Dm.iR1 fa):=
 PI.weak (xh hg hm ha hs) fun _ _ _=>JJ
end
section
variable {X:Cx} {st:Stmt} {rest:List Stmt} {fs gs:Dm.FS} {e a b c:Expr} {f fa fb:Dm.FE} {pos:Pos}
theorem b5:DSs X [] Dm.sNx:=PSs.weak o4 fun _ _ _=>Lv
theorem ak (h1:DS X st fs) (h2:DSs X rest gs):DSs X (st::rest) (Dm.av fs gs):=PSs.weak (bh h1 h2) fun _ _ _=>JD
theorem aA (h1:DS X st fs):DSs X [st] fs:=dH h1
theorem s_a (i:Nat) {x:Str} {pos':Pos} (hN:X.N.Nodup) (he:DE X e f) (hi:X.N[i]?=some x:=by rfl) (hx:Loc X.env.scope x:=by first | exact Or.inl rfl | exact Or.inr rfl) (hs:swapsWith e (some (.Name x pos')) pos.line X.env=pure false:=by rfl)
  (hf:X.fn x=true∨X.env.scope.names.lookup x=some .local:=by first | exact .inl rfl | exact .inr rfl | assumption):DS X (.Assign [.Name x pos'] e pos) (Dm.sA i f):=PS.weak (kW hN hi hx he hs hf) fun _ _ _=>ER
theorem tW:PGs X [] (eK []):=Ct
theorem dM {es:List Expr} {is:List Nat} (i:Nat) {x:Str} {px:Pos} (hN:X.N.Nodup) (h2:PGs X es (eK is)) (hi:X.N[i]?=some x:=by rfl) (hx:Loc X.env.scope x:=by first | exact Or.inl rfl | exact Or.inr rfl)
  (hf:X.fn x=true∨X.env.scope.names.lookup x=some .local:=by first | exact .inl rfl | exact .inr rfl | assumption) (hs:(assignEach (.Name x px::es) X.env).map (·.2)=assign (.Name x px) X.env::(assignEach es X.env).map (·.2):=by rfl):PGs X (.Name x px::es) (eK (i::is)):=yQ (kH hN hi hx hf) h2 hs
theorem s_u {is:List Nat} {es:List Expr} {k:Nat} {tpos:Pos} (hc:X.calm=true) (hg:PGs X es (eK is)) (he:DE X e f) (hn:(assignEach es X.env).length=is.length:=by rfl) (hst:(assignEach es X.env).findIdx? (·.1)=none:=by rfl)
  (hs:swapsWithSole [.Tuple es k tpos] e pos.line X.env=pure false:=by rfl) (hw:swappedStores [.Tuple es k tpos] e X.env=pure none:=by rfl) (h1:(assignEach [.Tuple es k tpos] X.env).map (·.2)=[assign (.Tuple es k tpos) X.env]:=by rfl) :
  DS X (.Assign [.Tuple es k tpos] e pos) (Dm.sU is f):=PS.weak (yS he (yR hc hg hn hst) hs hw h1) fun _ _ _=>zI rfl
theorem s_e (he:DE X e f) (hs:swapsWith e none pos.line X.env=pure false:=by rfl):DS X (.Expr e pos) (Dm.sE f):=PS.weak (dI he hs) fun _ _ _=>GL
theorem s_r (he:DE X e f):DS X (.Return (some e) pos) (Dm.sR f):=PS.weak (o5 he) fun _ _ _=>JE
theorem dG {t:Dm.FT} {x y:List Stmt} (ht:DT X c t) (ha:DSs X x fs) (hb:DSs X y gs):DS X (.If c x y pos) (Dm.sIf t fs gs):=PS.weak (yO ht ha hb) fun _ _ _=>JF
theorem C3:DS X st (fun _=>none):=PS.weak yP fun _ _ _ ⟨_,_,_,_,z,_⟩=>by cases z
theorem zX (i:Nat) {x:Str} {px ap cp:Pos} (he:DE X e f) (hi:X.N[i]?=some x:=by rfl) (hv:Vis X.env.scope x:=by first | exact Or.inl rfl | exact Or.inr (Or.inl rfl) | exact Or.inr (Or.inr rfl)) (hd:(x == ("__debug__" : Str))=false:=by decide)
  (hcd:(x == ("__classdict__" : Str))=false:=by decide) (hbase:attributeBase (.Name x px) "append" X.env (eval (.Name x px) X.env)=eval (.Name x px) X.env:=by rfl)
  (hfew:((backTo cp (starEach [e] X.env)).all (fun x=>!x.1)&&(backToKw cp (keywordEach [] X.env)).all (fun x=>x.1.isSome)
   && decide ([e].length+([]:List Keyword).length+(if ([]:List Keyword).isEmpty then 0 else 1)<30))=true:=by rfl)
  (hline:(ap.endLine == cp.line)=true:=by rfl) (hs:starEach [e] X.env=(false,eval e X.env)::starEach [] X.env:=by rfl) (hplain:(backTo cp (starEach [] X.env)).any (·.1)=false:=by rfl)
  (hsw:swapsWith (.Call (.Attribute (.Name x px) "append" ap) [e] [] cp) none pos.line X.env=pure false:=by rfl) :
  DS X (.Expr (.Call (.Attribute (.Name x px) "append" ap) [e] [] cp) pos) (Dm.qL i f):=
 PS.weak (dI (nV PySem.F.plainAttrs_list PySem.F.slot_list_append PySem.F.type_list_append dQ (bP hi hv hd hcd) (aa he ah hs) hbase hfew hline hs hplain) hsw) fun _ _ _=>JG
theorem JV (i:Nat) {x:Str} {j:Expr} {fj:Dm.FE} {px sp:Pos} (hj:DE X j fj) (he:DE X e f) (hi:X.N[i]?=some x:=by rfl) (hv:Vis X.env.scope x:=by first | exact Or.inl rfl | exact Or.inr (Or.inl rfl) | exact Or.inr (Or.inr rfl)) (hd:(x == ("__debug__" : Str))=false:=by decide)
  (hcd:(x == ("__classdict__" : Str))=false:=by decide) (ha:∀ v,assign (.Subscript (.Name x px) j sp) X.env v=(do
   let ov ← holding [v] (eval (.Name x px) X.env)
   let iv ← holding [v,ov] (eval j X.env)
   standAt sp
   holding [v,ov,iv] (setItem ov iv v)
   release [v,ov,iv] []):=by intro _;rfl)
  (hs:swapsWithSole [.Subscript (.Name x px) j sp] e pos.line X.env=pure false:=by rfl) (hw:swappedStores [.Subscript (.Name x px) j sp] e X.env=pure none:=by rfl) (h1:(assignEach [.Subscript (.Name x px) j sp] X.env).map (·.2)=[assign (.Subscript (.Name x px) j sp) X.env]:=by rfl) :
  DS X (.Assign [.Subscript (.Name x px) j sp] e pos) (Dm.xD i fj f):=PS.weak (yS he (Gf (bP hi hv hd hcd) hj set_list ha) hs hw h1) fun _ _ _=>JH
theorem G1 (n:Nat) {t:Dm.FT} {body:List Stmt} (hp:PassesOwn (model X.prog X.w) X.A X.env X.xe) (ht:DT X c t) (hb:DSs X body fs):DS X (.While c body [] pos) (Dm.whD t fs n):=PS.weak (yU hp ht hb) fun _ _ _=>CO
structure TG' (X:Cx) (tg:Expr) (is:List Nat) (bd:Dm.FB):Prop where
 ex:∃ g,PG X tg g∧BD is g bd
theorem g_n (i:Nat) {x:Str} {px:Pos} (hN:X.N.Nodup) (hi:X.N[i]?=some x:=by rfl) (hx:Loc X.env.scope x:=by first | exact Or.inl rfl | exact Or.inr rfl) (hf:X.fn x=true∨X.env.scope.names.lookup x=some .local:=by first | exact .inl rfl | exact .inr rfl | assumption) :
  TG' X (.Name x px) [i] (Dm.bN i):=⟨⟨_,kH hN hi hx hf,vp i⟩⟩
theorem g_t {is:List Nat} {es:List Expr} {k:Nat} {tpos:Pos} (hc:X.calm=true) (hg:PGs X es (eK is)) (hn:(assignEach es X.env).length=is.length:=by rfl) (hst:(assignEach es X.env).findIdx? (·.1)=none:=by rfl):TG' X (.Tuple es k tpos) is (Dm.bT is):=
 ⟨⟨_,yR hc hg hn hst,GN is rfl⟩⟩
theorem gM {tg it:Expr} {fi:Dm.FI} {is:List Nat} {bd:Dm.FB} {body:List Stmt} (hp:PassesOwn (model X.prog X.w) X.A X.env X.xe) (hc:X.calm=true) (hi:DI X tg it fi) (hg:TG' X tg is bd) (hb:DSs X body fs)
  (hs:∀ x,foldedSetIterable it X.env x=pure x:=by intro _;rfl):DS X (.For tg it body [] pos) (Dm.gU fi bd fs):=by
 obtain ⟨g,h1,h2⟩:=hg.ex
 exact PS.weak (o6 hp hc hi h1 hb hs) fun _ _ _=>JI h2
end
noncomputable def tyName:Dm.Dat→String
 | .non => "NoneType"
 | .bl _ => "bool"
 | .int _ => "int"
 | .str _ => "str"
 | .tup _ => "tuple"
 | .lst _ => "list"
 | .dct _ _ => "dict"
 | .exc _ => "dict"
 | .fn _ => "dict"
noncomputable def xN (T:String) (p:Dm.Dat→Bool):Prop:=∀ (K:PySem.W.Frag) (d:Dm.Dat),PySem.W.kitOne K (.type (tyName d)) (.type T)=some (p d)
theorem vC:xN "int" Dm.isI:=fun K d=>by cases d<;>rfl
theorem qQ:xN "bool" Dm.isB:=fun K d=>by cases d<;>rfl
theorem qS:xN "list" Dm.isL:=fun K d=>by cases d<;>rfl
theorem kit_tuple:xN "tuple" Dm.isT:=fun K d=>by cases d<;>rfl
theorem zY {K:PySem.W.Frag} {H:Hp} {v:V} {d:Dm.Dat} (r:Rep H v d) (nx:∀ C,d≠.exc C∧d≠.fn C):iP K H v (.type (tyName d)):=by
 cases r with
 | non=>exact .non
 | bl b=>exact .bl b
 | int i=>exact .int i
 | str s=>exact .str _
 | tup q _=>exact .tup q
 | lst q _=>
  rcases q with q | ⟨o,q⟩
  ·exact .lst q
  ·exact .frz q
 | dct q _ _=>exact .dK q
 | exc _=>exact absurd rfl (nx _).1
 | fn _=>exact absurd rfl (nx _).2
noncomputable def JX (K:PySem.W.Frag) (T:String):List V→Hp→VK→Prop:=fun xs H Q=>∃ x t b,xs=[x,.ty T]∧iP K H x t∧PySem.W.kitOne K t (.type T)=some b∧Q (.bl b) H
section
variable {X:Cx} {e:Expr} {f:Dm.FE} {p p2 pos:Pos}
theorem zZ {T:String}:b4 X (.builtin "isinstance") (JX X.K T):=by
 intro pins s σ H xs us Q I r h
 obtain ⟨x,t,b,rfl,ty,e,q⟩:=h
 obtain ⟨u,u2,rfl,rx,ry⟩:=vals2 r
 cases ry
 exact xu I rx ty e fun tk=>⟨.bl b,H,I.tok tk,rfl,q⟩
theorem JY {K:PySem.W.Frag} {T:String} {p:Dm.Dat→Bool} (kp:xN T p) {σ:L2.St} {H:Hp} {Q:VK} (h:tD (Dm.e1 (Dm.k9 p) f) σ H Q):tCB (JX K T) (dg (tD f) (dg (tC (.ty T)) gD)) σ H Q:=by
 obtain ⟨H0,ρ,x,ρ',st,e,k⟩:=h
 unfold Dm.e1 at e
 split at e
 ·cases e
 rename_i x1 ρ1 e1
 split at e
 ·cases e
 rename_i dx p1
 have nx:∀ C,dx≠.exc C∧dx≠.fn C:=fun C=>⟨fun z=>(by subst z;cases e),fun z=>(by subst z;cases e)⟩
 have ev:Dm.k9 p dx=Dm.vB (p dx):=by cases dx<;>first | rfl | exact absurd rfl (nx _).1 | exact absurd rfl (nx _).2
 rw [ev] at e
 dsimp only at e
 cases e
 refine ⟨H0,ρ,x1,_,st,e1,fun v H1 Hb t1 r1=>?_⟩
 exact ⟨v,_,_,rfl,zY ((r1.look t1.st p1).full t1.st.same) nx,kp K dx,k _ H1 Hb t1 (Rep.bl _)⟩
theorem jZ {T:String} {tn:Str} {p':Dm.Dat→Bool} (kp:xN T p') (hvT:bootBuiltins tn=some (.type T)) (hgT:Gl X tn) (hmT:X.mg tn=none) (hg:Gl X "isinstance") (hm:X.mg "isinstance" = none) (h:DE X e f)
  (hn:tn ≠ "__name__" := by decide) (hdb:(tn == ("__debug__" : Str))=false:=by decide)
  (he:starEach [e,.Name tn p2] X.env=(false,eval e X.env)::starEach [.Name tn p2] X.env:=by rfl) (hpl:(backTo pos (starEach [.Name tn p2] X.env)).any (·.1)=false:=by rfl) (he2:starEach [.Name tn p2] X.env=(false,eval (.Name tn p2) X.env)::starEach [] X.env:=by rfl) :
  DE X (.Call (.Name "isinstance" p) [e,.Name tn p2] [] pos) (Dm.e1 (Dm.k9 p') f):=
 PE.weak (iQ zZ hg hm PyProof.Rows.boot_isinstance (bW h (bW (Cr (v:=.ty T) hgT hmT hvT rfl hn hdb) cJ he2) he) (he:=he) (hpl:=hpl)) fun _ _ _=>JY kp
theorem all_range (bs:List Bool):(List.range bs.length).all (fun i=>bs.getD i true)=bs.all id:=by
 rw [Bool.eq_iff_iff,List.all_eq_true,List.all_eq_true]
 constructor
 ·intro h b hb
  obtain ⟨i,hi,rfl⟩:=List.mem_iff_getElem.mp hb
  have:=h i (List.mem_range.mpr hi)
  rw [List.getD_eq_getElem?_getD,List.getElem?_eq_getElem hi] at this
  exact this
 ·intro h i hi
  have hi:=List.mem_range.mp hi
  rw [List.getD_eq_getElem?_getD,List.getElem?_eq_getElem hi]
  exact h _ (List.getElem_mem hi)
theorem xO (hc:X.calm=true):b4 X (.builtin "all") (fun xs H Q=>∃ (a:Addr) (bs:List Bool),xs=[.ref a]∧Rd H a (.lst (bs.map V.bl))∧Q (.bl (bs.all id)) H):=by
 intro pins s σ H xs us Q I r h
 obtain ⟨a,bs,rfl,hq,q⟩:=h
 obtain ⟨u,rfl,rx⟩:=vals1 r
 cases rx
 obtain ⟨z,its,n,rv,e⟩:=hq.ok I.hok
 have hl:s.heap.IsList a its.toArray:=⟨_,e,rfl,_,rfl⟩
 have hlen:=rv.length
 rw [List.length_map] at hlen
 have hax:a≠s.heap.objs.size:=Nat.ne_of_lt (Heap.lt_size e)
 refine PySem.call_all_walk (wpAny_pyIter_list hl ⟨s.heap.objs.size,_,_,_,_,_,fun i=>bs.getD i true,rfl,Walks.list (A:=X.A.in1) (I.ok.hd hc) s.heap.objs.size a hax its.toArray,⟨⟨_,Heap.get?_push_size _ rfl,rfl,rfl⟩,hl.push _⟩,?_,fun h' tk hk=>?_⟩)
 ·intro i v s' Q' E' hv hQ'
  have hv':its[i]?=some v:=by simpa using hv
  have hi:i<bs.length:=by rw [hlen];exact (List.getElem?_eq_some_iff.mp hv').1
  have hb:(bs.map V.bl)[i]?=some (V.bl bs[i]):=by rw [List.getElem?_map,List.getElem?_eq_getElem hi];rfl
  obtain ⟨u,hu,ru⟩:=rv.get hb
  rw [hv'] at hu
  cases hu
  cases ru
  refine wpAny_truthy_bool ?_
  have e2:bs.getD i true=bs[i]:=by rw [List.getD_eq_getElem?_getD,List.getElem?_eq_getElem hi];rfl
  rw [← e2]
  exact hQ'
 ·have e1:its.toArray.size=bs.length:=by rw [List.size_toArray,hlen]
  rw [e1,all_range]
  refine ⟨.bl _,H,I.kept (t':=tk) fun b o eb=>hk b o ?_ (Heap.get?_push_of_some _ eb),rfl,q⟩
  intro hm
  have:b=s.heap.objs.size:=by simpa using hm
  exact absurd (Heap.lt_size eb) (by rw [this];exact Nat.lt_irrefl _)
end
section
variable {X:Cx} {a b c e:Expr} {f fa fb fc:Dm.FE} {p p2 pos:Pos}
theorem C4 {r r':R2} {g h:Dm.Dat→Dm.Dat→Option Dm.RV} (o1:OpD r g) (o2:OpD r' h) {σ:L2.St} {H:Hp} {Q:VK} (hh:tD (Dm.fK g h fa fb fc) σ H Q):za r r' (tD fa) (tD fb) (tD fc) σ H Q:=by
 obtain ⟨H0,ρ,x,ρ',st,e,k⟩:=hh
 unfold Dm.fK at e
 split at e
 ·cases e
 rename_i x1 ρ1 e1
 split at e
 ·cases e
 rename_i y1 ρ2 e2
 split at e
 ·cases e
 rename_i dx p1
 split at e
 ·cases e
 rename_i dy p2
 refine ⟨H0,ρ,x1,ρ1,st,e1,fun v H1 Hb t1 r1=>⟨H1,ρ1,y1,ρ2,t1.st,e2,fun u H2 Hc t2 r2=>?_⟩⟩
 split at e
 ·rename_i gz
  refine o1 H2 Hc v u dx dy _ _ t2.st.same ((r1.mono t2).look t2.st p1) (r2.look t2.st p2) gz fun w H3 Hd g3 r3=>?_
  refine ⟨true,Rep.pB r3,?_⟩
  rw [if_pos rfl]
  have t3:=t2.trans (.grow t2.st g3)
  have r2':=r2.mono (.grow t2.st g3)
  split at e
  ·cases e
  rename_i z ρ3 e3
  split at e
  ·cases e
  rename_i dy' p3
  split at e
  ·cases e
  rename_i dz p4
  split at e
  ·cases e
  rename_i w2 hz
  cases e
  refine ⟨H3,ρ2,z,_,t3.st,e3,fun w' H4 He t4 r4=>?_⟩
  refine o2 H4 He u w' dy' dz w2 Q t4.st.same ((r2'.mono t4).look t4.st p3) (r4.look t4.st p4) hz fun w5 H5 Hf g5 r5=>?_
  exact k w5 H5 Hf (t1.trans (t3.trans (t4.trans (.grow t4.st g5)))) ((r5.toV t4.st).early fun a n=>(t1.trans (t3.trans t4)).stp.gone n)
 ·rename_i gz
  cases e
  refine o1 H2 Hc v u dx dy _ _ t2.st.same ((r1.mono t2).look t2.st p1) (r2.look t2.st p2) gz fun w H3 Hd g3 r3=>?_
  refine ⟨false,Rep.pB r3,?_⟩
  rw [if_neg Bool.false_ne_true]
  exact k _ H3 Hd (t1.trans (t2.trans (.grow t2.st g3))) (Rep.bl false)
 ·cases e
theorem vD {op op':CmpOp} {r r':R2} {g h:Dm.Dat→Dm.Dat→Option Dm.RV} (o1:OpR X (compareOp op) r) (q1:OpD r g) (o2:OpR X (compareOp op') r') (q2:OpD r' h) (ha:DE X a fa) (hb:DE X b fb) (hc:DE X c fc)
  (hm:lastMarks [op,op'] [b,c]=false:=by with_unfolding_all rfl):DE X (.Compare a [op,op'] [b,c] pos) (Dm.fK g h fa fb fc):=PE.weak (zb o1 o2 ha hb hc hm) fun _ _ _=>C4 q1 q2
end
section
variable {X:Cx} {nm:List Str} {elt tg iter:Expr} {ifs:List Expr} {scope:Scope} {pos:Pos} {own:List Str} {fi:Dm.FI} {bd:Dm.FB} {is:List Nat} {t:Dm.FT} {f:Dm.FE}
noncomputable abbrev DTs (X:Cx) (ifs:List Expr) (t:Dm.FT):Prop:=PTs X ifs (tDT t)
theorem jF:DTs X [] Dm.gJ:=fun pins s σ H Q I h=>by
 obtain ⟨H0,ρ,b,ρ',st,e,k⟩:=h
 cases e
 exact pI pins s σ H Q I (k H0 H (.refl st))
theorem jG {c:Expr} (h:DT X c t):DTs X [c] t:=CQ h
structure TGc (X:Cx) (nm:List Str) (scope:Scope) (own:List Str) (tg:Expr) (is:List Nat) (bd:Dm.FB):Prop where
 ex:∃ g,(∀ cl C s H fp,PG (br X nm scope own cl C s H fp) tg g)∧BD is g bd
theorem c_n (i:Nat) {x:Str} {px:Pos} (hN:(nm++own).Nodup) (hi:(nm++own)[i]?=some x) (hx:(relabel scope X.env).names.lookup x=some .local):TGc X nm scope own (.Name x px) [i] (Dm.bN i):=
 ⟨⟨_,fun cl C s H fp=>kH (X:=br X nm scope own cl C s H fp) hN hi (.inl hx) (.inr hx),vp i⟩⟩
theorem G3 (j:Nat) {y:Str} {py spos:Pos} (hN:X.N.Nodup) (hc:X.calm=true) (S:di X nm scope) (hi:DI X tg iter fi) (hg:TGc X nm scope own tg is bd) (ht:∀ cl C s H fp,DTs (br X nm scope own cl C s H fp) ifs t) (he:∀ cl C s H fp,DE (br X nm scope own cl C s H fp) elt f)
  (hl:∀ i∈is,X.N.length≤i) (hj:X.N[j]?=some y:=by rfl) (hy:Loc X.env.scope y:=by first | exact Or.inl rfl | exact Or.inr rfl)
  (hsw:swapsWith (.ListComp elt [⟨tg,iter,ifs,0⟩] scope pos) (some (.Name y py)) spos.line X.env=pure true:=by rfl) (hs:∀ x,foldedSetIterable iter X.env x=pure x:=by intro _;rfl)
  (hf:X.fn y=true∨X.env.scope.names.lookup y=some .local:=by first | exact .inl rfl | exact .inr rfl | assumption):DS X (.Assign [.Name y py] (.ListComp elt [⟨tg,iter,ifs,0⟩] scope pos) spos) (Dm.sA j (Dm.fF fi own.length bd t f)):=by
 obtain ⟨g,h1,h2⟩:=hg.ex
 intro pins s σ H D I h
 exact fN hN hj hy hc S hi h1 ht he hsw hs hf pins s σ H D I (tQ h2 (fun i hi=>by rw [I.len];exact hl i hi) (ER h))
end
theorem lD {H0:Hp}:∀ {ds:List Dm.Dat} {bs:List Bool} {vs:List V},ay H0 vs ds→Dm.bools ds=some bs→vs=bs.map V.bl
 | [],bs,vs,r,e=>by cases r;cases e;rfl
 | .bl b::ds,bs,vs,r,e=>by
  cases r with
  | cons r rs=>
   unfold Dm.bools at e
   cases q:Dm.bools ds with
   | none=>rw [q] at e;cases e
   | some cs=>
    rw [q] at e
    cases e
    cases Rep.pB r
    rw [lD rs q]
    rfl
 | .non::ds,bs,vs,r,e=>by cases e
 | .int _::ds,bs,vs,r,e=>by cases e
 | .str _::ds,bs,vs,r,e=>by cases e
 | .tup _::ds,bs,vs,r,e=>by cases e
 | .lst _::ds,bs,vs,r,e=>by cases e
 | .dct _ _::ds,bs,vs,r,e=>by cases e
theorem G4:CallD (fun xs H Q=>∃ (a:Addr) (bs:List Bool),xs=[.ref a]∧Rd H a (.lst (bs.map V.bl))∧Q (.bl (bs.all id)) H) Dm.tL:=by
 intro H0 H vs ds z Q s rs e k
 unfold Dm.tL at e
 split at e
 ·split at e
  ·rename_i bs hb
   cases e
   cases rs with
   | cons r rr=>
    cases rr
    obtain ⟨a,us,rfl,qa,ra⟩:=bI s r
    have:=lD ra hb
    subst this
    exact ⟨a,bs,rfl,qa,k _ H0 H (aD.refl s) (.bl _)⟩
  ·cases e
 ·cases e
theorem G5:CallD (fun xs H Q=>(∃ i,xs=[.int i]∧Q (.int i) H)∨∃ k,xs=[.bl k]∧Q (.int (if k then 1 else 0)) H) Dm.tM:=by
 intro H0 H vs ds z Q s rs e k
 unfold Dm.tM at e
 split at e
 ·cases e
  cases rs with
  | cons r rr=>
   cases rr
   cases az r
   exact .inl ⟨_,rfl,k _ H0 H (aD.refl s) (.int _)⟩
 ·cases e
  cases rs with
  | cons r rr=>
   cases rr
   cases vt r
   exact .inr ⟨_,rfl,k _ H0 H (aD.refl s) (.int _)⟩
 ·cases e
section
variable {X:Cx} {a b c e:Expr} {f:Dm.FE} {fs:List Dm.FE} {p p2 pos:Pos}
theorem EW (hc:X.calm=true) (hg:Gl X "all") (hm:X.mg "all" = none) (ha:DA X [e] fs) (he:starEach [e] X.env=[(false,eval e X.env)]:=by rfl) (hpl:(backTo pos (starEach [] X.env)).any (·.1)=false:=by rfl) :
  DE X (.Call (.Name "all" p) [e] [] pos) (Dm.eB Dm.tL fs):=xM (xO hc) G4 (by rfl) hg hm ha (he:=he) (hpl:=hpl)
theorem EX (hg:Gl X "int") (hm:X.mg "int" = none) (ha:DA X [e] fs) (he:starEach [e] X.env=[(false,eval e X.env)]:=by rfl) (hpl:(backTo pos (starEach [] X.env)).any (·.1)=false:=by rfl) :
  DE X (.Call (.Name "int" p) [e] [] pos) (Dm.eB Dm.tM fs):=C2 xq G5 (by rfl) hg hm ha (he:=he) (hpl:=hpl)
end
noncomputable def b_ (sc:Scope):List Str→List Str→Bool
 | [],[]=>true
 | x::N,y::nm=>(x == y||(sc.names.lookup y).isNone)&&b_ sc N nm
 | _,_=>false
theorem b_.len {sc:Scope}:∀ {N nm:List Str},b_ sc N nm=true→nm.length=N.length
 | [],[],_=>rfl
 | [],_::_,h=>by cases h
 | _::_,[],h=>by cases h
 | x::N,y::nm,h=>by
  rw [b_,Bool.and_eq_true] at h
  rw [List.length_cons,List.length_cons,b_.len h.2]
theorem b_.at {sc:Scope}:∀ {N nm:List Str},b_ sc N nm=true→∀ (i:Nat) (x:Str),nm[i]?=some x→N[i]?=some x∨sc.names.lookup x=none
 | [],[],_,i,x,e=>by simp at e
 | [],_::_,h,_,_,_=>by cases h
 | _::_,[],h,_,_,_=>by cases h
 | x::N,y::nm,h,0,z,e=>by
  rw [b_,Bool.and_eq_true,Bool.or_eq_true] at h
  simp at e
  subst e
  rcases h.1 with q | q
  ·have:x=y:=by simpa using q
   subst this
   exact .inl rfl
  ·exact .inr (by simpa using q)
 | x::N,y::nm,h,i+1,z,e=>by
  rw [b_,Bool.and_eq_true] at h
  rw [List.getElem?_cons_succ] at e ⊢
  exact b_.at h.2 i z e
noncomputable def lE (osc:Scope) (N nm:List Str) (sc:Scope):Bool:=
 sc.names.all (fun y=>y.2 != .cell)&&sc.names.all (fun y=>y.2 != .local||sc.names.lookup y.1 == some .local) &&
 sc.names.all (fun y=>y.2 != .free||(osc.names.lookup y.1 == some .cell||osc.names.lookup y.1 == some .free))&&nm.all (fun x=>sc.names.lookup x != some .local)&&b_ sc N nm
theorem di.of {X:Cx} {nm:List Str} {scope:Scope} (h:lE X.env.scope X.N nm scope=true) (hk:scope.kind=.function):di X nm scope:=by
 unfold lE at h
 simp only [Bool.and_eq_true,List.all_eq_true] at h
 obtain ⟨⟨⟨⟨h1,h2⟩,h3⟩,h4⟩,h5⟩:=h
 refine ⟨hk,fun y hy=>?_,fun y hy hl=>?_,fun y hy hf=>?_,fun x hx=>?_,b_.len h5,b_.at h5⟩
 ·have:=h1 y hy;simpa using this
 ·have:=h2 y hy
  rw [hl] at this
  simpa using this
 ·have:=h3 y hy
  rw [hf] at this
  have:(X.env.scope.names.lookup y.1 == some .cell||X.env.scope.names.lookup y.1 == some .free)=true:=by simpa using this
  rw [Bool.or_eq_true,beq_iff_eq,beq_iff_eq] at this
  exact this
 ·have:=h4 x hx;simpa using this
section
variable {X:Cx} {elt tg iter:Expr} {ifs:List Expr} {scope:Scope} {pos:Pos} {fi:Dm.FI} {bd:Dm.FB} {is:List Nat} {t:Dm.FT} {f:Dm.FE}
theorem qT {l:List Nat} {n:Nat} (h:(l.all fun i=>decide (n≤i))=true):∀ i∈l,n≤i:=fun i hi=>of_decide_eq_true (List.all_eq_true.mp h i hi)
theorem LG (j:Nat) (nm own:List Str) {y:Str} {py spos:Pos} (hN:X.N.Nodup) (hg:TGc X nm scope own tg is bd) (hi:DI X tg iter fi) (ht:∀ cl C s H fp,DTs (br X nm scope own cl C s H fp) ifs t) (he:∀ cl C s H fp,DE (br X nm scope own cl C s H fp) elt f)
  (hc:X.calm=true:=by rfl) (hk:scope.kind=.function:=by rfl) (hS:lE X.env.scope X.N nm scope=true:=by rfl) (hl:(is.all fun i=>decide (X.N.length≤i))=true:=by rfl) (hj:X.N[j]?=some y:=by rfl) (hy:Loc X.env.scope y:=by first | exact Or.inl rfl | exact Or.inr rfl)
  (hsw:swapsWith (.ListComp elt [⟨tg,iter,ifs,0⟩] scope pos) (some (.Name y py)) spos.line X.env=pure true:=by rfl) (hs:∀ x,foldedSetIterable iter X.env x=pure x:=by intro _;rfl)
  (hf:X.fn y=true∨X.env.scope.names.lookup y=some .local:=by first | exact .inl rfl | exact .inr rfl | assumption):DS X (.Assign [.Name y py] (.ListComp elt [⟨tg,iter,ifs,0⟩] scope pos) spos) (Dm.sA j (Dm.fF fi own.length bd t f)):=
 G3 j hN hc (di.of hS hk) hi hg ht he (qT hl) hj hy hsw hs hf
end
theorem PI.or {X:Cx} {tg it:Expr} {t t':TI} (h:PI X tg it t) (h':PI X tg it t'):PI X tg it (fun σ H R=>t σ H R∨t' σ H R):=fun pins s σ H R I q=>q.elim (h pins s σ H R I) (h' pins s σ H R I)
theorem JZ {K:PySem.W.Frag} {f:Dm.FE} {σ:L2.St} {H:Hp} {R:It→Hp→Prop} (h:tDI (Dm.iS f) σ H R):kX K (tD f) σ H R∨yV K (tD f) σ H R:=by
 obtain ⟨H0,ρ,ys,ρ',st,e,k⟩:=h
 unfold Dm.iS at e
 split at e
 ·cases e
 rename_i x ρ1 e1
 split at e
 ·rename_i ds ρ2 e2
  cases e
  exact .inl (Lw ⟨H0,ρ,_,_,st,by unfold Dm.iL;rw [e1];dsimp only;rw [e2],k⟩)
 ·rename_i ds ρ2 e2
  cases e
  exact .inr (Lx ⟨H0,ρ,_,_,st,by unfold Dm.iT;rw [e1];dsimp only;rw [e2],k⟩)
 ·cases e
theorem i_S {X:Cx} {tg e:Expr} {f:Dm.FE} (h:DE X e f):DI X tg e (Dm.iS f):=PI.weak (PI.or (kI h) (yW h)) fun _ _ _=>JZ
noncomputable def z0 (K:PySem.W.Frag):Bool:=K.all fun p=>match p.2.cls with | .type n=>n != "list" | _=>true
theorem lookup_mem {a:Addr} {o:Obj}:∀ {K:List (Addr×Obj)},K.lookup a=some o→(a,o)∈K
 | [],h=>by cases h
 | (b,x)::r,h=>by
  rw [List.lookup_cons] at h
  cases q:a == b with
  | true=>
   rw [q] at h
   cases h
   have:a=b:=by simpa using q
   rw [this]
   exact List.mem_cons_self
  | false=>
   rw [q] at h
   exact List.mem_cons_of_mem _ (lookup_mem h)
theorem G6 {f:List Dm.Dat→Option Dm.RV} {K:PySem.W.Frag} {H:Hp} {a:Addr} {ns:List Int} {E:XK} (hf:f [.lst (ns.map Dm.Dat.int)]=some (.val (.bl true))) (hK:z0 K=true) (hS:SqL K H a (ns.map V.int)) :
  spD f [.ref a] H (fun v _=>v=.bl true) E:=by
 have hq:Rd H a (.lst (ns.map V.int)):=by
  rcases hS with h | ⟨o,its,n,hk,hc,_⟩
  ·exact h
  ·have:=List.all_eq_true.mp hK _ (lookup_mem hk)
   dsimp only at this
   rw [hc] at this
   exact absurd this (by decide)
 have hr:∀ ns:List Int,ay H (ns.map V.int) (ns.map Dm.Dat.int):=fun ns=>by
  induction ns with
  | nil=>exact .nil
  | cons n ns ih=>exact .cons (.int n) ih
 exact ⟨H,_,_,aj.refl _,.cons (.lst hq (hr ns)) .nil,hf,fun v H0' H' _ r=>Rep.pB r⟩
end Br
namespace Dm
end Dm
namespace Br
open PySem PySem.Spec PyProof.Rows L2
section
variable {X:Cx} {tg l:Expr} {tl:TE} {p pos:Pos}
end
section
variable {X:Cx} {tg:Expr}
end
section
variable {X:Cx} {l:Expr} {tl:TE} {p pos:Pos} {elts:List Expr} {x1:Nat} {tp:Pos}
end
section
variable {prog:Program} {w:World} {A:Around} {E:Value→Shared→Prop} {s:Shared}
end
section
variable {X:Cx} {l a:Expr} {tl:TE} {ta:TA} {p pos p0 lF:Pos}
end
section
variable {σ:L2.St} {H:Hp} {R:It→Hp→Prop}
end
section
variable {X:Cx} {tg e a b c:Expr} {f fa fb fc:Dm.FE} {p pos p0 lF:Pos} {elts:List Expr} {x1:Nat} {tp:Pos}
end
end Br
namespace Dm
noncomputable def a_ (i:Nat) (own:Nat) (bd:FB) (t:FT) (el:FE):FE:=fun ρ=>match ρ[i]? with
 | some (.ow (.lst ds))=>if ds.length≤SZ then (match eY bd t el ds (ρ.set i .un++List.replicate own .un) [] with
  | none=>none
  | some (ys,ρ2)=>some (.new (.lst ys),(ρ2.take ρ.length).set i (.ow (.lst ds)))) else none
 | _=>fF (iS (eV i)) own bd t el ρ
end Dm
namespace Br
open PySem PySem.Spec PyProof.Rows L2
theorem qU {K:PySem.W.Frag} {H0:Hp} {a:Addr} {xs:List V} {ds:List Dm.Dat} (rs:ay H0 xs ds):JWa (Itl K a) H0 (some (a,.lst xs)) ds:=by
 intro H0' H s0 s1 hq
 have hq:=hq _ rfl
 have q:SqL K H a xs:=.inl (.inl hq)
 refine ⟨fun i hi=>⟨xs,q,by rw [rs.length];exact hi⟩,fun i d e=>?_⟩
 obtain ⟨v,hv,rv⟩:=rs.get e
 refine ⟨⟨xs,v,q,hv⟩,fun x H' y=>?_⟩
 obtain ⟨e1,y⟩:=y
 subst e1
 have z:=y xs q
 rw [hv] at z
 cases z
 exact ⟨H0',aD.refl s1,rv.mono s0⟩
theorem C5 {K:PySem.W.Frag} {σ:L2.St} {H:Hp} {i own:Nat} {bd:Dm.FB} {g:TG} {t:Dm.FT} {el:Dm.FE} {is:List Nat} {Q:VK} (hb:BD is g bd) (hl:∀ i∈is,σ.length≤i) (h:tD (Dm.a_ i own bd t el) σ H Q) :
  tLC (fun σ H R=>kX K (tD (Dm.eV i)) σ H R∨yV K (tD (Dm.eV i)) σ H R) own g (tDT t) (tD el) σ H Q:=by
 obtain ⟨H0,ρ,x,ρ',st,e,k⟩:=h
 unfold Dm.a_ at e
 split at e
 ·rename_i ds eo
  split at e
  case isFalse=>cases e
  rename_i hsz
  split at e
  ·cases e
  rename_i ys ρ2 e2
  cases e
  refine .inl ⟨H0,ρ,.slot i,ρ,st,by unfold Dm.eV;rw [eo],fun v H0' H' t1 r=>?_⟩
  obtain ⟨a,qa,na,xs,ha,rs⟩:=t1.st.ow i _ eo
  obtain ⟨r1,_⟩:=r
  rw [qa] at r1
  cases r1
  have nO:¬ af σ (ρ.set i .un) a:=fun z=>by
   obtain ⟨j,d,hj,h1,h2⟩:=bD z
   exact hj (t1.st.dis j i d _ a h1 eo h2 qa)
  have hlt:i<ρ.length:=(List.getElem?_eq_some_iff.mp eo).1
  refine ⟨a,rfl,⟨xs,.inl (.inl ha)⟩,fun D hD=>qN hb hl (t1.st.mask i) (fun q e=>by cases e;exact ⟨ha,na,nO⟩) (qU rs) hsz e2 (fun v H1 Hc t2 r2 hpa=>?_) D hD⟩
  obtain ⟨ha2,na2⟩:=hpa _ rfl
  rw [List.length_set] at t2 r2
  have oo:∀ b,af σ ((ρ2.take ρ.length).set i (.ow (.lst ds))) b→b=a∨af σ (ρ2.take ρ.length) b:=fun b ⟨j,d,h1,h2⟩=>by
   by_cases q:i=j
   ·subst q;rw [qa] at h2;cases h2;exact .inl rfl
   ·rw [List.getElem?_set_ne q] at h1;exact .inr ⟨j,d,h1,h2⟩
  have om:∀ b,af σ (ρ.set i .un) b→af σ ρ b:=fun b z=>by
   obtain ⟨j,d,hj,h1,h2⟩:=bD z
   exact ⟨j,d,h1,h2⟩
  have oa:af σ ρ a:=⟨i,_,eo,qa⟩
  have nO2:¬ af σ (ρ2.take ρ.length) a:=fun z=>nO (t2.own a z)
  have z5:(ρ2.take ρ.length).length=ρ.length:=by rw [← t2.st.len,st.len]
  refine k v H1 Hc (t1.trans ⟨⟨t2.st.same,by rw [List.length_set];exact t2.st.len,fun j d h=>?_,fun j d h=>?_,fun j j' d d' b h1 h2 h3 h4=>?_⟩,t2.stp.wide om,fun b z=>?_,fun j z=>?_⟩) ?_
  ·by_cases q:i=j
   ·subst q;rw [List.getElem?_set_self (by rw [z5];exact hlt)] at h;cases h
   ·rw [List.getElem?_set_ne q] at h;exact t2.st.sh j d h
  ·by_cases q:i=j
   ·subst q
    rw [List.getElem?_set_self (by rw [z5];exact hlt)] at h
    cases h
    exact ⟨a,qa,na2,xs,ha2,rs.mono t2.stp.s0⟩
   ·rw [List.getElem?_set_ne q] at h;exact t2.st.ow j d h
  ·by_cases q:i=j
   ·subst q
    by_cases q':i=j'
    ·exact q'
    ·rw [List.getElem?_set_ne q'] at h2
     rw [qa] at h3;cases h3
     exact absurd ⟨j',d',h2,h4⟩ nO2
   ·rw [List.getElem?_set_ne q] at h1
    by_cases q':i=j'
    ·subst q'
     rw [qa] at h4;cases h4
     exact absurd ⟨j,d,h1,h3⟩ nO2
    ·rw [List.getElem?_set_ne q'] at h2
     exact t2.st.dis j j' d d' b h1 h2 h3 h4
  ·rcases oo b z with rfl | z
   ·exact oa
   ·exact om b (t2.own b z)
  ·trivial
  ·obtain ⟨D',e',n',no',n0',w'⟩:=r2
   refine ⟨D',e',t1.stp.gone n',fun z=>?_,n0',w'⟩
   rcases oo D' z with rfl | z
   ·rw [n'] at ha;cases ha
   ·exact no' z
 ·have h2:=tQ (fi:=Dm.iS (Dm.eV i)) hb hl ⟨H0,ρ,x,ρ',st,e,k⟩
  exact JZ h2
section
variable {X:Cx} {elt tg:Expr} {ifs:List Expr} {scope:Scope} {pos px:Pos} {bd:Dm.FB} {is:List Nat} {t:Dm.FT} {f:Dm.FE} {x:Str}
theorem i_M (i:Nat) (h:DE X (.Name x px) (Dm.eV i)):PI X tg (.Name x px) (fun σ H R=>kX X.K (tD (Dm.eV i)) σ H R∨yV X.K (tD (Dm.eV i)) σ H R):=PI.or (kI h) (yW h)
theorem gO (i:Nat) (nm own:List Str) (hg:TGc X nm scope own tg is bd) (hi:DE X (.Name x px) (Dm.eV i)) (ht:∀ cl C s H fp,DTs (br X nm scope own cl C s H fp) ifs t) (he:∀ cl C s H fp,DE (br X nm scope own cl C s H fp) elt f)
  (hc:X.calm=true:=by rfl) (hk:scope.kind=.function:=by rfl) (hS:lE X.env.scope X.N nm scope=true:=by rfl) (hl:(is.all fun i=>decide (X.N.length≤i))=true:=by rfl) (hs:∀ y,foldedSetIterable (.Name x px) X.env y=pure y:=by intro _;rfl) :
  DE X (.ListComp elt [⟨tg,.Name x px,ifs,0⟩] scope pos) (Dm.a_ i own.length bd t f):=by
 obtain ⟨g,h1,h2⟩:=hg.ex
 intro pins s σ H Q I h
 exact vq hc (di.of hS hk) (i_M i hi) h1 ht he hs pins s σ H Q I (C5 h2 (fun i hi=>by rw [I.len];exact qT hl i hi) h)
end
end Br
namespace Dm
end Dm
namespace Br
open PySem PySem.Spec PyProof.Rows L2
section
variable {X:Cx} {l l':Expr} {ta:TA} {p pos:Pos} {elts:List Expr} {x1:Nat} {tp:Pos}
end
section
variable {σ:L2.St} {H:Hp} {R:It→Hp→Prop}
end
section
variable {X:Cx} {a b:Expr} {fa fb:Dm.FE} {p pos:Pos} {elts:List Expr} {x1:Nat} {tp:Pos}
end
end Br
namespace Dm
noncomputable def fnM (n m:Nat) (body:FS) (ds:List Dat):Option (RV×Dat):=if ds.length=n then (match ds with
 | d::r=>(match body (Cell.ow d::(r.map Cell.sh++List.replicate m .un)) with
  | some (.ret z ρ')=>(match ρ'[0]? with
   | some (Cell.ow d')=>some (z,d')
   | _=>none)
  | some (.nx ρ')=>(match ρ'[0]? with
   | some (Cell.ow d')=>some (.val .non,d')
   | _=>none)
  | _=>none)
 | []=>none) else none
noncomputable def flat:Dat→Bool
 | .tup xs=>xs.all fun x=>!dJ x
 | d=>!dJ d
noncomputable def pL:Dat→Bool
 | .lst xs=>xs.all fun x=>!dJ x
 | _=>false
noncomputable def eFm (f:List Dat→Option (RV×Dat)) (j:Nat) (as:List FE):FE:=fun ρ=>match ρ[j]? with
 | some (.ow _)=>(match eAs as ρ with
  | none=>none
  | some (xs,ρ1)=>(match ρ1[j]? with
   | some (.ow d1)=>(match tks ρ1 xs with
    | none=>none
    | some (ds,ρ2)=>(match ρ2[j]? with
     | some (.ow d)=>(match f (d::ds) with
      | none=>none
      | some (v,d')=>if flat v.dat&&pL d' then some (v.bq,ρ1.set j (.ow d')) else some (v.bq,ρ2.set j (.ow d')))
     | _=>none))
   | _=>none))
 | _=>none
end Dm
namespace Br
open PySem PySem.Spec PyProof.Rows L2
noncomputable def spM (f:List Dm.Dat→Option (Dm.RV×Dm.Dat)):Sp:=fun vs H Q _=>∃ H0 a us d ds z d',vs=V.ref a::us∧aj H0 H∧H0 a=none∧Own H0 H a d∧ay H0 us ds∧f (d::ds)=some (z,d') ∧
 ∀ v H0' H',Stp (fun b=>b=a) H0 H H0' H'→aj H0' H'→H0' a=none→Own H0' H' a d'→pq H H0' H' v z→Q v H'
theorem gm {n m:Nat} {body:Dm.FS} {vs:List V} {H:Hp} {Q:VK} {E:XK} (h:spM (Dm.fnM n m body) vs H Q E):vs.length=n:=by
 obtain ⟨H0,a,us,d,ds,z,d',e,_,_,_,rs,ef,_⟩:=h
 unfold Dm.fnM at ef
 split at ef
 ·rename_i hl
  rw [e,List.length_cons,rs.length]
  simpa using hl
 ·cases ef
theorem ao.jH {H0 H:Hp} {σ:L2.St} {ρ:Dm.Env} {j:Nat} {a:Addr} {d:Dm.Dat} (st:ao H0 H σ ρ) (q:σ[j]?=some (some (V.ref a))) (no:¬ af σ ρ a) (n0:H0 a=none) (w:Own H0 H a d):ao H0 H σ (ρ.set j (.ow d)):=by
 have:=st.zH (i:=j) no n0 w
 have e:σ.set j (some (V.ref a))=σ:=by
  apply List.ext_getElem?
  intro i
  by_cases h:j=i
  ·subst h
   have hl:j<σ.length:=(List.getElem?_eq_some_iff.mp q).1
   rw [List.getElem?_set_self hl,q]
  ·rw [List.getElem?_set_ne h]
 rw [e] at this
 exact this
theorem ao.off {H0 H H0' H':Hp} {σ:L2.St} {ρ:Dm.Env} {a:Addr} (st:ao H0 H σ ρ) (s0:aj H0 H0') (ss:aj H0' H') (no:¬ af σ ρ a) (s1:∀ b o,H b=some o→b≠a→H' b=some o) (s2:∀ (i:Nat) (d:Dm.Dat) (b:Addr),ρ[i]?=some (Dm.Cell.ow d)→σ[i]?=some (some (V.ref b))→H0' b=none):ao H0' H' σ ρ where
 same:=ss
 len:=st.len
 sh:=fun i d e=>by
  obtain ⟨v,q,r⟩:=st.sh i d e
  exact ⟨v,q,r.mono s0⟩
 ow:=fun i d e=>by
  obtain ⟨b,q,n,w⟩:=st.ow i d e
  obtain ⟨o,z⟩:=w.some
  have nb:b≠a:=fun y=>no ⟨i,d,e,y▸q⟩
  exact ⟨b,q,s2 i d b e q,w.mono s0 ((s1 b o z nb).trans z.symm)⟩
 dis:=st.dis
theorem eN {H0 H1:Hp}:∀ {xs:List V} {ds:List Dm.Dat},ay H0 xs ds→(ds.all fun x=>!Dm.dJ x)=true→ay H1 xs ds
 | _,_,.nil,_=>.nil
 | _,_,.cons r rs,h=>by
  rw [List.all_cons,Bool.and_eq_true] at h
  exact .cons (Rep.plain r (by simpa using h.1)) (eN rs h.2)
section
variable {σ:L2.St} {H:Hp} {Q:VK}
theorem C6 {f:List Dm.Dat→Option (Dm.RV×Dm.Dat)} {j:Nat} {fs:List Dm.FE} {E:XK} (h:tD (Dm.eFm f j fs) σ H Q):fD (spM f) [] E (tDA (Dm.eV j::fs)) σ H Q:=by
 obtain ⟨H0,ρ,x,ρ',st,e,k⟩:=h
 unfold Dm.eFm at e
 split at e
 case h_2=>cases e
 rename_i d0 h0
 split at e
 ·cases e
 rename_i xs ρ1 e1
 split at e
 case h_2=>cases e
 rename_i d1 h1
 split at e
 ·cases e
 rename_i ds ρ2 e2
 split at e
 case h_2=>cases e
 rename_i d h2
 split at e
 ·cases e
 rename_i z d' fz
 have ea:Dm.eAs (Dm.eV j::fs) ρ=some (.slot j::xs,ρ1):=by
  unfold Dm.eAs
  rw [show Dm.eV j ρ=some (.slot j,ρ) from by unfold Dm.eV;rw [h0]]
  dsimp only
  rw [e1]
 refine ⟨H0,ρ,.slot j::xs,ρ1,st,ea,fun vs H1 Hb t1 r1=>?_⟩
 dsimp only
 rw [List.append_nil]
 cases r1 with
 | cons r0 rr=>
  obtain ⟨H2,t2,b2,r2⟩:=takes t1 (aj.refl _) rr e2
  obtain ⟨a,qa,na,wa⟩:=t2.st.ow j d h2
  obtain ⟨q0,_⟩:=r0
  rw [qa] at q0
  cases q0
  obtain ⟨a1,qa1,na1,wa1⟩:=t1.st.ow j d1 h1
  rw [qa] at qa1
  cases qa1
  obtain ⟨oa,ha⟩:=wa.some
  have hl2:j<ρ2.length:=(List.getElem?_eq_some_iff.mp h2).1
  have hl1:j<ρ1.length:=(List.getElem?_eq_some_iff.mp h1).1
  have oa0:af σ ρ a:=t1.own a ⟨j,d1,h1,qa⟩
  refine ⟨H2,a,_,d,ds,z,d',rfl,t2.st.same,na,wa,r2,fz,fun v H3 Hd s3 ss n3 w3 r3=>?_⟩
  have no2:¬ af σ (ρ2.set j .un) a:=fun y=>by
   obtain ⟨i,d4,hi,y1,y2⟩:=bD y
   exact hi (t2.st.dis i j d4 d a y1 h2 y2 qa)
  have no1:¬ af σ (ρ1.set j .un) a:=fun y=>by
   obtain ⟨i,d4,hi,y1,y2⟩:=bD y
   exact hi (t1.st.dis i j d4 d1 a y1 h1 y2 qa)
  split at e
  ·rename_i fl
   cases e
   rw [Bool.and_eq_true] at fl
   obtain ⟨f1,f2⟩:=fl
   have wp:∀ H',Own H' Hd a d':=fun H'=>by
    cases d' with
    | lst ys=>
     obtain ⟨us,y1,y2⟩:=w3
     exact ⟨us,y1,eN y2 f2⟩
    | _=>cases f2
   have fin:∀ H1':Hp,aj H1 H1'→aj H1' Hd→(∀ b o,H1' b=some o→H1 b=some o∨((∃ us,o=.tup us)∧H3 b=some o))→fm H H1' Hd σ (ρ1.set j (.ow d')) v z.bq→Q v Hd:=fun H1' m1 m2 m3 rv=>by
    have hd3:∀ b,H1' b≠none→b≠a:=fun b hb y=>by
     subst y
     cases y2:H1' b with
     | none=>exact hb y2
     | some o=>
      rcases m3 b o y2 with y3 | ⟨_,y3⟩
      ·rw [na1] at y3;cases y3
      ·rw [n3] at y3;cases y3
    have n1':H1' a=none:=by
     cases y:H1' a with
     | none=>rfl
     | some o=>exact absurd rfl (hd3 a (by rw [y];exact fun q=>nomatch q))
    have sm:ao H1' Hd σ (ρ1.set j .un):=by
     refine (t1.st.mask j).off m1 m2 no1 (fun b o y nb=>s3.s1 b o y nb) fun i d4 b y1 y2=>?_
     obtain ⟨b',q',nb',w'⟩:=(t1.st.mask j).ow i d4 y1
     rw [y2] at q'
     cases q'
     cases y:H1' b with
     | none=>rfl
     | some o=>
      rcases m3 b o y with y3 | ⟨⟨us,y4⟩,y3⟩
      ·rw [nb'] at y3;cases y3
      ·subst y4
       have nb:b≠a:=hd3 b (by rw [y];exact fun q=>nomatch q)
       cases d4 with
       | lst _=>
        obtain ⟨ws,z1,_⟩:=w'
        have z2:=s3.s1 b _ z1 nb
        rw [ss _ _ y3] at z2
        cases z2
       | dct _ _=>
        obtain ⟨ws,z1,_⟩:=w'
        have z2:=s3.s1 b _ z1 nb
        rw [ss _ _ y3] at z2
        cases z2
       | _=>exact False.elim w'
    have sf:ao H1' Hd σ (ρ1.set j (.ow d')):=by
     have:=sm.jH qa no1 n1' (wp H1')
     rw [List.set_set] at this
     exact this
    refine k v H1' Hd ⟨sf,⟨t1.stp.s0.trans m1,fun b o y nb=>?_,fun b o y=>?_,fun b o y=>?_⟩,fun b y=>?_,fun i y=>?_⟩ rv
    ·have y1:=t1.stp.s1 b o y nb
     exact s3.s1 b o y1 fun q=>nb (by rw [q];exact oa0)
    ·rcases m3 b o y with y3 | ⟨_,y3⟩
     ·exact t1.stp.s2 b o y3
     ·rcases s3.s2 b o y3 with y4 | y4 | y4
      ·exact .inl (t1.stp.gone y4)
      ·exact t2.stp.s2 b o y4
      ·subst y4;rw [n3] at y3;cases y3
    ·obtain ⟨o',y1⟩:=t1.stp.s3 b o y
     exact s3.s3 b o' y1
    ·obtain ⟨i,d4,y1,y2⟩:=y
     by_cases hi:j=i
     ·subst hi
      rw [qa] at y2
      cases y2
      exact oa0
     ·rw [List.getElem?_set_ne hi] at y1
      exact t1.own b ⟨i,d4,y1,y2⟩
    ·trivial
   have m0:aj H1 Hd:=fun b o y=>s3.s1 b o (t1.st.same _ _ y) fun q=>by rw [q,na1] at y;cases y
   cases z with
   | new d4=>
    obtain ⟨_,_,_,_,w⟩:=r3
    cases d4 with
    | lst _=>cases f1
    | dct _ _=>cases f1
    | _=>exact False.elim w
   | val d4=>
    have r3':Rep H3 v d4:=r3
    cases d4 with
    | tup es=>
     cases r3' with
     | tup q rs=>
      rename_i a2 us
      have rp:ay H1 us es:=eN rs f1
      refine fin (upd H1 a2 (.tup us)) (fun b o y=>?_) (fun b o y=>?_) (fun b o y=>?_) (.tup au (eN rs f1))
      ·by_cases hb:b=a2
       ·subst hb
        have:=s3.s0 _ _ (b2 _ _ y)
        rw [q] at this
        rw [au,this]
       ·rw [aq hb];exact y
      ·by_cases hb:b=a2
       ·subst hb
        rw [au] at y
        cases y
        exact ss _ _ q
       ·rw [aq hb] at y;exact m0 _ _ y
      ·by_cases hb:b=a2
       ·subst hb
        rw [au] at y
        cases y
        exact .inr ⟨⟨us,rfl⟩,q⟩
       ·rw [aq hb] at y;exact .inl y
    | lst _=>cases f1
    | dct _ _=>cases f1
    | exc _=>cases f1
    | fn _=>exact fin H1 (aj.refl _) m0 (fun b o y=>.inl y) (Rep.plain r3' rfl)
    | non=>exact fin H1 (aj.refl _) m0 (fun b o y=>.inl y) (Rep.plain r3' rfl)
    | bl _=>exact fin H1 (aj.refl _) m0 (fun b o y=>.inl y) (Rep.plain r3' rfl)
    | int _=>exact fin H1 (aj.refl _) m0 (fun b o y=>.inl y) (Rep.plain r3' rfl)
    | str _=>exact fin H1 (aj.refl _) m0 (fun b o y=>.inl y) (Rep.plain r3' rfl)
  ·cases e
   have sm:ao H3 Hd σ (ρ2.set j .un):=by
    refine (t2.st.mask j).off s3.s0 ss no2 (fun b o y nb=>s3.s1 b o y nb) fun i d4 b y1 y2=>?_
    obtain ⟨b',q',nb',w'⟩:=(t2.st.mask j).ow i d4 y1
    rw [y2] at q'
    cases q'
    obtain ⟨ob,hob⟩:=w'.some
    cases y:H3 b with
    | none=>rfl
    | some o=>
     rcases s3.s2 b o y with y3 | y3 | y3
     ·rw [hob] at y3;cases y3
     ·rw [nb'] at y3;cases y3
     ·exact absurd ⟨i,d4,y1,y3▸y2⟩ no2
   have sf:ao H3 Hd σ (ρ2.set j (.ow d')):=by
    have:=sm.jH qa no2 n3 w3
    rw [List.set_set] at this
    exact this
   have of:∀ b,af σ (ρ2.set j (.ow d')) b→b=a∨af σ ρ2 b:=fun b ⟨i,d4,y1,y2⟩=>by
    by_cases hi:j=i
    ·subst hi
     rw [qa] at y2
     cases y2
     exact .inl rfl
    ·rw [List.getElem?_set_ne hi] at y1
     exact .inr ⟨i,d4,y1,y2⟩
   refine k v H3 Hd ⟨sf,t2.stp.trans s3 (fun b y=>.inl (y▸oa0)),fun b y=>?_,fun i y=>?_⟩ ?_
   ·rcases of b y with y | y
    ·exact y▸oa0
    ·exact t2.own b y
   ·trivial
   ·cases z with
    | val d4=>exact r3
    | new d4=>
     obtain ⟨b,y0,y1,y2,y3⟩:=r3
     refine ⟨b,y0,t2.stp.gone y1,fun y=>?_,y2,y3⟩
     rcases of b y with y | y
     ·subst y;rw [ha] at y1;cases y1
     ·exact t2.st.aZ y1 y
end
theorem aL {X:Cx} {es:List Expr} {p pos px:Pos} {k:Nat} {F:Addr} {fd:FuncData} {ps:List Str} {g:List Dm.Dat→Option (Dm.RV×Dm.Dat)} {x y:Str} {j:Nat} {fs:List Dm.FE} (G:aR X.prog X.w X.K X.mg X.base CX0 k F fd ps (spM g)) (hr:aU k X.A) (hg:Gl X x) (hm:X.mg x=some (.ref F)) (hk:PySem.W.keepIn X.K (.ref F)=true) (hb:Binds X.K fd ps [])
  (ha:DA X (.Name y px::es) (Dm.eV j::fs)) (hdb:(x == ("__debug__" : Str))=false:=by decide) (he:starEach (.Name y px::es) X.env=(false,eval (.Name y px) X.env)::starEach es X.env:=by rfl) (hpl:(backTo pos (starEach es X.env)).any (·.1)=false:=by rfl) :
  DE X (.Call (.Name x p) (.Name y px::es) [] pos) (Dm.eFm g j fs):=PE.weak (cT G hr hg hm hk hb .nil (gH (X:=X)) ha hdb he hpl) fun _ _ _=>C6
theorem qV {N:List Str} {n m:Nat} {body:Dm.FS} {vs:List V} {H:Hp} {Q:VK} {E:XK} (hm:N.length=n+m) (h:spM (Dm.fnM n m body) vs H Q E) :
  tDS body { nx:=fun _ H'=>Q .non H',rt:=Q } (start N vs) H:=by
 have hvn:=gm h
 obtain ⟨H0,a,us,d,ds,z,d',e,s,na,wa,rs,ef,k⟩:=h
 subst e
 have hl:=rs.length
 rw [List.length_cons] at hvn
 have e0:(start N (V.ref a::us))[0]?=some (some (V.ref a)):=rfl
 have get:∀ {i:Nat} {c:Dm.Cell},(Dm.Cell.ow d::(ds.map Dm.Cell.sh++List.replicate m .un))[i]?=some c→(i=0∧c=.ow d)∨(∃ i' d4,i=i'+1∧ds[i']?=some d4∧c=.sh d4)∨c=.un:=fun {i c} y=>by
  cases i with
  | zero=>cases y;exact .inl ⟨rfl,rfl⟩
  | succ i=>
   rw [List.getElem?_cons_succ] at y
   by_cases hi:i<ds.length
   ·rw [List.getElem?_append_left (by simpa using hi),List.getElem?_map,List.getElem?_eq_getElem hi] at y
    cases y
    exact .inr (.inl ⟨i,ds[i],rfl,List.getElem?_eq_getElem hi,rfl⟩)
   ·rw [List.getElem?_append_right (by simpa using hi),List.getElem?_replicate] at y
    split at y
    ·cases y;exact .inr (.inr rfl)
    ·cases y
 have ow0:∀ {i:Nat} {d4:Dm.Dat},(Dm.Cell.ow d::(ds.map Dm.Cell.sh++List.replicate m .un))[i]?=some (.ow d4)→i=0∧d4=d:=fun {i d4} y=>by
  rcases get y with ⟨y1,y2⟩ | ⟨_,_,_,_,y2⟩ | y2
  ·cases y2;exact ⟨y1,rfl⟩
  ·cases y2
  ·cases y2
 have oa:∀ b,af (start N (V.ref a::us)) (Dm.Cell.ow d::(ds.map Dm.Cell.sh++List.replicate m .un)) b→b=a:=fun b ⟨i,d4,y1,y2⟩=>by
  obtain ⟨y3,_⟩:=ow0 y1
  subst y3
  rw [e0] at y2
  cases y2
  rfl
 have st:ao H0 H (start N (V.ref a::us)) (Dm.Cell.ow d::(ds.map Dm.Cell.sh++List.replicate m .un)):=by
  refine ⟨s,?_,fun i d4 y=>?_,fun i d4 y=>?_,fun i i' d4 d5 b y1 y2 _ _=>(ow0 y1).1.trans (ow0 y2).1.symm⟩
  ·unfold L2.start
   simp only [List.length_append,List.length_map,List.length_replicate,List.length_cons]
   omega
  ·rcases get y with ⟨_,y2⟩ | ⟨i',d5,y1,y2,y3⟩ | y2
   ·cases y2
   ·cases y3
    subst y1
    obtain ⟨v,hv,r⟩:=rs.get y2
    refine ⟨v,?_,r⟩
    have hi:i'<us.length:=(List.getElem?_eq_some_iff.mp hv).1
    unfold L2.start
    rw [List.getElem?_append_left (by simp;omega),List.getElem?_map,List.getElem?_cons_succ,hv]
    rfl
   ·cases y2
  ·obtain ⟨y1,y2⟩:=ow0 y
   subst y1 y2
   exact ⟨a,e0,na,wa⟩
 have fin:∀ {σ':L2.St} {ρ':Dm.Env} {H0' H':Hp},SSt (start N (V.ref a::us)) (Dm.Cell.ow d::(ds.map Dm.Cell.sh++List.replicate m .un)) H0 H σ' ρ' H0' H'→ρ'[0]?=some (.ow d')→Stp (fun b=>b=a) H0 H H0' H'∧H0' a=none∧Own H0' H' a d'∧af σ' ρ' a:=fun {σ' ρ' H0' H'} t y=>by
  obtain ⟨a',q',n',w'⟩:=t.st.ow 0 d' y
  have fx:=t.fx
  rw [e0,q'] at fx
  cases fx
  exact ⟨t.stp.wide fun b z=>oa b z,n',w',0,d',y,q'⟩
 unfold Dm.fnM at ef
 split at ef
 case isFalse=>cases ef
 dsimp only at ef
 split at ef
 ·rename_i z' ρ' e1
  split at ef
  case h_2=>cases ef
  rename_i d4 y
  cases ef
  refine ⟨H0,_,_,st,e1,fun σ' v H0' H' t r no=>?_⟩
  obtain ⟨f1,f2,f3,f4⟩:=fin t y
  refine k v H0' H' f1 t.st.same f2 f3 ?_
  cases z with
  | val d5=>exact r
  | new d5=>
   obtain ⟨b,y0,y1,y2,y3⟩:=r
   refine ⟨b,y0,?_,y2,y3⟩
   rcases y1 with y1 | y1
   ·exact y1
   ·exact absurd f4 (oa b y1▸no d5 b rfl y0)
 ·rename_i ρ' e1
  split at ef
  case h_2=>cases ef
  rename_i d4 y
  cases ef
  refine ⟨H0,_,_,st,e1,fun σ' H0' H' t=>?_⟩
  obtain ⟨f1,f2,f3,f4⟩:=fin t y
  exact k _ H0' H' f1 t.st.same f2 f3 .non
 ·cases ef
end Br
namespace Dm
noncomputable def bz:List Int→List Dat→Int→Option Dat
 | k::ks,v::vs,i=>if k=i then some v else bz ks vs i
 | _,_,_=>none
noncomputable def vE:List Int→List Dat→Int→Dat→List Dat
 | k::ks,v::vs,i,d=>(if k=i then d else v)::vE ks vs i d
 | _,_,_,_=>[]
noncomputable def i_ (ks:List Int) (i:Int):List Int:=if (ks.any fun k=>decide (k=i))=true then ks else ks++[i]
noncomputable def jb (ks:List Int) (vs:List Dat) (i:Int) (d:Dat):List Dat:=if (ks.any fun k=>decide (k=i))=true then vE ks vs i d else vs++[d]
noncomputable def eDn:FE:=fun ρ=>some (.new (.dct [] []),ρ)
noncomputable def gDx:Dat→Dat→Option RV
 | .dct ks vs,.int i=>(bz ks vs i).map .val
 | _,_=>none
noncomputable def xP:Dat→Dat→Option RV
 | .int i,.dct ks vs=>vB (bz ks vs i).isSome
 | _,_=>none
noncomputable def n9:Dat→Dat→Option RV
 | .int i,.dct ks vs=>vB (!(bz ks vs i).isSome)
 | _,_=>none
noncomputable def j3 (a b:FE):FE:=fun ρ=>match a ρ with
 | none=>none
 | some (x,ρ1)=>match pk ρ1 x with
  | some (.dct _ _)=>(match b ρ1 with
   | none=>none
   | some (y,ρ2)=>match pk ρ2 x with
    | some (.dct ks vs)=>(match pk ρ2 y with
     | some (.int i)=>some (.val ((bz ks vs i).getD .non),ρ2)
     | _=>none)
    | _=>none)
  | _=>none
noncomputable def eD1 (a b:FE):FE:=fun ρ=>match a ρ with
 | some (.val (.int i),ρ1)=>(match b ρ1 with
  | none=>none
  | some (x,ρ2)=>match tk ρ2 x with
   | none=>none
   | some (d,ρ3)=>some (.new (.dct [i] [d]),ρ3))
 | _=>none
noncomputable def j4 (i:Nat) (j e:FE):FS:=fun ρ=>match e ρ with
 | none=>none
 | some (x,ρ1)=>match tk ρ1 x with
  | none=>none
  | some (d,ρ2)=>match ρ2[i]? with
   | some (.ow _)=>(match j ρ2 with
    | some (.val (.int k),ρ3)=>(match ρ3[i]? with
     | some (.ow (.dct ks vs))=>if ks.length<SZ then some (.nx (ρ3.set i (.ow (.dct (i_ ks k) (jb ks vs k d))))) else none
     | _=>none)
    | _=>none)
   | _=>none
end Dm
namespace Br
open PySem PySem.Spec PyProof.Rows L2
theorem dj {H0 H:Hp} (s:aj H0 H) {v:V} {ks:List Int} {ds:List Dm.Dat} (r:jD H0 H v (.dct ks ds)):∃ a kvs,v=.ref a∧H a=some (.dK kvs)∧kvs.map (·.1)=ks.map Sum.inl∧ay H0 (kvs.map (·.2)) ds:=by
 rcases r with r | ⟨a,e,kvs,q,ek,rs⟩
 ·cases r with
  | dct q ek rs=>exact ⟨_,_,rfl,s _ _ q,ek,rs⟩
 ·exact ⟨a,kvs,e,q,ek,rs⟩
theorem pM {a b:Int} (h:¬ a=b):¬ (Sum.inl a:Key)=Sum.inl b:=fun q=>h (Sum.inl.inj q)
theorem gp {H0:Hp} (i:Int):∀ {kvs:List (Key×V)} {ks:List Int} {ds:List Dm.Dat},kvs.map (·.1)=ks.map Sum.inl→ay H0 (kvs.map (·.2)) ds →
  (∃ d v,Dm.bz ks ds i=some d∧gT kvs (Sum.inl i)=some v∧Rep H0 v d)∨(Dm.bz ks ds i=none∧gT kvs (Sum.inl i)=none)
 | [],[],_,_,r=>by cases r;exact .inr ⟨rfl,rfl⟩
 | [],_::_,_,e,_=>by cases e
 | _::_,[],_,e,_=>by cases e
 | (k0,v0)::kvs,k::ks,_,e,r=>by
  rw [List.map_cons] at r
  cases r with
  | cons r0 rr=>
   rw [List.map_cons,List.map_cons] at e
   injection e with e1 e2
   have e1:k0=Sum.inl k:=e1
   subst e1
   unfold Dm.bz
   by_cases h:k=i
   ·subst h
    rw [if_pos rfl]
    exact .inl ⟨_,v0,rfl,iU rfl,r0⟩
   ·rw [if_neg h,iV (pM h)]
    exact gp i e2 rr
theorem z6 (i:Int):∀ {kvs:List (Key×V)} {ks:List Int},kvs.map (·.1)=ks.map Sum.inl→(kvs.any fun kv=>decide (kv.1=Sum.inl i))=(ks.any fun k=>decide (k=i))
 | [],[],_=>rfl
 | [],_::_,e=>by cases e
 | _::_,[],e=>by cases e
 | (k0,v0)::kvs,k::ks,e=>by
  rw [List.map_cons,List.map_cons] at e
  injection e with e1 e2
  have e1:k0=Sum.inl k:=e1
  subst e1
  rw [List.any_cons,List.any_cons,z6 i e2]
  congr 1
  by_cases h:k=i
  ·subst h;simp
  ·have:=pM h;simp [h,this]
theorem vF {H0:Hp} (i:Int) {v:V} {d:Dm.Dat} (rv:Rep H0 v d):∀ {kvs:List (Key×V)} {ks:List Int} {ds:List Dm.Dat},kvs.map (·.1)=ks.map Sum.inl→ay H0 (kvs.map (·.2)) ds →
  ((kvs.map fun kv=>if kv.1=Sum.inl i then (kv.1,v) else kv).map (·.1)=ks.map Sum.inl)∧ay H0 ((kvs.map fun kv=>if kv.1=Sum.inl i then (kv.1,v) else kv).map (·.2)) (Dm.vE ks ds i d)
 | [],[],_,_,r=>by cases r;exact ⟨rfl,.nil⟩
 | [],_::_,_,e,_=>by cases e
 | _::_,[],_,e,_=>by cases e
 | (k0,v0)::kvs,k::ks,_,e,r=>by
  rw [List.map_cons] at r
  cases r with
  | cons r0 rr=>
   rw [List.map_cons,List.map_cons] at e
   injection e with e1 e2
   have e1:k0=Sum.inl k:=e1
   subst e1
   obtain ⟨i1,i2⟩:=vF i rv e2 rr
   unfold Dm.vE
   by_cases h:k=i
   ·subst h
    rw [if_pos rfl,List.map_cons,List.map_cons,List.map_cons,i1]
    simp only [if_true]
    exact ⟨trivial,.cons rv i2⟩
   ·rw [if_neg h,List.map_cons,List.map_cons,List.map_cons,i1]
    have:=pM h
    simp only [this,if_false]
    exact ⟨trivial,.cons r0 i2⟩
theorem tX {H0:Hp} (i:Int) {v:V} {d:Dm.Dat} (rv:Rep H0 v d) {kvs:List (Key×V)} {ks:List Int} {ds:List Dm.Dat} (e:kvs.map (·.1)=ks.map Sum.inl) (r:ay H0 (kvs.map (·.2)) ds) :
  (putK kvs (Sum.inl i) v).map (·.1)=(Dm.i_ ks i).map Sum.inl∧ay H0 ((putK kvs (Sum.inl i) v).map (·.2)) (Dm.jb ks ds i d):=by
 have ha:=z6 i e
 unfold putK Dm.i_ Dm.jb
 rw [ha]
 cases hb:(ks.any fun k=>decide (k=i)) with
 | true=>
  simp only [if_true]
  exact vF i rv e r
 | false=>
  simp only [Bool.false_eq_true,if_false]
  rw [List.map_append,List.map_append,List.map_append,e]
  exact ⟨rfl,r.append (.cons rv .nil)⟩
theorem J0:OpD (fun x y H Q=>∃ a v,x=.ref a∧fk H a y (some v)∧Q v H) Dm.gDx:=by
 intro H0 H x y dx dy z Q s rx ry e k
 unfold Dm.gDx at e
 split at e
 ·rename_i ks vs i
  cases az ry
  obtain ⟨a,kvs,rfl,qa,ek,rs⟩:=dj s rx
  rcases gp i ek rs with ⟨d,v,l1,l2,r⟩ | ⟨l1,_⟩
  ·rw [l1] at e
   cases e
   refine ⟨a,v,rfl,?_,k _ H0 H (aD.refl s) r⟩
   have:=fk.k (k:=Sum.inl i) qa
   rw [l2] at this
   exact this
  ·rw [l1] at e;cases e
 ·cases e
theorem G7:OpD (fun y x H Q=>∃ a o,x=.ref a∧fk H a y o∧Q (.bl o.isSome) H) Dm.xP:=by
 intro H0 H x y dx dy z Q s rx ry e k
 unfold Dm.xP at e
 split at e
 ·rename_i i ks vs
  cases e
  cases az rx
  obtain ⟨a,kvs,rfl,qa,ek,rs⟩:=dj s ry
  refine ⟨a,_,rfl,fk.k (k:=Sum.inl i) qa,k _ H0 H (aD.refl s) ?_⟩
  rcases gp i ek rs with ⟨d,v,l1,l2,r⟩ | ⟨l1,l2⟩
  ·rw [l1,l2];exact .bl _
  ·rw [l1,l2];exact .bl _
 ·cases e
theorem C7:OpD (fun y x H Q=>∃ a o,x=.ref a∧fk H a y o∧Q (.bl (!o.isSome)) H) Dm.n9:=by
 intro H0 H x y dx dy z Q s rx ry e k
 unfold Dm.n9 at e
 split at e
 ·rename_i i ks vs
  cases e
  cases az rx
  obtain ⟨a,kvs,rfl,qa,ek,rs⟩:=dj s ry
  refine ⟨a,_,rfl,fk.k (k:=Sum.inl i) qa,k _ H0 H (aD.refl s) ?_⟩
  rcases gp i ek rs with ⟨d,v,l1,l2,r⟩ | ⟨l1,l2⟩
  ·rw [l1,l2];exact .bl _
  ·rw [l1,l2];exact .bl _
 ·cases e
section
variable {σ:L2.St} {H:Hp} {Q:VK} {D:Ends}
theorem LH (h:tD Dm.eDn σ H Q):zx σ H Q:=by
 obtain ⟨H0,ρ,x,ρ',st,e,k⟩:=h
 cases e
 intro p hp
 have g:=aD.iX (o:=HO.dK []) st.same hp
 exact k _ _ _ (.grow st g) ⟨p,rfl,hp,st.aZ hp,st.same.free hp,[],au,rfl,.nil⟩
theorem G8 {fo fi:Dm.FE} (h:tD (Dm.j3 fo fi) σ H Q):zB (tD fo) (tD fi) σ H Q:=by
 obtain ⟨H0,ρ,x,ρ',st,e,k⟩:=h
 unfold Dm.j3 at e
 split at e
 ·cases e
 rename_i x1 ρ1 e1
 split at e
 case h_2=>cases e
 rename_i ks0 vs0 p0
 split at e
 ·cases e
 rename_i y1 ρ2 e2
 split at e
 case h_2=>cases e
 rename_i ks vs p1
 split at e
 case h_2=>cases e
 rename_i i p2
 cases e
 refine ⟨H0,ρ,x1,ρ1,st,e1,fun v H1 Hb t1 r1=>?_⟩
 obtain ⟨a,G9,rfl,qa0,_,_⟩:=dj t1.st.same (r1.look t1.st p0)
 refine ⟨a,rfl,.inl ⟨G9,.inl qa0⟩,H1,ρ1,y1,_,t1.st,e2,fun u H2 Hc t2 r2=>?_⟩
 have hu:=az (r2.look t2.st p2)
 subst hu
 obtain ⟨a',kvs,ea,qa,ek,rs⟩:=dj t2.st.same ((r1.mono t2).look t2.st p1)
 cases ea
 refine ⟨_,fk.k (k:=Sum.inl i) qa,k _ H2 Hc (t1.trans t2) ?_⟩
 rcases gp i ek rs with ⟨d,w,l1,l2,r⟩ | ⟨l1,l2⟩
 ·rw [l1,l2];exact r
 ·rw [l1,l2];exact Rep.non
theorem G_ {i:Nat} {j f:Dm.FE} (h:tDS (Dm.j4 i j f) D σ H):EN (fB i) (tD j) (tD f) D σ H:=by
 obtain ⟨H0,ρ,o,st,e,k⟩:=h
 unfold Dm.j4 at e
 split at e
 ·cases e
 rename_i x ρ1 e1
 split at e
 ·cases e
 rename_i d ρ2 e2
 split at e
 case h_2=>cases e
 rename_i d0 h2
 split at e
 ·rename_i m ρ3 e3
  split at e
  ·rename_i ks vs h3
   split at e
   case isFalse=>cases e
   rename_i hz
   cases e
   refine ⟨H0,ρ,_,ρ1,st,e1,fun v H0' H' t r=>?_⟩
   obtain ⟨H1,t1,b1,r1,_,_⟩:=take1 t (aj.refl _) r e2
   obtain ⟨a0,q0,_,_⟩:=t1.st.ow i _ h2
   refine ⟨_,q0,H1,ρ2,_,ρ3,t1.st,e3,fun u H2 Hc t2 r2=>?_⟩
   obtain ⟨a,q,n,w⟩:=t2.st.ow i _ h3
   rw [q0] at q
   cases q
   obtain ⟨kvs,y,ek,rs⟩:=w
   have hu:=Rep.isInt r2
   subst hu
   obtain ⟨p1,p2⟩:=tX m (r1.mono t2.stp.s0) ek rs
   have hlen:kvs.length=ks.length:=by
    have:=congrArg List.length ek
    simpa using this
   refine ⟨a0,_,rfl,zv.k (k:=Sum.inl m) y (by rw [hlen];exact Nat.lt_of_lt_of_le hz (by decide)),?_⟩
   have ow:af σ ρ3 a0:=⟨i,_,h3,q0⟩
   have tt:=t1.trans t2
   exact k σ H2 _ ⟨t2.st.write h3 q0 ⟨_,au,p1,p2⟩,tt.stp.trans (Stp.write ow) fun b z=>.inl (tt.own b z),fun b z=>.inl (tt.own b (bX h3 z)),rfl⟩
  ·cases e
 ·cases e
theorem LI {fa fb:Dm.FE} (h:tD (Dm.eD1 fa fb) σ H Q):EO [(tD fa,tD fb)] σ H Q:=by
 obtain ⟨H0,ρ,x,ρ',st,e,k⟩:=h
 unfold Dm.eD1 at e
 split at e
 ·rename_i i ρ1 e1
  split at e
  ·cases e
  rename_i y ρ2 e2
  split at e
  ·cases e
  rename_i d ρ3 e3
  cases e
  intro p hp
  have n0:H0 p=none:=st.same.free hp
  have no:¬ af σ ρ p:=st.aZ hp
  refine ⟨H0,ρ,_,ρ1,st.aside n0 no,e1,fun u H1 Hb t1 r1=>⟨H1,ρ1,y,ρ2,t1.st,e2,fun v H2 Hc t2 r2=>?_⟩⟩
  have tt:=t1.trans t2
  obtain ⟨H3,t3,b3,r3,_,_⟩:=take1 tt (aj.refl _) (r2.early fun a n=>t1.stp.gone n) e3
  obtain ⟨hp3,n3,no3⟩:=t3.bO (o:=HO.dK []) au n0 no
  have hu:=Rep.isInt r1
  subst hu
  refine ⟨hp3,[(Sum.inl i,v)],rfl,(by simp),?_⟩
  have em:jB [] [((Sum.inl i:Key),v)]=[(Sum.inl i,v)]:=rfl
  rw [em]
  refine k _ H3 _ ⟨t3.st.aside n3 no3,⟨t3.stp.s0,fun a o y nb=>?_,fun a o y=>?_,fun a o y=>?_⟩,t3.own,t3.dfn⟩ ⟨p,rfl,hp,no3,n3,_,au,rfl,.cons r3 .nil⟩
  ·have ne:a≠p:=fun q=>by rw [q,hp] at y;cases y
   rw [aq ne]
   exact t3.stp.s1 a o (by rw [aq ne];exact y) nb
  ·rcases t3.stp.s2 a o y with y1 | y1 | y1
   ·by_cases ne:a=p
    ·subst ne;rw [n3] at y;cases y
    ·rw [aq ne] at y1;exact .inl y1
   ·exact .inr (.inl y1)
   ·exact .inr (.inr y1)
  ·have ne:a≠p:=fun q=>by rw [q,hp] at y;cases y
   rw [aq ne]
   exact t3.stp.s3 a o (by rw [aq ne];exact y)
 ·cases e
end
theorem u1 {k:Nat} {A:Around} (hr:aU k A):A.units+1<cLine:=Nat.lt_of_le_of_lt (Nat.add_le_add_left (by decide) _) hr.units
section
variable {X:Cx} {a b e:Expr} {fa fb f:Dm.FE} {pos:Pos} {k:Nat}
theorem Hg:DE X (.Dict [] [] pos) Dm.eDn:=PE.weak zy fun _ _ _=>LH
theorem LJ (ha:DE X a fa) (hb:DE X b fb):DE X (.Dict [some a] [b] pos) (Dm.eD1 fa fb):=PE.weak (CM (zz ha hb CL) rfl rfl (by simp) (by simp)) fun _ _ _=>LI
theorem pN (hr:aU k X.A) (ha:DE X a fa) (hb:DE X b fb) (hs:GD b:=by intro _ _;rfl):DE X (.Subscript a b pos) (Dm.e2 Dm.gDx fa fb):=PE.weak (CJ (u1 hr) ha hb hs) fun _ _ _=>tO J0
theorem z7 (hr:aU k X.A) (ha:DE X a fa) (hb:DE X b fb) (hm:behindInMarks .In b=false:=by rfl):DT X (.Compare a [.In] [b] pos) (Dm.tV (Dm.e2 Dm.xP fa fb)):=PT.weak (yL (GF (u1 hr) ha hb) hm) fun σ H Q h=>tO G7 (pC h)
theorem z8 (hr:aU k X.A) (ha:DE X a fa) (hb:DE X b fb) (hm:behindInMarks .NotIn b=false:=by rfl):DT X (.Compare a [.NotIn] [b] pos) (Dm.tV (Dm.e2 Dm.n9 fa fb)):=PT.weak (yL (xC (u1 hr) ha hb) hm) fun σ H Q h=>tO C7 (pC h)
theorem z_ {apos cpos:Pos} (hr:aU k X.A) (ha:DE X a fa) (hb:DE X b fb) (m:M1 X a "get" apos b cpos:=by exact ⟨rfl,rfl,rfl,rfl⟩):DE X (.Call (.Attribute a "get" apos) [b] [] cpos) (Dm.j3 fa fb):=PE.weak (zD (u1 hr) ha hb m) fun _ _ _=>G8
theorem tY (i:Nat) {x:Str} {px sp:Pos} (hr:aU k X.A) (hb:DE X b fb) (he:DE X e f) (hi:X.N[i]?=some x:=by rfl) (hv:Vis X.env.scope x:=by first | exact Or.inl rfl | exact Or.inr (Or.inl rfl) | exact Or.inr (Or.inr rfl)) (hd:(x == ("__debug__" : Str))=false:=by decide)
  (hcd:(x == ("__classdict__" : Str))=false:=by decide) (hs:swapsWith e (some (.Subscript (.Name x px) b sp)) pos.line X.env=pure false:=by rfl):DS X (.Assign [.Subscript (.Name x px) b sp] e pos) (Dm.j4 i fb f):=
 PS.weak (CK (u1 hr) (bP hi hv hd hcd) hb he hs) fun _ _ _=>G_
end
end Br
namespace Dm
noncomputable def Mj (a:FE) (lo hi:Option FE):FE:=fun ρ=>match a ρ with
 | none=>none
 | some (x,ρ1)=>match part lo ρ1 with
  | none=>none
  | some (l,ρ2)=>match part hi ρ2 with
   | none=>none
   | some (h,ρ3)=>match pk ρ3 x with
    | some (.tup xs)=>if sIx xs.length 0 l=0∧sIx xs.length xs.length h=xs.length then none else some (.val (.tup (cut xs l h)),ρ3)
    | _=>none
noncomputable def n_:List Dat→Option RV
 | [.tup [.int a,.int b]]=>if -1000000≤a∧a≤1000000∧-1000000≤b∧b≤1000000 then vI (a+b) else none
 | _=>none
end Dm
namespace Br
open PySem PySem.Spec PyProof.Rows L2
section
variable {σ:L2.St} {H:Hp} {Q:VK}
theorem LK {K:PySem.W.Frag} {f:Dm.FE} {Q:Bool→Hp→Prop} (h:tDT (Dm.tTr f) σ H Q):tD f σ H fun x H'=>∃ k,Gp K x H' k∧Q k H':=by
 obtain ⟨H0,ρ,b,ρ',st,e,k⟩:=h
 unfold Dm.tTr at e
 split at e
 ·cases e
 rename_i x ρ1 e1
 split at e
 ·cases e
 rename_i d p1
 split at e
 ·cases e
 rename_i c tc
 cases e
 refine ⟨H0,ρ,x,_,st,e1,fun v H1 Hb t1 r1=>⟨b,?_,k H1 Hb t1⟩⟩
 have rl:=r1.look t1.st p1
 cases d with
 | non=>
  cases tc
  rcases rl with r | ⟨a,_,w⟩
  ·cases r;rfl
  ·exact False.elim w
 | bl c=>
  cases tc
  cases vt rl
  rfl
 | int i=>
  cases tc
  cases az rl
  rfl
 | tup es=>
  cases tc
  obtain ⟨a,xs,rfl,qa,rs⟩:=dX t1.st.same rl
  refine .inr (.inl ⟨xs,SqT.of qa,?_⟩)
  cases rs<;>rfl
 | lst es=>
  cases tc
  obtain ⟨a,xs,rfl,qa,rs⟩:=bI t1.st.same rl
  refine .inl ⟨xs,.inl qa,?_⟩
  cases rs<;>rfl
 | str _=>cases tc
 | dct _ _=>cases tc
 | exc _=>cases tc
 | fn _=>cases tc
end
section
variable {X:Cx} {a:Expr} {fa:Dm.FE} {p pos:Pos}
theorem LL (ha:DE X a fa) (he:∀ whole,isTrue a X.env whole=(do let v ← whole;standAt a.pos;holding [v] (truthy v)):=by intro _;rfl):DT X a (Dm.tTr fa):=PT.weak (zc ha he) fun _ _ _=>LK
end
section
variable {X:Cx} {a b e:Expr} {fa fb f:Dm.FE} {fs:List Dm.FE} {p p2 pos:Pos}
theorem xQ (hc:X.calm=true):b4 X (.builtin "sum") (fun xs H Q=>∃ (q:Addr) (i j:Int),xs=[.ref q]∧H q=some (.tup [.int i,.int j])∧(-1000000≤i∧i≤1000000∧-1000000≤j∧j≤1000000)∧Q (.int (i+j)) H):=by
 intro pins s σ H xs us Q I r h
 obtain ⟨q,i,j,rfl,hq,hb,k⟩:=h
 obtain ⟨u,rfl,rx⟩:=vals1 r
 cases rx
 obtain ⟨its,rv,pl,hz⟩:=I.tuple (SqT.of hq)
 obtain ⟨u1,u2,rfl,r1,r2⟩:=vals2 rv
 obtain ⟨t1,rfl⟩:=r1
 obtain ⟨t2,rfl⟩:=r2
 have ht:s.heap.IsTuple q #[.int i t1,.int j t2]:=pl
 obtain ⟨oq,eq,_⟩:=id ht
 have hax:q≠s.heap.objs.size:=Nat.ne_of_lt (Heap.lt_size eq)
 refine PySem.call_sum_walk (wpAny_pyIter_tuple ht ⟨s.heap.objs.size,_,_,_,_,_,fun n=>if n=0 then i else j,rfl,Walks.tuple (A:=X.A.in1) (I.ok.hd hc) s.heap.objs.size q hax #[.int i t1,.int j t2],⟨⟨_,Heap.get?_push_size _ rfl,rfl,rfl⟩,?_⟩,?_,?_,?_,fun h' tk t' hk=>?_⟩)
 ·exact ht.at fun o e=>Heap.get?_push_of_some _ e
 ·intro b hb
  simp only [List.mem_cons,List.not_mem_nil,or_false] at hb
  have hz:(s.heap.push { cls:=.type "tuple_iterator",data:=.fields #[.ref q,.int 0 0] }).objs.size=s.heap.objs.size+1:=Heap.size_push ..
  show b<(s.heap.push { cls:=.type "tuple_iterator",data:=.fields #[.ref q,.int 0 0] }).objs.size
  rw [hz]
  rcases hb with rfl | rfl
  ·exact Nat.lt_succ_self _
  ·exact Nat.lt_succ_of_lt (Heap.lt_size eq)
 ·intro n v hv
  match n,hv with
  | 0,hv=>cases hv;exact ⟨t1,rfl⟩
  | 1,hv=>cases hv;exact ⟨t2,rfl⟩
  | n+2,hv=>simp at hv
 ·intro n hn
  have hn:n<2:=hn
  match n,hn with
  | 0,_=>simp [InLong,preSum];omega
  | 1,_=>simp [InLong,preSum];omega
 ·refine ⟨.int (i+j),H,I.kept (t':=tk) fun b o eb=>hk b o ?_ (Heap.get?_push_of_some _ eb),⟨t',?_⟩,k⟩
  ·intro hm
   have:b=s.heap.objs.size:=by simpa using hm
   exact absurd (Heap.lt_size eb) (by rw [this];exact Nat.lt_irrefl _)
  ·simp [preSum]
theorem C8:CallD (fun xs H Q=>∃ (q:Addr) (i j:Int),xs=[.ref q]∧H q=some (.tup [.int i,.int j])∧(-1000000≤i∧i≤1000000∧-1000000≤j∧j≤1000000)∧Q (.int (i+j)) H) Dm.n_:=by
 intro H0 H xs ds z Q s rx e k
 unfold Dm.n_ at e
 split at e
 ·rename_i i j
  split at e
  ·rename_i hb
   cases e
   cases rx with
   | cons r rr=>
    cases rr
    obtain ⟨q,us,rfl,qa,ra⟩:=dX s r
    cases ra with
    | cons r1 rr=>
     cases rr with
     | cons r2 rr=>
      cases rr
      cases Rep.isInt r1
      cases Rep.isInt r2
      exact ⟨q,i,j,rfl,qa,hb,k _ H0 H (aD.refl s) (.int _)⟩
  ·cases e
 ·cases e
theorem Hh (hc:X.calm=true) (hg:Gl X "sum") (hm:X.mg "sum" = none) (ha:DA X [e] fs) (he:starEach [e] X.env=[(false,eval e X.env)]:=by rfl) (hpl:(backTo pos (starEach [] X.env)).any (·.1)=false:=by rfl):DE X (.Call (.Name "sum" p) [e] [] pos) (Dm.eB Dm.n_ fs):=xM (xQ hc) C8 PyProof.Rows.boot_sum hg hm ha (he:=he) (hpl:=hpl)
end
end Br
namespace Dm
noncomputable def j5:List Dat→Option (List Int)
 | []=>some []
 | .int i::r=>(j5 r).map fun ns=>i::ns
 | _=>none
noncomputable def dedup (ns:List Int):List Int:=ns.foldl (fun acc x=>if acc.any (· == x) then acc else acc++[x]) []
noncomputable def eO:Dat→Option RV
 | .lst ds=>(match j5 ds with
  | some ns=>if ns.length≤4000 then vI (dedup ns).length else none
  | none=>none)
 | _=>none
end Dm
namespace Br
open PySem PySem.Spec PyProof.Rows L2
noncomputable def qF (K:PySem.W.Frag):List V→Hp→VK→Prop:=fun xs H Q=>∃ (q:Addr) (ns:List Int),xs=[.ref q]∧SqL K H q (ns.map V.int)∧ns.length+1<scanBound ∧
 ∀ l,H l=none→Q (.ref l) (upd H l (.set (fun k'=>(firstMet (fun i=>ns.getD i 0) ns.length).any (· == k')) (firstMet (fun i=>ns.getD i 0) ns.length).length))
noncomputable def EY:List V→Hp→VK→Prop:=fun xs H Q=>∃ (q:Addr) (S:Int→Bool) (n:Nat),xs=[.ref q]∧H q=some (.set S n)∧Q (.int n) H
theorem intsAre_of:∀ {ns:List Int} {its:List Value},Vals (ns.map V.int) its→IntsAre its ns
 | [],_,r=>by cases r;exact .nil
 | n::ns,_,r=>by
  rw [List.map_cons] at r
  cases r with
  | cons h t=>
   obtain ⟨tk,rfl⟩:=h
   exact .cons _ _ (intsAre_of t)
section
variable {X:Cx}
theorem xR (hc:X.calm=true):b4 X (.type "set") (qF X.K):=by
 intro pins s σ H xs us Q I r h
 obtain ⟨q,ns,rfl,hq,hb,k⟩:=h
 obtain ⟨u,rfl,rx⟩:=vals1 r
 cases rx
 obtain ⟨its,rv,pl,hz⟩:=I.list hq
 have hl:=rv.length
 rw [List.length_map] at hl
 refine call_set_list (ns:=ns) (I.ok.hd hc) pl.isList (intsAre_of rv) (by rw [List.size_toArray,← hl];exact hb) fun h' tk hS hk=>?_
 have hz2:its.toArray.size=ns.length:=by rw [List.size_toArray,← hl]
 rw [hz2] at hS
 exact ⟨.ref s.heap.objs.size,_,I.laid (a:=s.heap.objs.size) (o:=.set (fun k'=>(firstMet (fun i=>ns.getD i 0) ns.length).any (· == k')) (firstMet (fun i=>ns.getD i 0) ns.length).length) (t':=tk) (fun b u e=>hk b u (Heap.lt_size e) e) (Nat.le_refl _) hS,rfl,k _ (I.hok.fresh (Nat.le_refl _))⟩
theorem xS:b4 X (.builtin "len") EY:=by
 intro pins s σ H xs us Q I r h
 obtain ⟨q,S,n,rfl,hq,k⟩:=h
 obtain ⟨u,rfl,rx⟩:=vals1 r
 cases rx
 obtain ⟨o,es,ep,t,ho,hex,hd,_,_,hb,hf,hn⟩:s.heap.SetOf (intKind X.prog X.w) q S n:=I.hok q _ hq
 have hb':es.size<4096:=hb
 refine call_len_set ho hex hd hf (by omega) ?_
 exact ⟨.int n,H,I.tok _,⟨_,by rw [hn]⟩,k⟩
end
theorem lG {H0:Hp}:∀ {ds:List Dm.Dat} {xs:List V} {ns:List Int},ay H0 xs ds→Dm.j5 ds=some ns→xs=ns.map V.int
 | [],_,ns,r,e=>by cases r;cases e;rfl
 | d::ds,_,ns,r,e=>by
  cases r with
  | cons h t=>
   cases d with
   | int i=>
    unfold Dm.j5 at e
    cases q:Dm.j5 ds with
    | none=>rw [q] at e;cases e
    | some ms=>
     rw [q] at e
     cases e
     cases Rep.isInt h
     rw [lG t q]
     rfl
   | _=>cases e
theorem range_getD (ns:List Int):(List.range ns.length).map (fun i=>ns.getD i 0)=ns:=by
 apply List.ext_getElem?
 intro i
 rw [List.getElem?_map]
 by_cases h:i<ns.length
 ·rw [List.getElem?_range h,List.getElem?_eq_getElem h]
  simp [List.getD_eq_getElem?_getD,h]
 ·rw [List.getElem?_eq_none (by simpa using h),List.getElem?_eq_none (by simpa using h)]
  rfl
theorem dw (ns:List Int):(firstMet (fun i=>ns.getD i 0) ns.length)=Dm.dedup ns:=by
 unfold firstMet Dm.dedup
 rw [range_getD]
 rfl
section
variable {X:Cx} {e:Expr} {f:Dm.FE} {p p0 pos lF:Pos}
theorem Aa {K:PySem.W.Frag} {σ:L2.St} {H:Hp} {Q:VK} (h:tD (Dm.e1 Dm.eO f) σ H Q):tCB EY (dg (tCB (qF K) (dg (tD f) gD)) gD) σ H Q:=by
 obtain ⟨H0,ρ,x,ρ',st,e,k⟩:=h
 unfold Dm.e1 at e
 split at e
 ·cases e
 rename_i x1 ρ1 e1
 split at e
 ·cases e
 rename_i dx p1
 split at e
 ·cases e
 rename_i z gz
 cases e
 unfold Dm.eO at gz
 split at gz
 ·rename_i ds
  split at gz
  ·rename_i ns en
   split at gz
   ·rename_i hb
    cases gz
    refine ⟨H0,ρ,x1,_,st,e1,fun v H1 Hb t1 r1=>?_⟩
    obtain ⟨a,xs,rfl,qa,ra⟩:=bI t1.st.same (r1.look t1.st p1)
    have ex:=lG ra en
    subst ex
    refine ⟨a,ns,rfl,.inl qa,by show ns.length+1<4096;omega,fun l hl=>⟨l,_,_,rfl,au,?_⟩⟩
    rw [dw]
    exact k _ _ _ (t1.trans (.grow t1.st (aD.iX t1.st.same hl))) (Rep.int _)
   ·cases gz
  ·cases gz
 ·cases gz
theorem qW (hc:X.calm=true) (hgl:Gl X "len") (hml:X.mg "len" = none) (hg:Gl X "set") (hm:X.mg "set" = none) (h:DE X e f) (hs:starEach [e] X.env=[(false,eval e X.env)]:=by rfl)
  (hs0:starEach [.Call (.Name "set" p) [e] [] pos] X.env=[(false,eval (.Call (.Name "set" p) [e] [] pos) X.env)]:=by rfl) (hpl:(backTo pos (starEach [] X.env)).any (·.1)=false:=by rfl) (Hi:(backTo lF (starEach [] X.env)).any (·.1)=false:=by rfl) :
  DE X (.Call (.Name "len" p0) [.Call (.Name "set" p) [e] [] pos] [] lF) (Dm.e1 Dm.eO f):=
 PE.weak (iQ xS hgl hml PySem.boot_len (bW (jz (xR hc) hg hm (by rfl) (bW h cJ hs) (he:=hs) (hpl:=hpl)) cJ hs0) (he:=hs0) (hpl:=Hi)) fun _ _ _=>Aa
end
end Br
namespace Ts
open PySem PyProof.Rows
variable {M:Model} {A:Around} {E:Value→Shared→Prop} {s:Shared} {κ:KeyKind} {kd:SortKind} {a₀:Array Keyed}
end Ts
namespace Ts
open PySem PyProof.Rows
variable {M:Model} {A:Around} {E:Value→Shared→Prop} {s:Shared} {κ:KeyKind} {kd:SortKind} {a₀:Array Keyed}
section
variable {prog:Program} {w:World}
end
end Ts
namespace Ts
open PySem PyProof.Rows
variable {M:Model} {A:Around} {E:Value→Shared→Prop} {s:Shared} {κ:KeyKind} {kd:SortKind} {a₀:Array Keyed}
end Ts
namespace Ts
open PySem PyProof.Rows
variable {M:Model} {A:Around} {E:Value→Shared→Prop} {s:Shared} {κ:KeyKind} {kd:SortKind} {a₀:Array Keyed}
end Ts
namespace Ts
open PySem PyProof.Rows
variable {A:Around} {E:Value→Shared→Prop} {s:Shared} {κ:KeyKind} {kd:SortKind} {a₀:Array Keyed} {prog:Program} {w:World}
section
variable {a b:Array Keyed}
end
end Ts
namespace Ts
open PySem PyProof.Rows
variable {A:Around} {E:Value→Shared→Prop} {s:Shared} {κ:KeyKind} {kd:SortKind} {a₀:Array Keyed} {prog:Program} {w:World}
section
variable {a b:Array Keyed}
end
end Ts
namespace Ts
open PySem PyProof.Rows
variable {A:Around} {E:Value→Shared→Prop} {s:Shared} {κ:KeyKind} {kd:SortKind} {a₀:Array Keyed} {prog:Program} {w:World}
end Ts
namespace Ts
open PySem PyProof.Rows
variable {A:Around} {E:Value→Shared→Prop} {s:Shared} {κ:KeyKind} {kd:SortKind} {a₀:Array Keyed} {prog:Program} {w:World}
end Ts
namespace Ts
open PySem PyProof.Rows
variable {A:Around} {E:Value→Shared→Prop} {s:Shared} {κ:KeyKind} {kd:SortKind} {prog:Program} {w:World}
end Ts
namespace Ts
open PySem PyProof.Rows
variable {A:Around} {E:Value→Shared→Prop} {s:Shared} {κ:KeyKind} {kd:SortKind} {a₀:Array Keyed} {prog:Program} {w:World}
end Ts
namespace Ts
open PySem PyProof.Rows
variable {A:Around} {E:Value→Shared→Prop} {s:Shared} {κ:KeyKind} {kd:SortKind} {prog:Program} {w:World}
end Ts
namespace Tk
open PySem PySem.W PyProof.Rows
section
variable {cmp:Nat→Nat→(Bool→Shared→Prop)→Shared→Prop} {s:Shared} {lt:Nat→Nat→Bool} {n pos:Nat}
end
section
variable {A:Around} {E:Value→Shared→Prop} {s:Shared} {kd:SortKind} {prog:Program} {w:World} {lt:Nat→Nat→Bool} {pos:Nat} {vs:List Value} {v:Value}
end
end Tk
namespace Dm
noncomputable def ins {α:Type} (lt:α→α→Bool) (x:α):List α→List α
 | []=>[x]
 | y::l=>if lt y x then y::ins lt x l else x::y::l
noncomputable def cG {α:Type} (lt:α→α→Bool):List α→List α
 | []=>[]
 | x::l=>ins lt x (cG lt l)
theorem lH {α:Type} (lt:α→α→Bool) (x:α):∀ l,(ins lt x l).Perm (x::l)
 | []=>List.Perm.refl _
 | y::l=>by
  rw [ins]
  split
  ·exact ((lH lt x l).cons y).trans (List.Perm.swap x y l)
  ·exact List.Perm.refl _
theorem cg {α:Type} (lt:α→α→Bool):∀ l,(cG lt l).Perm l
 | []=>List.Perm.refl _
 | x::l=>(lH lt x _).trans ((cg lt l).cons x)
theorem lI {α:Type} {lt:α→α→Bool} (tr:∀ a b c,lt b a=false→lt c b=false→lt c a=false) (as:∀ a b,lt a b=true→lt b a=false) (x:α):∀ l:List α,l.Pairwise (fun a b=>lt b a=false)→(ins lt x l).Pairwise (fun a b=>lt b a=false)
 | [],_=>by simp [ins]
 | y::l,h=>by
  rw [ins]
  obtain ⟨h1,h2⟩:=List.pairwise_cons.mp h
  split
  ·rename_i hl
   refine List.pairwise_cons.mpr ⟨fun z hz=>?_,lI tr as x l h2⟩
   rcases List.mem_cons.mp ((lH lt x l).mem_iff.mp hz) with rfl | hz
   ·exact as _ _ hl
   ·exact h1 z hz
  ·rename_i hl
   have hl':lt y x=false:=by simpa using hl
   refine List.pairwise_cons.mpr ⟨fun z hz=>?_,h⟩
   rcases List.mem_cons.mp hz with rfl | hz
   ·exact hl'
   ·exact tr _ _ _ hl' (h1 z hz)
theorem cV {α:Type} {lt:α→α→Bool} (tr:∀ a b c,lt b a=false→lt c b=false→lt c a=false) (as:∀ a b,lt a b=true→lt b a=false):∀ l:List α,(cG lt l).Pairwise (fun a b=>lt b a=false)
 | []=>List.Pairwise.nil
 | x::l=>lI tr as x _ (cV tr as l)
theorem dN {α:Type} {lt:α→α→Bool} (tot:∀ a b,lt a b=false→lt b a=false→a=b):∀ {l m:List α},l.Perm m→l.Pairwise (fun a b=>lt b a=false)→m.Pairwise (fun a b=>lt b a=false)→l=m
 | [],m,p,_,_=>(List.nil_perm.mp p).symm
 | x::l,[],p,_,_=>by have:=p.length_eq;simp at this
 | x::l,y::m,p,h1,h2=>by
  obtain ⟨a1,a2⟩:=List.pairwise_cons.mp h1
  obtain ⟨b1,b2⟩:=List.pairwise_cons.mp h2
  have e:x=y:=by
   rcases List.mem_cons.mp (p.mem_iff.mp List.mem_cons_self) with hx | hx
   ·exact hx
   ·rcases List.mem_cons.mp (p.mem_iff.mpr (List.mem_cons_self (a:=y) (l:=m))) with hy | hy
    ·exact hy.symm
    ·exact tot x y (b1 x hx) (a1 y hy)
  subst e
  rw [dN tot (List.Perm.cons_inv p) a2 b2]
end Dm
namespace Br
open PySem PySem.Spec PyProof.Rows L2
section
variable {prog:Program} {w:World} {A:Around} {E:Value→Shared→Prop} {s:Shared}
end
section
variable {X:Cx}
end
end Br
namespace Dm
noncomputable def xT (i:Nat) (e:FE):FS:=fun ρ=>match ρ[i]? with
 | some (.ow (.lst _))=>(match e ρ with
  | none=>none
  | some (x,ρ1)=>match pk ρ1 x with
   | some (.lst es)=>(match ρ1[i]? with
    | some (.ow (.lst ds))=>if ds.length+es.length≤SZ then some (.nx (ρ1.set i (.ow (.lst (ds++es))))) else none
    | _=>none)
   | _=>none)
 | _=>none
noncomputable def cL (i:Nat) (e:FE):FE:=fun ρ=>match ρ[i]? with
 | some (.ow (.lst _))=>(match e ρ with
  | some (.val (.int j),ρ1)=>(match ρ1[i]? with
   | some (.ow (.lst ds))=>if 0≤j∧j≤BIG then (match ds[j.toNat]? with
     | some d=>some (.val d,ρ1.set i (.ow (.lst (ds.eraseIdx j.toNat))))
     | none=>none) else none
   | _=>none)
  | _=>none)
 | _=>none
noncomputable def isN:Dat→Bool
 | .non=>true
 | _=>false
noncomputable def qX:Dat→Dat→Option RV
 | d,.non=>vB (isN d)
 | _,_=>none
end Dm
namespace Br
open PySem PySem.Spec PyProof.Rows L2
section
variable {X:Cx}
end
theorem jI {H0:Hp}:∀ ns:List Int,ay H0 (ns.map V.int) (ns.map Dm.Dat.int)
 | []=>.nil
 | n::ns=>.cons (.int n) (jI ns)
section
variable {X:Cx} {a b c e:Expr} {f fa fb:Dm.FE} {fs:List Dm.FE} {p pos:Pos}
noncomputable def J1 (neg:Bool):R2:=fun x y H Q=>y=.non∧Q (.bl (if neg then !decide (x=V.non) else decide (x=V.non))) H
theorem C9 {x:V} {v:Value} (r:RelV x v):(v == Value.none)=decide (x=V.non):=by
 cases x with
 | non=>cases r;rfl
 | bl b=>cases r;rfl
 | int i=>obtain ⟨t,rfl⟩:=r;rfl
 | str z=>obtain ⟨t,rfl⟩:=r;rfl
 | byt z=>obtain ⟨t,rfl⟩:=r;rfl
 | flt z=>obtain ⟨t,rfl⟩:=r;rfl
 | ref z=>cases r;rfl
 | ty z=>cases r;rfl
theorem Hj:OpR X (compareOp .Is) (J1 false):=by
 intro pins s σ H x y v u Q I rx ry h
 obtain ⟨rfl,q⟩:=h
 cases ry
 refine is_none_gen ?_
 rw [C9 rx]
 exact ⟨.bl _,H,I,rfl,q⟩
theorem vG {H0 H:Hp} {x:V} {d:Dm.Dat} (r:jD H0 H x d):decide (x=V.non)=Dm.isN d:=by
 rcases r with r | ⟨a,rfl,w⟩
 ·cases r<;>rfl
 ·cases d with
  | non=>exact False.elim w
  | _=>rfl
theorem Hl:OpD (J1 false) Dm.qX:=by
 intro H0 H x y dx dy z Q s rx ry e k
 unfold Dm.qX at e
 split at e
 ·cases e
  have hy:=vG ry
  have:y=V.non:=of_decide_eq_true (hy.trans rfl)
  refine ⟨this,?_⟩
  rw [if_neg (by decide),vG rx]
  exact k _ H0 H (aD.refl s) (.bl _)
 ·cases e
theorem Ab (ha:DE X a fa) (hb:DE X b fb):DT X (.Compare a [.Is] [b] pos) (Dm.tV (Dm.e2 Dm.qX fa fb)):=lB Hj Hl ha hb (eE _)
end
section
variable {X:Cx}
noncomputable def EZ:V→List V→Hp→VK→Prop:=fun x vs H Q=>∃ l b xs zs,x=.ref l∧vs=[.ref b]∧H l=some (.lst xs)∧Rd H b (.lst zs)∧xs.length+zs.length≤sizeLine∧Q .non (upd H l (.lst (xs++zs)))
theorem C_:MtM X "list.extend" EZ:=by
 intro pins s σ H x vs v us Q I rx rv h
 obtain ⟨l,b,xs,zs,rfl,rfl,hH,hB,hz,q⟩:=h
 cases rx
 obtain ⟨u,rfl,ru⟩:=rv.one
 cases ru
 obtain ⟨z,its,n,r,hl,e⟩:=I.zk hH
 obtain ⟨z2,its2,n2,r2,e2⟩:=hB.ok I.hok
 have hl2:=r2.length
 have tot:its.toArray.size+its2.toArray.size≤sizeLine:=by simp only [List.size_toArray];omega
 have short:¬ (!its.toArray.isEmpty&&Builtin.List.listTooLong (its.toArray.size+its2.toArray.size))=true:=by rw [qG tot,Bool.and_false];decide
 refine call_meets F.slot_list_extend ⟨_,e,rfl⟩ F.entry_list_extend (F.args_list_extend_2 _ _) (AutoSeq1.list_extend_list_list_0 l its.toArray n b its2.toArray n2 short (by rw [List.size_toArray];omega) (by omega)) ⟨e,e2,?_⟩
 exact ⟨.non,_,I.zj (its':=its++its2) hH e (by simp) (r.append r2) (by rw [List.length_append];omega),rfl,q⟩
end
section
variable {σ:L2.St} {H:Hp} {Q:VK} {D:Ends}
theorem J2 {K:PySem.W.Frag} {i:Nat} {f:Dm.FE} (h:tDS (Dm.xT i f) D σ H):iM (tBM K "list" EZ (fB i) (tDA [f])) D σ H:=by
 obtain ⟨H0,ρ,o,st,e,k⟩:=h
 unfold Dm.xT at e
 split at e
 case h_2=>cases e
 rename_i ds0 h0
 obtain ⟨a0,q0,n0,w0⟩:=st.ow i _ h0
 refine ⟨_,q0,?_⟩
 split at e
 ·cases e
 rename_i x ρ1 e1
 split at e
 case h_2=>cases e
 rename_i es p1
 split at e
 case h_2=>cases e
 rename_i ds h2
 split at e
 case isFalse=>cases e
 rename_i hz
 cases e
 obtain ⟨xs0,y0,_⟩:=w0
 refine ⟨.inl ⟨rfl,xs0,.inl (.inl y0)⟩,?_⟩
 refine ⟨H0,ρ,[x],ρ1,st,by unfold Dm.eAs;rw [e1];rfl,fun vs H0' H' t r=>?_⟩
 cases r with
 | cons r rr=>
  cases rr
  obtain ⟨b,zs,rfl,qb,rb⟩:=bI t.st.same (r.look t.st p1)
  obtain ⟨a,q,n,w⟩:=t.st.ow i _ h2
  rw [q0] at q
  cases q
  obtain ⟨xs,y,rs⟩:=w
  refine ⟨a0,b,xs,zs,rfl,rfl,y,qb,by rw [rs.length,rb.length];exact Nat.le_trans hz (by decide),?_⟩
  have ow:af σ ρ1 a0:=⟨i,_,h2,q0⟩
  exact k σ H0' _ ⟨t.st.write h2 q0 ⟨_,au,rs.append rb⟩,t.stp.trans (Stp.write ow) fun b z=>.inl (t.own b z),fun b z=>.inl (t.own b (bX h2 z)),rfl⟩
theorem lJ {α:Type} (l:List α) (i:Nat):l.eraseIdx i=l.take i++l.drop (i+1):=List.eraseIdx_eq_take_drop_succ l i
theorem tZ {H0:Hp} {vs:List V} {ds:List Dm.Dat} (i:Nat) (r:ay H0 vs ds):ay H0 (vs.eraseIdx i) (ds.eraseIdx i):=by
 rw [lJ,lJ]
 exact (r.take i).append (r.drop (i+1))
theorem Dc {K:PySem.W.Frag} {i:Nat} {f:Dm.FE} (h:tD (Dm.cL i f) σ H Q):tBM K "list" zl (fB i) (tDA [f]) σ H Q:=by
 obtain ⟨H0,ρ,x,ρ',st,e,k⟩:=h
 unfold Dm.cL at e
 split at e
 case h_2=>cases e
 rename_i ds0 h0
 obtain ⟨a0,q0,n0,w0⟩:=st.ow i _ h0
 refine ⟨_,q0,?_⟩
 obtain ⟨xs0,y0,_⟩:=w0
 refine ⟨.inl ⟨rfl,xs0,.inl (.inl y0)⟩,?_⟩
 split at e
 case h_2=>cases e
 rename_i j ρ1 e1
 split at e
 case h_2=>cases e
 rename_i ds h2
 split at e
 case isFalse=>cases e
 rename_i hb
 split at e
 case h_2=>cases e
 rename_i d hd
 cases e
 refine ⟨H0,ρ,[.val (.int j)],ρ1,st,by unfold Dm.eAs;rw [e1];rfl,fun vs H0' H' t r=>?_⟩
 cases r with
 | cons r rr=>
  cases rr
  cases Rep.isInt r
  obtain ⟨a,q,n,w⟩:=t.st.ow i _ h2
  rw [q0] at q
  cases q
  obtain ⟨xs,y,rs⟩:=w
  obtain ⟨v,hv,rv⟩:=rs.get hd
  have hlt:j.toNat<xs.length:=(List.getElem?_eq_some_iff.mp hv).1
  have hB:Dm.BIG=1000000000:=rfl
  refine ⟨a0,xs,j,j.toNat,v,rfl,rfl,y,by omega,by omega,?_,hv,?_⟩
  ·unfold seqIndex?
   simp only [show ¬ j<0 by omega,if_false]
   rw [if_pos (by rw [decide_eq_true (show 0≤j by omega),decide_eq_true (show j<(xs.length:Int) by omega)];rfl)]
  have ow:af σ ρ1 a0:=⟨i,_,h2,q0⟩
  have hi:i<ρ1.length:=(List.getElem?_eq_some_iff.mp h2).1
  refine k v H0' _ (t.trans ⟨t.st.write h2 q0 ⟨_,au,tZ _ rs⟩,Stp.write ow,fun b z=>bX h2 z,fun j' z=>trivial⟩) rv
end
section
variable {X:Cx} {e:Expr} {f:Dm.FE} {pos:Pos}
theorem J3 (i:Nat) {x:Str} {px ap cp:Pos} (he:DE X e f) (hi:X.N[i]?=some x:=by rfl) (hv:Vis X.env.scope x:=by first | exact Or.inl rfl | exact Or.inr (Or.inl rfl) | exact Or.inr (Or.inr rfl)) (hd:(x == ("__debug__" : Str))=false:=by decide)
  (hcd:(x == ("__classdict__" : Str))=false:=by decide) (hbase:attributeBase (.Name x px) "extend" X.env (eval (.Name x px) X.env)=eval (.Name x px) X.env:=by rfl)
  (hfew:((backTo cp (starEach [e] X.env)).all (fun x=>!x.1)&&(backToKw cp (keywordEach [] X.env)).all (fun x=>x.1.isSome)
   && decide ([e].length+([]:List Keyword).length+(if ([]:List Keyword).isEmpty then 0 else 1)<30))=true:=by rfl)
  (hline:(ap.endLine == cp.line)=true:=by rfl) (hs:starEach [e] X.env=(false,eval e X.env)::starEach [] X.env:=by rfl) (hplain:(backTo cp (starEach [] X.env)).any (·.1)=false:=by rfl)
  (hsw:swapsWith (.Call (.Attribute (.Name x px) "extend" ap) [e] [] cp) none pos.line X.env=pure false:=by rfl) :
  DS X (.Expr (.Call (.Attribute (.Name x px) "extend" ap) [e] [] cp) pos) (Dm.xT i f):=
 PS.weak (dI (nV PySem.F.plainAttrs_list PySem.F.slot_list_extend PySem.F.type_list_extend C_ (bP hi hv hd hcd) (aa he ah hs) hbase hfew hline hs hplain) hsw) fun _ _ _=>J2
theorem vH (i:Nat) {x:Str} {px ap cp:Pos} (he:DE X e f) (hi:X.N[i]?=some x:=by rfl) (hv:Vis X.env.scope x:=by first | exact Or.inl rfl | exact Or.inr (Or.inl rfl) | exact Or.inr (Or.inr rfl)) (hd:(x == ("__debug__" : Str))=false:=by decide)
  (hcd:(x == ("__classdict__" : Str))=false:=by decide) (hbase:attributeBase (.Name x px) "pop" X.env (eval (.Name x px) X.env)=eval (.Name x px) X.env:=by rfl)
  (hfew:((backTo cp (starEach [e] X.env)).all (fun x=>!x.1)&&(backToKw cp (keywordEach [] X.env)).all (fun x=>x.1.isSome)
   && decide ([e].length+([]:List Keyword).length+(if ([]:List Keyword).isEmpty then 0 else 1)<30))=true:=by rfl)
  (hline:(ap.endLine == cp.line)=true:=by rfl) (hs:starEach [e] X.env=(false,eval e X.env)::starEach [] X.env:=by rfl) (hplain:(backTo cp (starEach [] X.env)).any (·.1)=false:=by rfl) :
  DE X (.Call (.Attribute (.Name x px) "pop" ap) [e] [] cp) (Dm.cL i f):=
 PE.weak (nV PySem.F.plainAttrs_list PySem.F.slot_list_pop PySem.F.type_list_pop zm (bP hi hv hd hcd) (aa he ah hs) hbase hfew hline hs hplain) fun _ _ _=>Dc
end
end Br
namespace L2
open PySem PySem.Spec PyProof.Rows
section
variable {X:Cx} {pins:List (Addr×Obj)} {σ:St} {H:Hp} {s:Shared} {x:Str} {C:Addr} {bmB:List Value} {B newId initId:String} {np cpos pos:Pos}
end
section
variable {P:Program} {w:World} {K:PySem.W.Frag} {mg:Str→Option Value} {base:Heap} {N:List Str} {qual:Str} {scope:Scope} {f:Addr} {cd:Value} {A:Around} {outer:List Env} {s₀:Shared} {H₀:Hp} {E:XK} {C:Addr}
 {pins:List (Addr×Obj)} {σ:St} {H:Hp} {s:Shared}
end
section
variable {X:Cx} {st:Stmt} {rest:List Stmt} {t:TS}
end
end L2
namespace Br
open PySem PySem.Spec PyProof.Rows L2
section
variable {X:Cx} {C:Addr} {E:L2.St→XK} {k:Nat} {F:Addr} {fd:FuncData} {ps:List Str} {x:Str} {p pos:Pos} {e:Expr} {es:List Expr} {fs:List Dm.FE} {bad:List Dm.Dat→Bool} {R S:Dm.Env→Option Dm.Env}
end
section
variable {P:Program} {w:World} {K:PySem.W.Frag} {mg:Str→Option Value} {base:Heap} {N:List Str} {qual:Str} {scope:Scope} {f:Addr} {cd:Value} {A:Around} {outer:List Env} {s₀:Shared} {H₀:Hp} {E:XK} {C:Addr}
end
end Br
namespace PySem.W
open PySem PySem.Spec PySem.Calls PyProof.Rows
section
variable {prog:Program} {w:World} {A:Around} {K:Frag} {x C:Addr} {s:Shared} {R:Result→Shared→Prop}
end
section
variable {prog:Program} {w:World} {A:Around} {E:Value→Shared→Prop} {K:Frag} {x C:Addr} {ox:Obj} {h:Heap} {g:Array GenState} {d:Drawn} {t:Nat} {os:OsState}
end
end PySem.W
namespace PySem
section
variable {M:Model} {A:Around} {E:Value→Shared→Prop} {s:Shared} {env:Env}
end
end PySem
namespace PySem.W
open PySem PySem.Spec PySem.Calls PyProof.Rows
end PySem.W
namespace L2
open PySem PySem.Spec PyProof.Rows
section
variable {X:Cx} {pins:List (Addr×Obj)} {σ:L2.St} {H:Hp} {s:Shared}
end
end L2
namespace Br
open PySem PySem.Spec PyProof.Rows L2
section
variable {X:Cx} {pins pn:List (Addr×Obj)} {σ:L2.St} {H:Hp} {s:Shared} {xe:Value→Shared→Prop}
end
section
variable {X:Cx} {C:Addr} {e:Expr} {f:Dm.FE} {p p2 pos:Pos} {b:Bool}
end
section
variable {X:Cx} {C:Addr} {e:Expr} {es:List Expr} {f:Dm.FE} {p p2 pos:Pos} {b:Bool} {Ds:List Addr}
end
section
variable {X:Cx} {a b c e:Expr} {f fa fb fc:Dm.FE} {p p2 pos:Pos} {es:List Expr} {fs:List Dm.FE}
end
end Br
namespace Dm
end Dm
namespace Br
open PySem PySem.Spec PyProof.Rows L2
section
variable {X:Cx}
end
section
variable {X:Cx} {e:Expr} {fs:List Dm.FE} {p pos:Pos}
end
section
variable {X:Cx}
end
section
variable {σ:L2.St} {H:Hp} {Q:VK}
end
section
variable {X:Cx} {a e:Expr} {fa f:Dm.FE}
end
structure Dd (K:PySem.W.Frag) (x qual:Str) (st:Stmt) (f:Addr) (fd:FuncData):Prop where
 ex:∃ (oc:Value) (od:Option Addr) (dV kV doc pm:Value) (an:Option Addr) (cdv ct:Value) (osl:Array (Option Value)),
  fd=PySem.W.fnOf x qual (aI st) (aG st) (ai st) dV kV doc pm an cdv ct∧K.lookup f=some ⟨oc,od,.func fd,osl⟩∧PySem.W.codeIn K cdv qual=true
 kp:PySem.W.keepIn K (.ref f)=true
section
variable {P:Program} {w:World} {K:PySem.W.Frag} {mg:Str→Option Value} {base:Heap}
theorem Dd.ok {x qual:Str} {st:Stmt} {f:Addr} {fd:FuncData} {N ps:List Str} {k:Nat} {sp:Sp} (F:Dd K x qual st f fd) (S:aE N ps (ai st)) (len:∀ vs H Q E,sp vs H Q E→vs.length=ps.length)
  (hbody:∀ (cdv:Value) (A:Around) (outer:List Env) (s:Shared) (H:Hp) (vs:List V) (Q:VK) (E:XK),aU k (A.deeper (envOfC qual (ai st) s.heap.objs.size f cdv))→sp vs H Q E →
   ∃ t,PSs (tF CX0 P w K mg base N qual (ai st) f cdv A outer s H E).nox (aG st) t∧t { nx:=fun _ H'=>Q .non H',rt:=Q } (start N vs) H):aR P w K mg base CX0 (k+1) f fd ps sp:=by
 obtain ⟨oc,od,dV,kV,doc,pm,an,cdv,ct,osl,rfl,lk,hcd⟩:=F.ex
 refine EL lk hcd S len fun A outer s H vs Q E hr hsp=>?_
 obtain ⟨t,h,q⟩:=hbody cdv A outer s H vs Q E hr hsp
 exact ⟨t,h.nox,q⟩
theorem De {x qual:Str} {st:Stmt} {f:Addr} {oc:Value} {od an:Option Addr} {osl:Array (Option Value)} {dV kV doc pm cdv ct:Value} (l:K.lookup f=some ⟨oc,od,.func (PySem.W.fnOf x qual (aI st) (aG st) (ai st) dV kV doc pm an cdv ct),osl⟩)
  (c:PySem.W.codeIn K cdv qual=true) (k:PySem.W.keepIn K (.ref f)=true):Dd K x qual st f (PySem.W.fnOf x qual (aI st) (aG st) (ai st) dV kV doc pm an cdv ct):=⟨⟨oc,od,dV,kV,doc,pm,an,cdv,ct,osl,rfl,l,c⟩,k⟩
end
section
variable {X:Cx} {l a:Expr} {tl:TE} {ta:TA} {fa:Dm.FE} {p pos p0 lF:Pos}
end
theorem Df {g:List Dm.Dat→Option Dm.RV} {c:Int} {vs:List V} {H:Hp} {Q:VK} {E:XK} (h:spD (fun ds=>g (ds++[.int c])) vs H Q E):spD g (vs++[.int c]) H Q E:=by
 obtain ⟨H0,ds,z,s,r,e,k⟩:=h
 exact ⟨H0,ds++[.int c],z,s,r.append (.cons (.int _) .nil),e,k⟩
section
variable {σ:L2.St} {H:Hp} {Q:VK}
end
section
variable {X:Cx} {e:Expr} {es:List Expr} {fs:List Dm.FE} {p pos:Pos}
end
end Br
namespace Dm
noncomputable abbrev FN:=Env→List (List Dat)→Option (Env×List (List Dat))
noncomputable def nNx:FN:=fun ρ r=>some (ρ,r)
noncomputable def xU (s u:FN):FN:=fun ρ r=>match s ρ r with
 | none=>none
 | some (ρ1,r1)=>u ρ1 r1
noncomputable def nIf (t:FT) (a b:FN):FN:=fun ρ r=>match t ρ with
 | none=>none
 | some (true,ρ1)=>a ρ1 r
 | some (false,ρ1)=>b ρ1 r
noncomputable def t7 (i e:FE):FN:=fun ρ r=>match i ρ with
 | some (.val (.int k),ρ1)=>(match ixN r.length k with
  | none=>none
  | some m=>match r[m]? with
   | none=>none
   | some row=>match e ρ1 with
    | none=>none
    | some (x,ρ2)=>match tk ρ2 x with
     | none=>none
     | some (d,ρ3)=>if row.length<SZ then some (ρ3,r.set m (row++[d])) else none)
 | _=>none
noncomputable def fR (bd:FB) (body:FN):List Dat→FN
 | [],ρ,r=>some (ρ,r)
 | d::q,ρ,r=>match bd d ρ with
  | none=>none
  | some ρ1=>match body ρ1 r with
   | none=>none
   | some (ρ2,r2)=>fR bd body q ρ2 r2
noncomputable def nJ (it:FI) (bd:FB) (body:FN):FN:=fun ρ r=>match it ρ with
 | none=>none
 | some (ds,ρ1)=>fR bd body ds ρ1 r
noncomputable def nMk (bd:FB):List Dat→Env→Option Env
 | [],ρ=>some ρ
 | d::r,ρ=>match bd d ρ with
  | none=>none
  | some ρ1=>nMk bd r ρ1
noncomputable def lK (j:Nat) (it:FI) (own:Nat) (bd:FB) (loop:FN):FS:=fun ρ=>if j=0 then none else match it ρ with
 | none=>none
 | some (ds,ρ1)=>if ds.length≤SZ then (match nMk bd ds (ρ1++List.replicate own .un) with
  | none=>none
  | some ρ2=>match loop ((ρ2.take ρ1.length).set j .un) (List.replicate ds.length []) with
   | none=>none
   | some (ρ3,r)=>some (.nx (ρ3.set j (.ow (.lst (r.map .lst)))))) else none
noncomputable def jJ:List Dat→Option RV
 | [.dct ks _]=>if ks.length≤63 then some (.new (.lst ((cG (fun a b=>decide (a<b)) ks).map .int))) else none
 | _=>none
noncomputable def oh:List Dat→Option RV
 | [.dct ks vs]=>some (.new (.dct ks vs))
 | _=>none
noncomputable def eS:List Int→List Dat→Int→List Int
 | k::ks,_::vs,i=>if k=i then eS ks vs i else k::eS ks vs i
 | _,_,_=>[]
noncomputable def eT:List Int→List Dat→Int→List Dat
 | k::ks,v::vs,i=>if k=i then eT ks vs i else v::eT ks vs i
 | _,_,_=>[]
noncomputable def je (i:Nat) (e:FE):FE:=fun ρ=>match ρ[i]? with
 | some (.ow (.dct _ _))=>(match e ρ with
  | some (.val (.int k),ρ1)=>(match ρ1[i]? with
   | some (.ow (.dct ks vs))=>(match bz ks vs k with
    | some d=>some (.val d,ρ1.set i (.ow (.dct (eS ks vs k) (eT ks vs k))))
    | none=>none)
   | _=>none)
  | _=>none)
 | _=>none
mutual
noncomputable def bJ:Dat→Bool
 | .tup xs=>fS xs
 | .lst xs=>fS xs
 | .dct _ _=>false
 | .exc _=>false
 | _=>true
noncomputable def fS:List Dat→Bool
 | []=>true
 | x::r=>bJ x&&fS r
end
noncomputable def tkd (ρ:Env):Val→Option (Dat×Env)
 | .val d=>some (d,ρ)
 | .new d=>some (d,ρ)
 | .slot i=>match ρ[i]? with
  | some (.ow (.dct ks vs))=>some (.dct ks vs,ρ)
  | some (.ow d)=>some (d,ρ.set i (.sh d))
  | some (.sh d)=>some (d,ρ)
  | _=>none
noncomputable def t8 (ρ:Env):List Val→Option (List Dat×Env)
 | []=>some ([],ρ)
 | x::r=>match tkd ρ x with
  | none=>none
  | some (d,ρ1)=>match t8 ρ1 r with
   | none=>none
   | some (ds,ρ2)=>some (d::ds,ρ2)
noncomputable def eFd (f:List Dat→Option RV) (as:List FE):FE:=fun ρ=>match eAs as ρ with
 | none=>none
 | some (xs,ρ1)=>match t8 ρ1 xs with
  | none=>none
  | some (ds,ρ2)=>match f ds with
   | none=>none
   | some v=>if bJ v.dat then some (v.bq,ρ2) else none
noncomputable def jf:Dat→Dat→Option RV
 | .int i,.int j=>if i.natAbs.log2<1000000∧j.natAbs.log2<1000000 then vI (i*j) else none
 | _,_=>none
noncomputable def gZ (lo k:Int) (n:Nat):List Dat:=(List.range n).map fun i=>Dat.int (lo+(i:Nat)*k)
noncomputable def cj (i j k:Int):Nat:=if i<j then ((j-i-1) / k+1).toNat else 0
noncomputable def iRs (a b c:FE):FI:=fun ρ=>match a ρ with
 | some (.val (.int i),ρ1)=>(match b ρ1 with
  | some (.val (.int j),ρ2)=>(match c ρ2 with
   | some (.val (.int k),ρ3)=>if (0<k∧k≤1000)∧j≤BIG∧-BIG≤j∧i≤BIG∧-BIG≤i then some (gZ i k (cj i j k),ρ3) else none
   | _=>none)
  | _=>none)
 | _=>none
noncomputable def jK:List Val→Option (List Dat)
 | []=>some []
 | .val d::r=>(jK r).map fun ds=>d::ds
 | _=>none
noncomputable def eFn (f:List Dat→Option (RV×Dat)) (e0:FE) (as:List FE):FE:=fun ρ=>match eAs (e0::as) ρ with
 | some (.new d::xs,ρ1)=>(match jK xs with
  | none=>none
  | some ds=>match f (d::ds) with
   | none=>none
   | some (v,_)=>some (v.bq,ρ1))
 | _=>none
end Dm
namespace Br
open PySem PySem.Spec PyProof.Rows L2
noncomputable def aH (H0 H:Hp):List Addr→List (List Dm.Dat)→Prop
 | [],[]=>True
 | p::ps,r::rs=>(∃ xs,H p=some (.lst xs)∧ay H0 xs r)∧aH H0 H ps rs
 | _,_=>False
theorem aH.len {H0 H:Hp}:∀ {ps:List Addr} {rs:List (List Dm.Dat)},aH H0 H ps rs→ps.length=rs.length
 | [],[],_=>rfl
 | _::_,_::_,h=>by simp [aH.len h.2]
theorem aH.get {H0 H:Hp}:∀ {ps:List Addr} {rs:List (List Dm.Dat)} {i:Nat} {r:List Dm.Dat},aH H0 H ps rs→rs[i]?=some r→∃ p xs,ps[i]?=some p∧H p=some (.lst xs)∧ay H0 xs r
 | [],[],_,_,_,e=>by simp at e
 | p::_,_::_,0,_,h,e=>by simp at e;subst e;obtain ⟨xs,h1,h2⟩:=h.1;exact ⟨p,xs,rfl,h1,h2⟩
 | _::_,_::_,i+1,_,h,e=>by
  obtain ⟨p,xs,h1,h2⟩:=aH.get (i:=i) h.2 (by simpa using e)
  exact ⟨p,xs,by simpa using h1,h2⟩
theorem aH.mono {H0 H H0' H':Hp}:∀ {ps:List Addr} {rs:List (List Dm.Dat)},aH H0 H ps rs→aj H0 H0'→(∀ p∈ps,H' p=H p)→aH H0' H' ps rs
 | [],[],_,_,_=>trivial
 | p::ps,r::rs,h,s,k=>by
  obtain ⟨⟨xs,h1,h2⟩,h3⟩:=h
  exact ⟨⟨xs,by rw [k p List.mem_cons_self];exact h1,h2.mono s⟩,aH.mono h3 s fun q hq=>k q (List.mem_cons_of_mem _ hq)⟩
theorem aH.set {H0 H:Hp} {p:Addr} {xs:List V} {r:List Dm.Dat} (w:ay H0 xs r):∀ {ps:List Addr} {rs:List (List Dm.Dat)} {i:Nat},aH H0 H ps rs→ps.Nodup→ps[i]?=some p→aH H0 (upd H p (.lst xs)) ps (rs.set i r)
 | [],[],_,_,_,e=>by simp at e
 | q::ps,_::rs,0,h,n,e=>by
  simp at e
  subst e
  refine ⟨⟨xs,au,w⟩,h.2.mono (aj.refl _) fun y hy=>aq fun z=>?_⟩
  subst z
  exact (List.nodup_cons.mp n).1 hy
 | q::ps,_::rs,i+1,h,n,e=>by
  have e':ps[i]?=some p:=by simpa using e
  obtain ⟨⟨ys,h1,h2⟩,h3⟩:=h
  obtain ⟨n1,n2⟩:=List.nodup_cons.mp n
  refine ⟨⟨ys,?_,h2⟩,aH.set w h3 n2 e'⟩
  rw [aq fun z=>?_]
  ·exact h1
  ·subst z
   exact n1 (List.mem_of_getElem? e')
theorem aH.some {H0 H:Hp}:∀ {ps:List Addr} {rs:List (List Dm.Dat)},aH H0 H ps rs→∀ p∈ps,∃ o,H p=some o
 | [],[],_,_,h=>by cases h
 | q::ps,_::rs,h,p,hp=>by
  rcases List.mem_cons.mp hp with rfl | hp
  ·obtain ⟨xs,h1,_⟩:=h.1;exact ⟨_,h1⟩
  ·exact aH.some h.2 p hp
structure NS (j:Nat) (σs:L2.St) (ρs:Dm.Env) (H0s Hs:Hp) (σ:L2.St) (ρ:Dm.Env) (H0 H:Hp) (rows:List (List Dm.Dat)):Prop where
 st:ao H0 H σ ρ
 stp:Stp (af σs ρs) H0s Hs H0 H
 own:∀ a,af σ ρ a→af σs ρs a∨Hs a=none
 fx:σ[0]?=σs[0]?
 ex:∃ (L:Addr) (ps:List Addr),σ[j]?=some (some (.ref L))∧Hs L=none∧H0 L=none∧¬ af σ ρ L∧H L=some (.lst (ps.map V.ref))∧(L::ps).Nodup∧(∀ p∈ps,Hs p=none∧H0 p=none∧¬ af σ ρ p)∧aH H0 H ps rows
theorem NS.est {j:Nat} {σs:L2.St} {ρs:Dm.Env} {H0s Hs:Hp} {σ:L2.St} {ρ ρ':Dm.Env} {H0 H H0' H':Hp} {rows:List (List Dm.Dat)} (n:NS j σs ρs H0s Hs σ ρ H0 H rows) (t:ESt σ ρ H0 H ρ' H0' H'):NS j σs ρs H0s Hs σ ρ' H0' H' rows:=by
 obtain ⟨L,ps,h1,h2,h3,h4,h5,h6,h7,h8⟩:=n.ex
 obtain ⟨k1,k2,k3⟩:=t.bO h5 h3 h4
 refine ⟨t.st,n.stp.trans t.stp n.own,fun a z=>n.own a (t.own a z),n.fx,L,ps,h1,h2,k2,k3,k1,h6,fun p hp=>?_,h8.mono t.stp.s0 fun p hp=>?_⟩
 ·obtain ⟨q1,q2,q3⟩:=h7 p hp
  obtain ⟨o,q4⟩:=h8.some p hp
  obtain ⟨z1,z2,z3⟩:=t.bO q4 q2 q3
  exact ⟨q1,z2,z3⟩
 ·obtain ⟨q1,q2,q3⟩:=h7 p hp
  obtain ⟨o,q4⟩:=h8.some p hp
  obtain ⟨z1,z2,z3⟩:=t.bO q4 q2 q3
  rw [z1,q4]
theorem NS.bind {j:Nat} {σs:L2.St} {ρs:Dm.Env} {H0s Hs:Hp} {σ σ':L2.St} {ρ ρ':Dm.Env} {H0 H:Hp} {rows:List (List Dm.Dat)} (n:NS j σs ρs H0s Hs σ ρ H0 H rows) (st:ao H0 H σ' ρ') (o:∀ a,af σ' ρ' a→af σ ρ a) (hj:σ'[j]?=σ[j]?) (h0:σ'[0]?=σ[0]?):NS j σs ρs H0s Hs σ' ρ' H0 H rows:=by
 obtain ⟨L,ps,h1,h2,h3,h4,h5,h6,h7,h8⟩:=n.ex
 exact ⟨st,n.stp,fun a z=>n.own a (o a z),h0.trans n.fx,L,ps,hj.trans h1,h2,h3,fun z=>h4 (o L z),h5,h6,fun p hp=>⟨(h7 p hp).1,(h7 p hp).2.1,fun z=>(h7 p hp).2.2 (o p z)⟩,h8⟩
noncomputable def qY (H0 H:Hp) (ps:List Addr):Hp:=fun b=>if b∈ps then H b else H0 b
theorem pP {H0 H:Hp} {ps:List Addr} {b:Addr} (h:b∈ps):qY H0 H ps b=H b:=by unfold qY;rw [if_pos h]
theorem fT {H0 H:Hp} {ps:List Addr} {b:Addr} (h:b∉ps):qY H0 H ps b=H0 b:=by unfold qY;rw [if_neg h]
theorem xV {H0 H:Hp} {ps:List Addr} (s:aj H0 H):aj H0 (qY H0 H ps):=fun b o e=>by
 by_cases q:b∈ps
 ·rw [pP q];exact s _ _ e
 ·rw [fT q];exact e
theorem Ac {H0 H:Hp} {ps:List Addr} (s:aj H0 H):aj (qY H0 H ps) H:=fun b o e=>by
 by_cases q:b∈ps
 ·rw [pP q] at e;exact e
 ·rw [fT q] at e;exact s _ _ e
theorem aH.reps {H0 H H1:Hp}:∀ {ps:List Addr} {rs:List (List Dm.Dat)},aH H0 H ps rs→aj H0 H1→(∀ p∈ps,H1 p=H p)→ay H1 (ps.map V.ref) (rs.map Dm.Dat.lst)
 | [],[],_,_,_=>.nil
 | p::ps,r::rs,h,s,k=>by
  obtain ⟨⟨xs,h1,h2⟩,h3⟩:=h
  exact .cons (.lst (.inl ((k p List.mem_cons_self).trans h1)) (h2.mono s)) (aH.reps h3 s fun q hq=>k q (List.mem_cons_of_mem _ hq))
theorem NS.done {j:Nat} {σs:L2.St} {ρs:Dm.Env} {H0s Hs:Hp} {σ:L2.St} {ρ:Dm.Env} {H0 H:Hp} {rows:List (List Dm.Dat)} (n:NS j σs ρs H0s Hs σ ρ H0 H rows):∃ H0',SSt σs ρs H0s Hs σ (ρ.set j (.ow (.lst (rows.map Dm.Dat.lst)))) H0' H:=by
 obtain ⟨L,ps,h1,h2,h3,h4,h5,h6,h7,h8⟩:=n.ex
 obtain ⟨n1,n2⟩:=List.nodup_cons.mp h6
 have ss:=xV (ps:=ps) n.st.same
 have st:ao (qY H0 H ps) H σ ρ:={
  same:=Ac n.st.same
  len:=n.st.len
  sh:=fun i d h=>by
   obtain ⟨v,z,r⟩:=n.st.sh i d h
   exact ⟨v,z,r.mono ss⟩
  ow:=fun i d h=>by
   obtain ⟨b,z,q,w⟩:=n.st.ow i d h
   have nb:b∉ps:=fun y=>(h7 b y).2.2 ⟨i,d,h,z⟩
   exact ⟨b,z,by rw [fT nb];exact q,w.mono ss rfl⟩
  dis:=n.st.dis }
 refine ⟨qY H0 H ps,st.jH h1 h4 (by rw [fT n1];exact h3) ⟨_,h5,h8.reps ss fun p hp=>pP hp⟩,⟨n.stp.s0.trans ss,n.stp.s1,fun a o e=>?_,n.stp.s3⟩,fun a z=>?_,n.fx⟩
 ·by_cases q:a∈ps
  ·exact .inl (h7 a q).1
  ·rw [fT q] at e;exact n.stp.s2 a o e
 ·obtain ⟨i,d,z1,z2⟩:=z
  by_cases q:j=i
  ·subst q
   rw [h1] at z2
   cases z2
   exact .inr h2
  ·rw [List.getElem?_set_ne q] at z1
   exact n.own a ⟨i,d,z1,z2⟩
noncomputable def tDN (j:Nat) (f:Dm.FN):TS:=fun D σ H=>∃ σs ρs H0s Hs H0 ρ rows ρ' rows',NS j σs ρs H0s Hs σ ρ H0 H rows∧f ρ rows=some (ρ',rows')∧∀ σ' H0' H',NS j σs ρs H0s Hs σ' ρ' H0' H' rows'→aj H0 H0'→D.nx σ' H'
section
variable {D:Ends} {σ:L2.St} {H:Hp} {j:Nat}
theorem J4 (h:tDN j Dm.nNx D σ H):vd D σ H:=by
 obtain ⟨σs,ρs,H0s,Hs,H0,ρ,rows,ρ',rows',n,e,k⟩:=h
 cases e
 exact k σ H0 H n (aj.refl _)
theorem Ho {s u:Dm.FN} (h:tDN j (Dm.xU s u) D σ H):gC (tDN j s) (tDN j u) D σ H:=by
 obtain ⟨σs,ρs,H0s,Hs,H0,ρ,rows,ρ',rows',n,e,k⟩:=h
 unfold Dm.xU at e
 split at e
 ·cases e
 rename_i ρ1 r1 e1
 exact ⟨σs,ρs,H0s,Hs,H0,ρ,rows,ρ1,r1,n,e1,fun σ' H0' H' n' s1=>⟨σs,ρs,H0s,Hs,H0',ρ1,r1,ρ',rows',n',e,fun σ2 H2 Hc n2 s2=>k σ2 H2 Hc n2 (s1.trans s2)⟩⟩
theorem J5 {t:Dm.FT} {a b:Dm.FN} (h:tDN j (Dm.nIf t a b) D σ H):Cs (tDT t) (tDN j a) (tDN j b) D σ H:=by
 obtain ⟨σs,ρs,H0s,Hs,H0,ρ,rows,ρ',rows',n,e,k⟩:=h
 unfold Dm.nIf at e
 split at e
 ·cases e
 ·rename_i ρ1 e1
  refine ⟨H0,ρ,true,ρ1,n.st,e1,fun H1 Hb t1=>?_⟩
  dsimp only
  rw [if_pos rfl]
  exact ⟨σs,ρs,H0s,Hs,H1,ρ1,rows,ρ',rows',n.est t1,e,fun σ2 H2 Hc n2 s2=>k σ2 H2 Hc n2 (t1.stp.s0.trans s2)⟩
 ·rename_i ρ1 e1
  refine ⟨H0,ρ,false,ρ1,n.st,e1,fun H1 Hb t1=>?_⟩
  dsimp only
  rw [if_neg Bool.false_ne_true]
  exact ⟨σs,ρs,H0s,Hs,H1,ρ1,rows,ρ',rows',n.est t1,e,fun σ2 H2 Hc n2 s2=>k σ2 H2 Hc n2 (t1.stp.s0.trans s2)⟩
theorem Hq {fi:Dm.FI} {bd:Dm.FB} {g:TG} {body:Dm.FN} {is:List Nat} (hb:BD is g bd) (hj:j∉is) (h:tDN j (Dm.nJ fi bd body) D σ H):yY (tDI fi) g (tDN j body) D σ H:=by
 obtain ⟨σs,ρs,H0s,Hs,H0,ρ,rows,ρ',rows',n,e,k⟩:=h
 unfold Dm.nJ at e
 split at e
 ·cases e
 rename_i ys ρ1 e1
 refine ⟨H0,ρ,ys,ρ1,n.st,e1,fun J H00 Hb t1 jw=>?_⟩
 refine ⟨fun i m σ H=>∃ H0 ρ rows,NS j σs ρs H0s Hs σ ρ H0 H rows∧aj H00 H0∧m=ys.length-i∧i≤ys.length∧Dm.fR bd body (ys.drop i) ρ rows=some (ρ',rows'),
  ⟨ys.length,H00,ρ1,rows,n.est t1,aj.refl _,by simp,Nat.zero_le _,by simpa using e⟩,?_⟩
 rintro i m σ H ⟨H0,ρ,rows,n,s00,rfl,hi,e⟩
 obtain ⟨js,jg⟩:=jw H0 H s00 n.st.same
 by_cases hlt:i<ys.length
 ·have hd:ys[i]?=some ys[i]:=by simp [hlt]
  obtain ⟨g1,g2⟩:=jg i ys[i] hd
  rw [List.drop_eq_getElem_cons hlt] at e
  unfold Dm.fR at e
  refine .inr ⟨g1,fun σ' H'=>∃ H0 ρ rows,NS j σs ρs H0s Hs σ' ρ H0 H' rows∧aj H00 H0∧Dm.fR bd body (ys.drop (i+1)) ρ rows=some (ρ',rows'),?_,fun x H' y=>?_⟩
  ·rintro σ' H' ⟨H0',ρ2,r2,h1,h2,h3⟩
   exact ⟨ys.length-(i+1),by omega,H0',ρ2,r2,h1,h2,rfl,hlt,h3⟩
  ·obtain ⟨H0',gr,rx⟩:=g2 x H' y
   split at e
   ·cases e
   ·rename_i ρ2 e2
    have t2:=ESt.grow n.st gr
    have n2:=n.est t2
    refine hb H0' H' σ ρ ρ2 x ys[i] _ t2.st rx e2 fun σ2 st2 o2 k2 _ f2=>?_
    have n3:=n2.bind st2 o2 (k2 j hj) f2
    have s3:aj H00 H0':=s00.trans gr.s0
    split at e
    ·cases e
    ·rename_i ρ3 r3 e3
     refine ⟨σs,ρs,H0s,Hs,H0',ρ2,rows,ρ3,r3,n3,e3,fun σ4 H4 Hd n4 s4=>⟨H4,ρ3,r3,n4,s3.trans s4,e⟩⟩
 ·have e':i=ys.length:=by omega
  subst e'
  rw [List.drop_length] at e
  cases e
  exact .inl ⟨js _ (Nat.le_refl _),k σ H0 H n (t1.stp.s0.trans s00)⟩
theorem Hr {K:PySem.W.Frag} {fi f:Dm.FE} (h:tDN j (Dm.t7 fi f) D σ H):iM (tBM K "list" iR (tOp (Gw K) (fB j) (tD fi)) (tDA [f])) D σ H:=by
 obtain ⟨σs,ρs,H0s,Hs,H0,ρ,rows,ρ',rows',n,e,k⟩:=h
 unfold Dm.t7 at e
 split at e
 case h_2=>cases e
 rename_i z ρ1 e1
 split at e
 ·cases e
 rename_i m em
 split at e
 ·cases e
 rename_i row er
 split at e
 ·cases e
 rename_i x ρ2 e2
 split at e
 ·cases e
 rename_i d ρ3 e3
 split at e
 case isFalse=>cases e
 rename_i hz
 cases e
 obtain ⟨L,ps0,h1,_⟩:=n.ex
 refine ⟨_,h1,H0,ρ,_,ρ1,n.st,e1,fun y H1 Hb t1 r1=>?_⟩
 have n1:=n.est t1
 obtain ⟨L',ps,q1,q2,q3,q4,q5,q6,q7,q8⟩:=n1.ex
 rw [h1] at q1
 cases q1
 obtain ⟨q,xs,hq,hqx,hqr⟩:=q8.get er
 have hqm:q∈ps:=List.mem_of_getElem? hq
 refine ⟨L,ps.map V.ref,z,V.ref q,rfl,Rep.isInt r1,.inl (.inl q5),?_,.inl ⟨rfl,xs,.inl (.inl hqx)⟩,?_⟩
 ·show (L2.ixN (ps.map V.ref).length z).bind (fun j=>(ps.map V.ref)[j]?)=_
  rw [List.length_map,q8.len,← pH,em]
  show (ps.map V.ref)[m]?=_
  rw [List.getElem?_map,hq]
  rfl
 refine ⟨H1,ρ1,[x],ρ2,n1.st,by unfold Dm.eAs;rw [e2];rfl,fun vs H2 Hc t2 r2=>?_⟩
 cases r2 with
 | cons r rr=>
  cases rr
  obtain ⟨H3,t3,b3,r3,_,_⟩:=take1 t2 (aj.refl _) r e3
  have n3:=n1.est t3
  obtain ⟨L',ps',w1,w2,w3,w4,w5,w6,w7,w8⟩:=n3.ex
  rw [h1] at w1
  cases w1
  obtain ⟨k1,_,_⟩:=t3.bO q5 q3 q4
  rw [k1] at w5
  have ep:ps'=ps:=by
   have:ps.map V.ref=ps'.map V.ref:=by injection w5 with z;injection z
   exact ((List.map_inj_right fun a b h=>by injection h).mp this).symm
  subst ep
  obtain ⟨q',ys,hq',hqy,J6⟩:=w8.get er
  rw [hq] at hq'
  cases hq'
  have nL:L≠q:=fun z=>(List.nodup_cons.mp w6).1 (z▸hqm)
  refine ⟨q,ys,_,rfl,rfl,hqy,by rw [J6.length];exact Nat.lt_of_lt_of_le hz (by decide),?_⟩
  obtain ⟨z1,z2,z3⟩:=w7 q hqm
  refine k σ H3 _ ⟨n3.st.aside z2 z3,n3.stp.aside z1,n3.own,n3.fx,L,ps',h1,w2,w3,w4,by rw [aq nL];exact k1,w6,w7,aH.set (J6.append (.cons r3 .nil)) w8 (List.nodup_cons.mp w6).2 hq⟩ (t1.stp.s0.trans t3.stp.s0)
end
theorem Ad {σ:L2.St} {own:Nat} {bd:Dm.FB} {g:TG} {is:List Nat} {Q:VK} {H00 Hb:Hp} {ρ1 ρ2:Dm.Env} {ds:List Dm.Dat} {J:It} (hb:BD is g bd) (hl:∀ i∈is,σ.length≤i)
  (st1:ao H00 Hb σ ρ1) (jw:JW J H00 ds) (hsz:ds.length≤Dm.SZ) (e2:Dm.nMk bd ds (ρ1++List.replicate own .un)=some ρ2) (D:Addr) (hD:Hb D=none)
  (k:∀ H0' H' (ps:List Addr),ao H0' H' σ (ρ2.take ρ1.length)→Stp (af σ ρ1) H00 Hb H0' H'→(∀ a,af σ (ρ2.take ρ1.length) a→af σ ρ1 a)→H' D=some (.lst (ps.map V.ref))→H0' D=none→(D::ps).Nodup→(∀ p∈ps,Hb p=none∧H0' p=none) →
   aH H0' H' ps (List.replicate ds.length [])→Q (.ref D) H') :
  ∃ W:Nat→Nat→L2.St→Hp→Prop,(∃ m,W 0 m (σ++List.replicate own none) (upd Hb D (.lst [])))∧∀ i m σ' H',W i m σ' H' →
  (J.stop i H'∧Q (.ref D) H')∨(J.go i H'∧∀ x H2,J.yld i H' x H2→g x σ' H2 fun σ2 H3=>tR σ2 H3 fun b H4=>if b=true
   then zd gD σ2 H4 fun y H5=>∃ acc,H5 D=some (.lst acc)∧acc.length<sizeLine∧∃ m',m'<m∧W (i+1) m' σ2 (upd H5 D (.lst (acc++[y])))
   else ∃ m',m'<m∧W (i+1) m' σ2 H4):=by
 have noD:¬ af σ ρ1 D:=st1.aZ hD
 refine ⟨fun i m σ' H'=>∃ (H0c:Hp) (ρc:Dm.Env) (ps:List Addr),ao H0c H' σ' ρc∧aj H00 H0c∧m=ds.length-i∧i≤ds.length∧Dm.nMk bd (ds.drop i) ρc=some ρ2 ∧
  H' D=some (.lst (ps.map V.ref))∧ps.length=i∧H0c D=none∧(D::ps).Nodup∧(∀ p∈ps,Hb p=none∧H0c p=none)∧aH H0c H' ps (List.replicate i [])∧Stp (af σ ρ1) H00 Hb H0c H'∧(∀ j,j<σ.length→σ'[j]?=σ[j]?)∧(∀ a,af σ' ρc a→af σ ρ1 a),
  ⟨ds.length,H00,ρ1++List.replicate own .un,[],(st1.aside (st1.same.free hD) noD).ext own,aj.refl _,by simp,Nat.zero_le _,by simpa using e2,au,rfl,st1.same.free hD,by simp,by simp,trivial,(Stp.refl _ _ _).aside hD,
   fun j hj=>List.getElem?_append_left hj,fun a z=>dW st1 z⟩,?_⟩
 rintro i m σ' H' ⟨H0c,ρc,ps,sc,s00,rfl,hi,ec,hDl,hpl,n0,nd,hps,hro,sp,hσ,ho⟩
 have nOc:¬ af σ' ρc D:=fun z=>noD (ho D z)
 have nOp:∀ p∈ps,¬ af σ' ρc p:=fun p hp z=>st1.aZ (hps p hp).1 (ho p z)
 obtain ⟨js,jg⟩:=jw H0c H' s00 sc.same
 by_cases hlt:i<ds.length
 ·have hd:ds[i]?=some ds[i]:=by simp [hlt]
  obtain ⟨g1,g2⟩:=jg i ds[i] hd
  rw [List.drop_eq_getElem_cons hlt] at ec
  unfold Dm.nMk at ec
  refine .inr ⟨g1,fun y H2 yy=>?_⟩
  obtain ⟨H0',gr,rx⟩:=g2 y H2 yy
  split at ec
  ·cases ec
  rename_i ρ3 e3
  have t2:=ESt.grow sc gr
  obtain ⟨hD2,n02,no2⟩:=t2.bO hDl n0 nOc
  refine hb H0' H2 σ' ρc ρ3 y ds[i] _ t2.st rx e3 fun σ3 st3 o3 k3 d3 _=>?_
  unfold tR
  dsimp only
  rw [if_pos rfl]
  refine ⟨Nat.zero_le _,fun p hp=>?_⟩
  have hpD:p≠D:=fun z=>by rw [z,hD2] at hp;cases hp
  have noP:¬ af σ3 ρ3 p:=st3.aZ hp
  have J7:∀ q∈ps,q≠p:=fun q hq z=>by
   obtain ⟨o,h1⟩:=hro.some q hq
   have:=gr.s1 q o h1
   rw [z,hp] at this;cases this
  refine ⟨ps.map V.ref,by rw [aq (Ne.symm hpD)];exact hD2,?_,ds.length-(i+1),by omega,H0',ρ3,ps++[p],?_,s00.trans gr.s0,rfl,hlt,ec,?_,by simp [hpl],n02,?_,?_,?_,?_,?_,?_⟩
  ·rw [List.length_map,hpl]
   unfold Dm.SZ at hsz
   exact Nat.lt_of_lt_of_le (Nat.lt_of_lt_of_le hlt hsz) (by decide)
  ·have no3:¬ af σ3 ρ3 D:=fun z=>no2 (o3 D z)
   exact (st3.aside (st3.same.free hp) noP).aside n02 no3
  ·rw [au,List.map_append];rfl
  ·rw [← List.cons_append]
   refine List.nodup_append.mpr ⟨nd,by simp,fun a ha b hb=>?_⟩
   rw [List.mem_singleton.mp hb]
   rcases List.mem_cons.mp ha with rfl | ha
   ·exact Ne.symm hpD
   ·exact J7 a ha
  ·intro q hq
   rcases List.mem_append.mp hq with hq | hq
   ·refine ⟨(hps q hq).1,?_⟩
    obtain ⟨o,h1⟩:=hro.some q hq
    exact (t2.bO h1 (hps q hq).2 (nOp q hq)).2.1
   ·rw [List.mem_singleton.mp hq]
    exact ⟨(sp.trans t2.stp fun a z=>.inl (ho a z)).gone hp,st3.same.free hp⟩
  ·have base:aH H0' (upd (upd H2 p (.lst [])) D (.lst (ps.map V.ref++[V.ref p]))) ps (List.replicate i []):=hro.mono gr.s0 fun q hq=>by
    have hqD:q≠D:=fun z=>(List.nodup_cons.mp nd).1 (z▸hq)
    obtain ⟨o,h1⟩:=hro.some q hq
    rw [aq hqD,aq (J7 q hq),gr.s1 q o h1,h1]
   have app:∀ {H0 H:Hp} {ps:List Addr} {rs:List (List Dm.Dat)} {p:Addr},aH H0 H ps rs→H p=some (.lst [])→aH H0 H (ps++[p]) (rs++[[]]):=by
    intro H0 H ps rs p h1 h2
    induction ps generalizing rs with
    | nil=>cases rs with
     | nil=>exact ⟨⟨[],h2,.nil⟩,trivial⟩
     | cons _ _=>exact h1.elim
    | cons q ps ih=>cases rs with
     | nil=>exact h1.elim
     | cons r rs=>exact ⟨h1.1,ih h1.2⟩
   have:=app base (p:=p) (by rw [aq hpD,au])
   rw [List.replicate_succ']
   exact this
  ·exact ((sp.trans t2.stp fun a z=>.inl (ho a z)).aside ((sp.trans t2.stp fun a z=>.inl (ho a z)).gone hp)).aside hD
  ·exact fun j hj=>(k3 j fun z=>Nat.not_lt.mpr (hl j z) hj).trans (hσ j hj)
  ·exact fun a z=>ho a (o3 a z)
 ·have e':i=ds.length:=by omega
  subst e'
  rw [List.drop_length] at ec
  cases ec
  refine .inl ⟨js _ (Nat.le_refl _),k H0c H' ps ?_ sp ?_ hDl n0 nd hps hro⟩
  all_goals
   have hlen:σ.length≤ρ2.length:=by
    rw [← sc.len]
    refine Nat.not_lt.mp fun z=>?_
    have q:=hσ σ'.length z
    rw [List.getElem?_eq_none (Nat.le_refl _),List.getElem?_eq_getElem z] at q
    cases q
   have tk:∀ {j:Nat} {c:Dm.Cell},(ρ2.take ρ1.length)[j]?=some c→j<σ.length∧ρ2[j]?=some c:=fun {j c} h=>by
    have hj:j<ρ1.length:=by
     have:=(List.getElem?_eq_some_iff.mp h).1
     rw [List.length_take] at this
     omega
    rw [List.getElem?_take_of_lt hj] at h
    exact ⟨by rw [st1.len];exact hj,h⟩
  ·refine ⟨sc.same,?_,fun j d h=>?_,fun j d h=>?_,fun j j' d d' a h1 h2 h3 h4=>?_⟩
   ·rw [List.length_take,← st1.len];omega
   ·obtain ⟨hj,h⟩:=tk h
    obtain ⟨v,q,r⟩:=sc.sh j d h
    exact ⟨v,(hσ j hj).symm.trans q,r⟩
   ·obtain ⟨hj,h⟩:=tk h
    obtain ⟨v,q,r⟩:=sc.ow j d h
    exact ⟨v,(hσ j hj).symm.trans q,r⟩
   ·obtain ⟨hj,h1⟩:=tk h1
    obtain ⟨hj',h2⟩:=tk h2
    exact sc.dis j j' d d' a h1 h2 ((hσ j hj).trans h3) ((hσ j' hj').trans h4)
  ·intro a ⟨j,d,h1,h2⟩
   obtain ⟨hj,h1⟩:=tk h1
   exact ho a ⟨j,d,h1,(hσ j hj).trans h2⟩
theorem oi {j own:Nat} {fi:Dm.FI} {bd:Dm.FB} {loop:Dm.FN} {ρ:Dm.Env} {z:Dm.Out} (q:Dm.lK j fi own bd loop ρ=some z):∃ ds ρ1 ρ2 ρ3 r3,j≠0∧fi ρ=some (ds,ρ1)∧ds.length≤Dm.SZ∧Dm.nMk bd ds (ρ1++List.replicate own .un)=some ρ2 ∧
  loop ((ρ2.take ρ1.length).set j .un) (List.replicate ds.length [])=some (ρ3,r3)∧z=.nx (ρ3.set j (.ow (.lst (r3.map .lst)))):=by
 unfold Dm.lK at q
 split at q
 ·cases q
 rename_i hj0
 split at q
 ·cases q
 rename_i ds ρ1 e1
 split at q
 case isFalse=>cases q
 rename_i hsz
 split at q
 ·cases q
 rename_i ρ2 e2
 split at q
 ·cases q
 rename_i ρ3 r3 e3
 cases q
 exact ⟨ds,ρ1,ρ2,ρ3,r3,hj0,e1,hsz,e2,e3,rfl⟩
theorem Dg {s u:Dm.FS} {ρ:Dm.Env} {o:Dm.Out} (hs:∀ z,s ρ=some z→∃ ρ',z=.nx ρ') (e:Dm.av s u ρ=some o):∃ ρ1,s ρ=some (.nx ρ1)∧u ρ1=some o:=by
 cases q:s ρ with
 | none=>unfold Dm.av at e;rw [q] at e;cases e
 | some z=>
  obtain ⟨ρ1,rfl⟩:=hs z q
  unfold Dm.av at e
  rw [q] at e
  exact ⟨ρ1,rfl,e⟩
theorem Ht {σ:L2.St} {H:Hp} {D:Ends} {j own:Nat} {fi:Dm.FI} {bd:Dm.FB} {g:TG} {is:List Nat} {loop:Dm.FN} {gs:Dm.FS} (hb:BD is g bd) (hl:∀ i∈is,σ.length≤i) (hj:j<σ.length) (h:tDS (Dm.av (Dm.lK j fi own bd loop) gs) D σ H) :
  gC (iN (tLC (tDI fi) own g tR (zd gD)) (cE j)) (gC (tDN j loop) (tDS gs)) D σ H:=by
 obtain ⟨H0,ρ,o,st,e,k⟩:=h
 obtain ⟨ρ9,e9,e⟩:=Dg (fun z q=>by obtain ⟨_,_,_,_,_,_,_,_,_,_,z⟩:=oi q;exact ⟨_,z⟩) e
 obtain ⟨ds,ρ1,ρ2,ρ3,r3,hj0,e1,hsz,e2,e3,z9⟩:=oi e9
 cases z9
 refine ⟨H0,ρ,ds,ρ1,st,e1,fun J H00 Hb t1 jw L hL=>Ad (Q:=fun x H1=>cE j x σ H1 (gC (tDN j loop) (tDS gs) D)) hb hl t1.st jw hsz e2 L hL fun H0' H' ps st' sp' ho' hDl n0 nd hps hro=>?_⟩
 have nL:¬ af σ ρ1 L:=t1.st.aZ hL
 have om:∀ a,af (σ.set j (some (.ref L))) ((ρ2.take ρ1.length).set j .un) a→af σ (ρ2.take ρ1.length) a:=fun a ⟨i,d,h1,h2⟩=>by
  rcases aF h1 with ⟨_,z⟩ | ⟨hij,h1⟩
  ·cases z
  ·rw [List.getElem?_set_ne (Ne.symm hij)] at h2
   exact ⟨i,d,h1,h2⟩
 have st2:ao H0' H' (σ.set j (some (.ref L))) ((ρ2.take ρ1.length).set j .un):={
  same:=st'.same
  len:=by rw [List.length_set,List.length_set];exact st'.len
  sh:=fun i d h=>by
   rcases aF h with ⟨_,z⟩ | ⟨hij,h⟩
   ·cases z
   ·obtain ⟨v,q,r⟩:=st'.sh i d h
    exact ⟨v,by rw [List.getElem?_set_ne (Ne.symm hij)];exact q,r⟩
  ow:=fun i d h=>by
   rcases aF h with ⟨_,z⟩ | ⟨hij,h⟩
   ·cases z
   ·obtain ⟨v,q,r⟩:=st'.ow i d h
    exact ⟨v,by rw [List.getElem?_set_ne (Ne.symm hij)];exact q,r⟩
  dis:=fun i i' d d' a h1 h2 h3 h4=>by
   rcases aF h1 with ⟨_,z⟩ | ⟨q1,h1⟩
   ·cases z
   rcases aF h2 with ⟨_,z⟩ | ⟨q2,h2⟩
   ·cases z
   rw [List.getElem?_set_ne (Ne.symm q1)] at h3
   rw [List.getElem?_set_ne (Ne.symm q2)] at h4
   exact st'.dis i i' d d' a h1 h2 h3 h4 }
 have sp:Stp (af σ ρ) H0 H H0' H':=t1.stp.trans sp' fun a z=>.inl (t1.own a z)
 have n:NS j σ ρ H0 H (σ.set j (some (.ref L))) ((ρ2.take ρ1.length).set j .un) H0' H' (List.replicate ds.length []):=
  ⟨st2,sp,fun a z=>.inl (t1.own a (ho' a (om a z))),List.getElem?_set_ne hj0,L,ps,List.getElem?_set_self hj,t1.stp.gone hL,n0,fun z=>nL (ho' L (om L z)),hDl,nd,fun p hp=>⟨t1.stp.gone (hps p hp).1,(hps p hp).2,fun z=>t1.st.aZ (hps p hp).1 (ho' p (om p z))⟩,hro⟩
 refine ⟨σ,ρ,H0,H,H0',_,_,ρ3,r3,n,e3,fun σ4 H4 Hd n4 _=>?_⟩
 obtain ⟨H5,t5⟩:=n4.done
 exact ⟨H5,_,o,t5.st,e,k.pre t5⟩
noncomputable abbrev DN (X:Cx) (j:Nat) (st:Stmt) (f:Dm.FN):Prop:=PS X st (tDN j f)
noncomputable abbrev DNs (X:Cx) (j:Nat) (st:List Stmt) (f:Dm.FN):Prop:=PSs X st (tDN j f)
section
variable {X:Cx} {st:Stmt} {rest:List Stmt} {fs gs:Dm.FN} {e c:Expr} {f:Dm.FE} {pos:Pos} {j:Nat}
theorem J8:DNs X j [] Dm.nNx:=PSs.weak o4 fun _ _ _=>J4
theorem Hu (h1:DN X j st fs) (h2:DNs X j rest gs):DNs X j (st::rest) (Dm.xU fs gs):=PSs.weak (bh h1 h2) fun _ _ _=>Ho
theorem E1 (h1:DN X j st fs):DNs X j [st] fs:=dH h1
theorem LM {t:Dm.FT} {x y:List Stmt} (ht:DT X c t) (ha:DNs X j x fs) (hb:DNs X j y gs):DN X j (.If c x y pos) (Dm.nIf t fs gs):=PS.weak (yO ht ha hb) fun _ _ _=>J5
theorem E2 {tg it:Expr} {fi:Dm.FI} {is:List Nat} {bd:Dm.FB} {body:List Stmt} (hp:PassesOwn (model X.prog X.w) X.A X.env X.xe) (hc:X.calm=true) (hi:DI X tg it fi) (hg:TG' X tg is bd) (hb:DNs X j body fs) (hj:decide (j∈is)=false:=by rfl)
  (hs:∀ x,foldedSetIterable it X.env x=pure x:=by intro _;rfl):DN X j (.For tg it body [] pos) (Dm.nJ fi bd fs):=by
 obtain ⟨g,h1,h2⟩:=hg.ex
 exact PS.weak (o6 hp hc hi h1 hb hs) fun _ _ _=>Hq h2 (of_decide_eq_false hj)
theorem E3 {x:Str} {i:Expr} {fi:Dm.FE} {px sp ap cp:Pos} (hi':DE X i fi) (he:DE X e f) (hi:X.N[j]?=some x:=by rfl) (hv:Vis X.env.scope x:=by first | exact Or.inl rfl | exact Or.inr (Or.inl rfl) | exact Or.inr (Or.inr rfl)) (hd:(x == ("__debug__" : Str))=false:=by decide)
  (hcd:(x == ("__classdict__" : Str))=false:=by decide) (hpl:gk i:=by intro _ _;rfl) (hbase:attributeBase (.Subscript (.Name x px) i sp) "append" X.env (eval (.Subscript (.Name x px) i sp) X.env)=eval (.Subscript (.Name x px) i sp) X.env:=by rfl)
  (hfew:((backTo cp (starEach [e] X.env)).all (fun x=>!x.1)&&(backToKw cp (keywordEach [] X.env)).all (fun x=>x.1.isSome)
   && decide ([e].length+([]:List Keyword).length+(if ([]:List Keyword).isEmpty then 0 else 1)<30))=true:=by rfl)
  (hline:(ap.endLine == cp.line)=true:=by rfl) (hs:starEach [e] X.env=(false,eval e X.env)::starEach [] X.env:=by rfl) (hplain:(backTo cp (starEach [] X.env)).any (·.1)=false:=by rfl)
  (hsw:swapsWith (.Call (.Attribute (.Subscript (.Name x px) i sp) "append" ap) [e] [] cp) none pos.line X.env=pure false:=by rfl) :
  DN X j (.Expr (.Call (.Attribute (.Subscript (.Name x px) i sp) "append" ap) [e] [] cp) pos) (Dm.t7 fi f):=
 PS.weak (dI (nV PySem.F.plainAttrs_list PySem.F.slot_list_append PySem.F.type_list_append dQ (qE vh (bP hi hv hd hcd) hi' hpl) (aa he ah hs) hbase hfew hline hs hplain) hsw) fun _ _ _=>Hr
theorem Hv (j:Nat) (nm own:List Str) {y:Str} {py spos t9:Pos} {tg iter:Expr} {scope:Scope} {is:List Nat} {bd:Dm.FB} {fi:Dm.FI} {loop:Dm.FN} {gs:Dm.FS} {lst:Stmt} (hN:X.N.Nodup) (hg:TGc X nm scope own tg is bd) (hi:DI X tg iter fi) (hlp:DN X j lst loop) (hre:DSs X rest gs)
  (hc:X.calm=true:=by rfl) (hk:scope.kind=.function:=by rfl) (hS:lE X.env.scope X.N nm scope=true:=by rfl) (hl:(is.all fun i=>decide (X.N.length≤i))=true:=by rfl) (hj:X.N[j]?=some y:=by rfl) (hy:Loc X.env.scope y:=by first | exact Or.inl rfl | exact Or.inr rfl)
  (hsw:swapsWith (.ListComp (.List [] t9) [⟨tg,iter,[],0⟩] scope pos) (some (.Name y py)) spos.line X.env=pure true:=by rfl) (hs:∀ y,foldedSetIterable iter X.env y=pure y:=by intro _;rfl)
  (hf:X.fn y=true∨X.env.scope.names.lookup y=some .local:=by first | exact .inl rfl | exact .inr rfl | assumption) :
  DSs X (.Assign [.Name y py] (.ListComp (.List [] t9) [⟨tg,iter,[],0⟩] scope pos) spos::lst::rest) (Dm.av (Dm.lK j fi own.length bd loop) gs):=by
 obtain ⟨g,h1,h2⟩:=hg.ex
 have h:=bh (fN hN hj hy hc (di.of hS hk) hi h1 (fun cl C s H fp=>pI) (fun cl C s H fp=>tE (pos:=t9) cJ) hsw hs hf) (bh hlp hre)
 intro pins s σ H D I q
 exact h pins s σ H D I (Ht h2 (fun i hi=>by rw [I.len];exact qT hl i hi) (by rw [I.len];exact (List.getElem?_eq_some_iff.mp hj).1) q)
end
theorem vJ {H0:Hp} (i:Int):∀ {kvs:List (Key×V)} {ks:List Int} {ds:List Dm.Dat},kvs.map (·.1)=ks.map Sum.inl→ay H0 (kvs.map (·.2)) ds →
  (jV kvs (Sum.inl i)).map (·.1)=(Dm.eS ks ds i).map Sum.inl∧ay H0 ((jV kvs (Sum.inl i)).map (·.2)) (Dm.eT ks ds i)
 | [],[],ds,_,r=>by
  cases r
  exact ⟨rfl,.nil⟩
 | [],_::_,_,e,_=>by cases e
 | _::_,[],_,e,_=>by cases e
 | (k,v)::kvs,k'::ks,ds,e,r=>by
  rw [List.map_cons,List.map_cons] at e
  injection e with e1 e2
  cases r with
  | cons h t=>
   obtain ⟨i1,i2⟩:=vJ i e2 t
   unfold jV at i1 i2 ⊢
   dsimp only at e1
   subst e1
   by_cases q:k'=i
   ·subst q
    rw [List.filter_cons_of_neg (by simp),Dm.eS,if_pos rfl,Dm.eT,if_pos rfl]
    exact ⟨i1,i2⟩
   ·have q':¬ (Sum.inl k':Key)=Sum.inl i:=pM q
    rw [List.filter_cons_of_pos (by simpa using q'),Dm.eS,if_neg q,Dm.eT,if_neg q]
    exact ⟨by rw [List.map_cons,List.map_cons,i1],by rw [List.map_cons];exact .cons h i2⟩
section
variable {σ:L2.St} {H:Hp} {Q:VK}
theorem Hw {i:Nat} {f:Dm.FE} (h:tD (Dm.je i f) σ H Q):zC (fB i) (tD f) σ H Q:=by
 obtain ⟨H0,ρ,x,ρ',st,e,k⟩:=h
 unfold Dm.je at e
 split at e
 case h_2=>cases e
 rename_i ks0 vs0 h0
 split at e
 case h_2=>cases e
 rename_i m ρ1 e1
 split at e
 case h_2=>cases e
 rename_i ks vs h1
 split at e
 case h_2=>cases e
 rename_i d hl
 cases e
 obtain ⟨a0,q0,n0,G9,y0,_⟩:=st.ow i _ h0
 refine ⟨_,q0,a0,rfl,.inl ⟨G9,.inl y0⟩,H0,ρ,_,ρ1,st,e1,fun u H1 Hb t1 r1=>?_⟩
 have hu:=Rep.isInt r1
 subst hu
 obtain ⟨a,q,n,w⟩:=t1.st.ow i _ h1
 rw [q0] at q
 cases q
 obtain ⟨kvs,y,ek,rs⟩:=w
 rcases gp m ek rs with ⟨d',v,l1,l2,r⟩ | ⟨l1,_⟩
 ·rw [hl] at l1
  cases l1
  obtain ⟨p1,p2⟩:=vJ m ek rs
  have ow:af σ ρ1 a0:=⟨i,_,h1,q0⟩
  have hil:i<ρ1.length:=(List.getElem?_eq_some_iff.mp h1).1
  refine ⟨kvs,Sum.inl m,v,y,rfl,l2,k v H1 _ ⟨t1.st.write h1 q0 ⟨_,au,p1,p2⟩,t1.stp.trans (Stp.write ow) fun b z=>.inl (t1.own b z),fun b z=>t1.own b (bX h1 z),fun j z=>trivial⟩ r⟩
 ·rw [hl] at l1;cases l1
end
theorem t_ {X:Cx}:b4 X (.type "dict") (fun xs H Q=>∃ a kvs,xs=[.ref a]∧H a=some (.dK kvs)∧∀ p,H p=none→Q (.ref p) (upd H p (.dK kvs))):=by
 intro pins s σ H xs us Q I r h
 obtain ⟨a,kvs,rfl,ha,k⟩:=h
 obtain ⟨u,rfl,rx⟩:=vals1 r
 cases rx
 exact zF I (.inl ha) fun p s' hp I'=>⟨.ref p,_,I',rfl,k p hp⟩
theorem Dh:CallD (fun xs H Q=>∃ a kvs,xs=[.ref a]∧H a=some (.dK kvs)∧∀ p,H p=none→Q (.ref p) (upd H p (.dK kvs))) Dm.oh:=by
 intro H0 H vs ds z Q s rs e k
 unfold Dm.oh at e
 split at e
 ·cases e
  cases rs with
  | cons r rr=>
   cases rr
   obtain ⟨a,kvs,rfl,ha,ek,rs⟩:=dj s r
   refine ⟨a,kvs,rfl,ha,fun p hp=>k _ _ _ (aD.iX s hp) ⟨p,rfl,hp,s.free hp,kvs,au,ek,rs⟩⟩
 ·cases e
theorem lN:∀ (its:List Value) (ns:List Int),its.length=ns.length→(∀ (i:Nat) (v:Value),its[i]?=some v→∃ n,ns[i]?=some n∧∃ t,v=Value.int n t)→IntsAre its ns
 | [],[],_,_=>.nil
 | [],_::_,h,_=>by cases h
 | _::_,[],h,_=>by cases h
 | v::its,n::ns,h,k=>by
  obtain ⟨m,h1,t,h2⟩:=k 0 v rfl
  simp at h1
  subst h1
  subst h2
  exact .cons n t (lN its ns (by simpa using h) fun i v e=>by
   obtain ⟨m,q1,q2⟩:=k (i+1) v (by simpa using e)
   exact ⟨m,by simpa using q1,q2⟩)
theorem vK:∀ {kvs:List (Key×V)} {vs:List (Key×Value)},KV kvs vs→vs.map (·.1)=kvs.map (·.1)
 | _,_,.nil=>rfl
 | _,_,.cons h t=>by rw [List.map_cons,List.map_cons,vK t,h.1]
theorem cZ:∀ {its:List Value} {ns:List Int},IntsAre its ns→Vals (ns.map V.int) its
 | _,_,.nil=>.nil
 | _,_,.cons n t h=>.cons ⟨t,rfl⟩ (cZ h)
noncomputable def Ae:List V→Hp→VK→Prop:=fun xs H Q=>∃ (p:Addr) (kvs:List (Key×V)) (ns:List Int),xs=[.ref p]∧H p=some (.dK kvs)∧kvs.map (·.1)=ns.map Sum.inl∧ns.length≤63 ∧
 ∀ (ms:List Int) (l:Addr),ms.Perm ns→ms.Pairwise (·≤·)→H l=none→Q (.ref l) (upd H l (.lst (ms.map V.int)))
theorem ua {X:Cx} (hc:X.calm=true):b4 X (.builtin "sorted") Ae:=by
 intro pins s σ H xs us Q I r h
 obtain ⟨p,kvs,ns,rfl,hq,ek,hl,k⟩:=h
 obtain ⟨u,rfl,rx⟩:=vals1 r
 cases rx
 obtain ⟨z,hd,vs,rel,dd⟩:=vm I.hok hq
 obtain ⟨ep,hat⟩:=dd.dictAt
 have hlen:vs.length=ns.length:=by
  rw [← rel.length]
  have:=congrArg List.length ek
  simpa using this
 have hns:vs.length≤sizeLine:=by rw [← rel.length];exact z
 refine Calls.call_function_entry kind_sorted plain_sorted entry_sorted (args_sorted1 _) ?_
 unfold Builtin.«sorted»
 refine wpAny_bind (m:=checkCount "sorted" 1 1 _) (wpAny_pure ?_)
 refine wpAny_bind (PySem.W.kdu_collect (A:=X.A.in1) (PySem.W.kdl_dict (knd:=aS X.prog X.w) (kvs:=vs) (ep:=ep) hd) (I.ok.hd hc) hat hns fun h' tk acc hk hacc=>?_)
 have hsz:acc.toList.length=ns.length:=by rw [Array.length_toList,hacc.1,hlen]
 have hI:IntsAre acc.toList ns:=lN _ _ hsz fun i v e=>by
  obtain ⟨ky,x,h1,h2⟩:=hacc.2 i v (by rw [← Array.getElem?_toList];exact e)
  have hk1:(vs.map (·.1))[i]?=some ky:=by rw [List.getElem?_map,h1];rfl
  rw [vK rel,ek,List.getElem?_map] at hk1
  cases q:ns[i]? with
  | none=>rw [q] at hk1;cases hk1
  | some n=>
   rw [q] at hk1
   cases hk1
   exact ⟨n,rfl,(Value.isInt_shape (k:=n) (v:=v) h2)⟩
 have hn:acc.toList.length≤63:=by rw [hsz];exact hl
 refine wpAny_bind (wpAny_newList ?_ (Nat.le_trans hn (by decide)))
 have hL0:(h'.push (seqObj "list" acc.toList.toArray 0)).get? h'.objs.size=some (seqObj "list" acc.toList.toArray 0):=Heap.get?_push_size _ rfl
 have I1:=I.kept (t':=tk) hk
 refine wpAny_bind (wpAny_holding (wpAny_call_entry (s:={ s with heap:=h'.push (seqObj "list" acc.toList.toArray 0),toks:=tk }) slot_list_sort ⟨_,hL0,rfl⟩ entry_list_sort (list_sort_tree hL0 hI (by omega) fun out ms a1 a2 a3=>⟨_,rfl,?_⟩) (args_list_sort _)))
 obtain ⟨c,hc'⟩:=sortedHeap_at (out:=out) hL0
 have hz2:(ms.map V.int).length≤sizeLine:=by rw [List.length_map,a2.length_eq];exact Nat.le_trans hl (by decide)
 refine wpAny_pure ⟨_,rfl,.ref h'.objs.size,_,I1.laid (t':=tk) (fun b o e=>?_) (Nat.le_refl _) (show aX X.prog X.w _ _ _ (.lst (ms.map V.int)) from ⟨hz2,out.toList,c,cZ a1,by simpa using hc'⟩),rfl,k ms _ a2 a3 (I1.hok.fresh (Nat.le_refl _))⟩
 have lt:=Heap.lt_size e
 rw [sortedHeap_old (Nat.ne_of_lt lt) (by rw [size_push'];exact Nat.lt_succ_of_lt lt)]
 exact Heap.get?_push_of_some _ e
theorem Af:CallD Ae Dm.jJ:=by
 intro H0 H vs ds z Q s rs e k
 unfold Dm.jJ at e
 split at e
 ·rename_i ks vs'
  split at e
  case isFalse=>cases e
  rename_i hl
  cases e
  cases rs with
  | cons r rr=>
   cases rr
   obtain ⟨a,kvs,rfl,ha,ek,rs⟩:=dj s r
   refine ⟨a,kvs,ks,rfl,ha,ek,hl,fun ms l pm so hp=>?_⟩
   have em:ms=Dm.cG (fun a b=>decide (a<b)) ks:=Dm.dN (lt:=fun a b=>decide (a<b)) (fun a b h1 h2=>by simp at h1 h2;omega) (pm.trans (Dm.cg _ ks).symm) (so.imp fun {a b} h=>by simp;omega)
    (Dm.cV (fun a b c h1 h2=>by simp at *;omega) (fun a b h=>by simp at *;omega) ks)
   exact k _ _ _ (aD.iX s hp) ⟨l,rfl,hp,s.free hp,_,au,by rw [← em];exact jI ms⟩
 ·cases e
theorem Hx {ρ ρ':Dm.Env} {x:Dm.Val} {d:Dm.Dat} (e:Dm.tkd ρ x=some (d,ρ')):Dm.tk ρ x=some (d,ρ')∨∃ i ks vs,x=.slot i∧ρ[i]?=some (.ow (.dct ks vs))∧d=.dct ks vs∧ρ'=ρ:=by
 cases x with
 | val d'=>exact .inl e
 | new d'=>exact .inl e
 | slot i=>
  unfold Dm.tkd at e
  dsimp only at e
  split at e
  ·rename_i ks vs h
   cases e
   exact .inr ⟨i,ks,vs,rfl,h,rfl,rfl⟩
  ·rename_i d' _ h
   left
   unfold Dm.tk
   dsimp only
   rw [h]
   exact e
  ·rename_i d' h
   left
   unfold Dm.tk
   dsimp only
   rw [h]
   exact e
  ·cases e
theorem Ag {ρ ρ':Dm.Env} {x:Dm.Val} {d:Dm.Dat} {i:Nat} {ks:List Int} {vs:List Dm.Dat} (e:Dm.tkd ρ x=some (d,ρ')) (h:ρ[i]?=some (.ow (.dct ks vs))):ρ'[i]?=some (.ow (.dct ks vs)):=by
 cases x with
 | val d'=>cases e;exact h
 | new d'=>cases e;exact h
 | slot j=>
  unfold Dm.tkd at e
  dsimp only at e
  split at e
  ·cases e;exact h
  ·rename_i d' hn hj
   cases e
   by_cases q:j=i
   ·subst q
    rw [h] at hj
    cases hj
    exact absurd rfl (hn ks vs)
   ·rw [List.getElem?_set_ne q];exact h
  ·cases e;exact h
  ·cases e
theorem oj {i:Nat} {ks:List Int} {vs:List Dm.Dat}:∀ {xs:List Dm.Val} {ρ ρ':Dm.Env} {ds:List Dm.Dat},Dm.t8 ρ xs=some (ds,ρ')→ρ[i]?=some (.ow (.dct ks vs))→ρ'[i]?=some (.ow (.dct ks vs))
 | [],_,_,_,e,h=>by cases e;exact h
 | x::xs,ρ,ρ',ds,e,h=>by
  unfold Dm.t8 at e
  split at e
  ·cases e
  rename_i d ρ1 e1
  split at e
  ·cases e
  rename_i ds' ρ2 e2
  cases e
  exact oj e2 (Ag e1 h)
noncomputable def LN (H0:Hp) (σ:L2.St) (ρ:Dm.Env) (v:V) (d:Dm.Dat):Prop:=Rep H0 v d∨∃ (i:Nat) (b:Addr) (ks:List Int) (vs:List Dm.Dat),d=.dct ks vs∧v=.ref b∧ρ[i]?=some (.ow (.dct ks vs))∧σ[i]?=some (some (.ref b))
inductive qZ (H0:Hp) (σ:L2.St) (ρ:Dm.Env):List V→List Dm.Dat→Prop
 | nil:qZ H0 σ ρ [] []
 | cons {v:V} {d:Dm.Dat} {vs:List V} {ds:List Dm.Dat}:LN H0 σ ρ v d→qZ H0 σ ρ vs ds→qZ H0 σ ρ (v::vs) (d::ds)
theorem uc {Hs H0s H0 H:Hp} {σ:L2.St} {ρs:Dm.Env}:∀ {xs:List Dm.Val} {vs:List V} {ρ ρ':Dm.Env} {ds:List Dm.Dat} {H0c:Hp},ESt σ ρs H0s Hs ρ H0c H→aj H0 H0c→aY Hs H0 H σ ρ vs xs→Dm.t8 ρ xs=some (ds,ρ') →
  ∃ gY,ESt σ ρs H0s Hs ρ' gY H∧aj H0c gY∧qZ gY σ ρ' vs ds
 | [],_,ρ,ρ',ds,H0c,t,b,r,e=>by
  cases r
  cases e
  exact ⟨H0c,t,aj.refl _,.nil⟩
 | x::xs,_,ρ,ρ',ds,H0c,t,b,r,e=>by
  cases r with
  | cons h r=>
   unfold Dm.t8 at e
   split at e
   ·cases e
   ·rename_i d ρ1 e1
    split at e
    ·cases e
    ·rename_i ds' ρ2 e2
     cases e
     rcases Hx e1 with e1' | ⟨i,ks,vs,rfl,hi,rfl,rfl⟩
     ·obtain ⟨H1,t1,b1,r1,o1,d1⟩:=take1 t b h e1'
      obtain ⟨H2,t2,b2,r2⟩:=uc t1 (b.trans b1) (r.rho o1 d1) e2
      exact ⟨H2,t2,b1.trans b2,.cons (.inl (r1.mono b2)) r2⟩
     ·obtain ⟨H2,t2,b2,r2⟩:=uc t b r e2
      obtain ⟨q,_⟩:=h
      obtain ⟨a,z,_⟩:=t.st.ow i _ hi
      rw [q] at z
      cases z
      exact ⟨H2,t2,b2,.cons (.inr ⟨i,a,ks,vs,rfl,rfl,oj e2 hi,q⟩) r2⟩
mutual
theorem Rep.noD {H H':Hp} (hk:∀ a o,H a=some o→H' a=some o∨∃ kvs,o=.dK kvs):∀ {v:V} {d:Dm.Dat},Rep H v d→Dm.bJ d=true→Rep H' v d
 | _,_,.non,_=>.non
 | _,_,.bl b,_=>.bl b
 | _,_,.int i,_=>.int i
 | _,_,.str x,_=>.str x
 | _,_,.tup h r,n=>.tup (by
   rcases hk _ _ h with z | ⟨_,z⟩
   ·exact z
   ·cases z) (ay.noD hk r (by unfold Dm.bJ at n;exact n))
 | _,_,.lst h r,n=>.lst (by
   rcases h with h | ⟨o,h⟩
   ·rcases hk _ _ h with z | ⟨_,z⟩
    ·exact .inl z
    ·cases z
   ·rcases hk _ _ h with z | ⟨_,z⟩
    ·exact .inr ⟨o,z⟩
    ·cases z) (ay.noD hk r (by unfold Dm.bJ at n;exact n))
 | _,_,.dct _ _ _,n=>by unfold Dm.bJ at n;cases n
 | _,_,.exc _,n=>by unfold Dm.bJ at n;cases n
 | _,_,.fn a,_=>.fn a
theorem ay.noD {H H':Hp} (hk:∀ a o,H a=some o→H' a=some o∨∃ kvs,o=.dK kvs):∀ {vs:List V} {ds:List Dm.Dat},ay H vs ds→Dm.fS ds=true→ay H' vs ds
 | _,_,.nil,_=>.nil
 | _,_,.cons h r,n=>by
  unfold Dm.fS at n
  rw [Bool.and_eq_true] at n
  exact .cons (Rep.noD hk h n.1) (ay.noD hk r n.2)
end
open Classical in
theorem Ah {σ:L2.St} {H:Hp} {Q:VK} {f:List Dm.Dat→Option Dm.RV} {fs:List Dm.FE} {E:XK} (h:tD (Dm.eFd f fs) σ H Q):fD (spD f) [] E (tDA fs) σ H Q:=by
 obtain ⟨H0,ρ,x,ρ',st,e,k⟩:=h
 unfold Dm.eFd at e
 split at e
 ·cases e
 rename_i xs ρ1 e1
 split at e
 ·cases e
 rename_i ds ρ2 e2
 split at e
 ·cases e
 rename_i z fz
 split at e
 case isFalse=>cases e
 rename_i hno
 injection e with e
 injection e with ea eb
 subst ea
 subst eb
 refine ⟨H0,ρ,xs,ρ1,st,e1,fun vs H1 Hb t1 r1=>?_⟩
 dsimp only
 rw [List.append_nil]
 obtain ⟨H2,t2,b2,r2⟩:=uc t1 (aj.refl _) r1 e2
 let B:Addr→Prop:=fun b=>∃ (i:Nat) (ks:List Int) (vs:List Dm.Dat),ρ2[i]?=some (.ow (.dct ks vs))∧σ[i]?=some (some (.ref b))
 have hB:∀ b,B b→H2 b=none∧∃ kvs,Hb b=some (.dK kvs):=fun b ⟨i,ks,vs,h1,h2⟩=>by
  obtain ⟨a,q,n,kvs,w,_⟩:=t2.st.ow i _ h1
  rw [h2] at q
  cases q
  exact ⟨n,kvs,w⟩
 let H2':Hp:=fun b=>if B b then Hb b else H2 b
 have in':∀ b,B b→H2' b=Hb b:=fun b h=>if_pos h
 have out':∀ b,¬ B b→H2' b=H2 b:=fun b h=>if_neg h
 have s2:aj H2 H2':=fun b o e=>by
  by_cases q:B b
  ·rw [(hB b q).1] at e;cases e
  ·rw [out' b q];exact e
 have s2b:aj H2' Hb:=fun b o e=>by
  by_cases q:B b
  ·rw [in' b q] at e;exact e
  ·rw [out' b q] at e;exact t2.st.same _ _ e
 have rr:∀ {vs:List V} {ds:List Dm.Dat},qZ H2 σ ρ2 vs ds→ay H2' vs ds:=fun {vs ds} r=>by
  induction r with
  | nil=>exact .nil
  | cons h _ ih=>
   refine .cons ?_ ih
   rcases h with h | ⟨i,b,ks,vs',rfl,rfl,h1,h2⟩
   ·exact h.mono s2
   ·obtain ⟨a,q,n,kvs,w,ek,rs⟩:=t2.st.ow i _ h1
    rw [h2] at q
    cases q
    exact .dct (by rw [in' _ ⟨i,ks,vs',h1,h2⟩];exact w) ek (rs.mono s2)
 refine ⟨H2',ds,z,s2b,rr r2,fz,fun w H3 Hd g3 r3=>?_⟩
 let H3':Hp:=fun b=>if B b then none else H3 b
 have in3:∀ b,B b→H3' b=none:=fun b h=>if_pos h
 have lO:∀ b,¬ B b→H3' b=H3 b:=fun b h=>if_neg h
 have gr:aD H2 Hb H3' Hd:=⟨fun b o e=>by
   by_cases q:B b
   ·rw [(hB b q).1] at e;cases e
   ·rw [lO b q];exact g3.s0 _ _ (s2 _ _ e),g3.s1,fun b o e=>by
   by_cases q:B b
   ·rw [in3 b q] at e;cases e
   ·rw [lO b q] at e
    rcases g3.s2 b o e with y | y
    ·exact .inl y
    ·rw [out' b q] at y;exact .inr y,fun b o e=>by
   by_cases q:B b
   ·rw [in3 b q] at e;cases e
   ·rw [lO b q] at e;exact g3.s3 _ _ e⟩
 have hk:∀ a o,H3 a=some o→H3' a=some o∨∃ kvs,o=.dK kvs:=fun a o e=>by
  by_cases q:B a
  ·obtain ⟨_,kvs,y⟩:=hB a q
   have:=g3.s0 a _ ((in' a q).trans y)
   rw [e] at this
   exact .inr ⟨kvs,Option.some.inj this⟩
  ·exact .inl (by rw [lO a q];exact e)
 have r3':pq Hb H3' Hd w z:=by
  cases z with
  | val d=>exact Rep.noD hk r3 hno
  | new d=>
   obtain ⟨a,ea,n,n0,w'⟩:=r3
   refine ⟨a,ea,n,?_,?_⟩
   ·by_cases q:B a
    ·exact in3 a q
    ·rw [lO a q];exact n0
   ·cases d with
    | lst ds'=>obtain ⟨ys,y1,y2⟩:=w';exact ⟨ys,y1,ay.noD hk y2 (by have:Dm.bJ (.lst ds')=true:=hno;unfold Dm.bJ at this;exact this)⟩
    | dct ks ds'=>have:Dm.bJ (.dct ks ds')=true:=hno;unfold Dm.bJ at this;cases this
    | _=>exact w'.elim
 exact k w H3' Hd (t2.trans (.grow t2.st gr)) ((r3'.toV t2.st).early fun a n=>t2.stp.gone n)
section
variable {X:Cx} {e b:Expr} {es:List Expr} {fs:List Dm.FE} {fb:Dm.FE} {p pos:Pos}
theorem fU {k:Nat} {F:Addr} {fd:FuncData} {ps:List Str} {g:List Dm.Dat→Option Dm.RV} {x:Str} (G:aR X.prog X.w X.K X.mg X.base CX0 k F fd ps (spD g)) (hr:aU k X.A) (hg:Gl X x) (hm:X.mg x=some (.ref F)) (hk:PySem.W.keepIn X.K (.ref F)=true) (hb:Binds X.K fd ps [])
  (ha:DA X (e::es) fs) (hdb:(x == ("__debug__" : Str))=false:=by decide) (he:starEach (e::es) X.env=(false,eval e X.env)::starEach es X.env:=by rfl) (hpl:(backTo pos (starEach es X.env)).any (·.1)=false:=by rfl) :
  DE X (.Call (.Name x p) (e::es) [] pos) (Dm.eFd g fs):=PE.weak (cT G hr hg hm hk hb .nil (gH (X:=X)) ha hdb he hpl) fun _ _ _=>Ah
theorem Ai (hg:Gl X "dict") (hm:X.mg "dict" = none) (ha:DA X [e] fs) (he:starEach [e] X.env=[(false,eval e X.env)]:=by rfl) (hpl:(backTo pos (starEach [] X.env)).any (·.1)=false:=by rfl):DE X (.Call (.Name "dict" p) [e] [] pos) (Dm.eB Dm.oh fs):=C2 t_ Dh (by rfl) hg hm ha (he:=he) (hpl:=hpl)
theorem vL (hc:X.calm=true) (hg:Gl X "sorted") (hm:X.mg "sorted" = none) (ha:DA X [e] fs) (he:starEach [e] X.env=[(false,eval e X.env)]:=by rfl) (hpl:(backTo pos (starEach [] X.env)).any (·.1)=false:=by rfl):DE X (.Call (.Name "sorted" p) [e] [] pos) (Dm.eB Dm.jJ fs):=xM (ua hc) Af (by rfl) hg hm ha (he:=he) (hpl:=hpl)
theorem ud (i:Nat) {x:Str} {px apos cpos:Pos} (hb:DE X b fb) (hi:X.N[i]?=some x:=by rfl) (hv:Vis X.env.scope x:=by first | exact Or.inl rfl | exact Or.inr (Or.inl rfl) | exact Or.inr (Or.inr rfl)) (hd:(x == ("__debug__" : Str))=false:=by decide)
  (hcd:(x == ("__classdict__" : Str))=false:=by decide) (m:M1 X (.Name x px) "pop" apos b cpos:=by exact ⟨rfl,rfl,rfl,rfl⟩):DE X (.Call (.Attribute (.Name x px) "pop" apos) [b] [] cpos) (Dm.je i fb):=PE.weak (zE (bP hi hv hd hcd) hb m) fun _ _ _=>Hw
end
section
variable {X:Cx} {a b c e:Expr} {fa fb fc:Dm.FE} {p pos:Pos}
theorem bits_le {i:Int} (h:i.natAbs.log2<1000000):Builtin.Int.intBits i≤2 ^ 20:=by
 have:Builtin.Int.intBits i≤i.natAbs.log2+1:=by
  unfold Builtin.Int.intBits
  first | omega | (split<;>omega) | simp
 omega
noncomputable def E4 (i j:Int):Prop:=i.natAbs.log2<1000000∧j.natAbs.log2<1000000
theorem Di:OpR X (binaryOp .Mult) (rI E4 fun i j=>.int (i*j)):=opI fun _ _ _ _ _ _ _ hc q=>mul_int q (.of_bits (bits_le hc.1) (bits_le hc.2))
theorem Dj:OpD (rI E4 fun i j=>.int (i*j)) Dm.jf:=by
 intro H0 H x y dx dy z Q s rx ry e k
 unfold Dm.jf at e
 split at e
 ·split at e
  case isFalse=>cases e
  rename_i hb
  cases e
  cases az rx
  cases az ry
  exact ⟨_,_,rfl,rfl,hb,k _ H0 H (aD.refl s) (.int _)⟩
 ·cases e
theorem pQ (ha:DE X a fa) (hb:DE X b fb):DE X (.BinOp a .Mult b pos) (Dm.e2 Dm.jf fa fb):=tS Di Dj ha hb
end
noncomputable def Its (lo k:Int) (n:Nat):It:=⟨fun i _=>i<n,fun i H x H'=>H'=H∧x=.int (lo+(i:Nat)*k),fun i _=>n≤i⟩
theorem ue {P:Program} {w:World} {K:PySem.W.Frag} {tg:Expr} (it:Addr) (lo k:Int) (n:Nat):Turn P w K tg (Its lo k n) [it] it (fun i h=>IsRangeIter h it (lo+(i:Nat)*k) ((n:Int)-(i:Nat)) k) where
 mem:=by simp
 obj:=fun i h st b hb=>by
  have e:b=it:=by simpa using hb
  subst e
  exact ⟨_,st,fun v z=>by
   have z':Data.fields _=Data.cell v:=z
   cases z'⟩
 keep:=fun i h h' st k=>k it (by simp) _ st
 item:=by
  intro X hP hw hK hc i pins s σ H E I hf st hg
  subst hP hw hK
  obtain ⟨f0,f1,f2,f3,f4,f5⟩:=hf it (by simp)
  have W:=Walks.range (prog:=X.prog) (w:=X.w) (I.ok.hd hc) it lo k n
  refine W.item i s _ _ hg st fun v h' tk hv st' kk=>?_
  obtain ⟨t,rfl⟩:=hv
  have I1:Inv X pins σ H { s with heap:=h',toks:=tk }:=I.turned (fun b o hb e=>kk b o (by simpa using hb) e) f0 f1 f3 f4 f5
  exact ⟨_,rfl,ve (s:={ s with heap:=h',toks:=tk }) (n := "range_iterator") st' rfl rfl (by decide) ⟨.int (lo+(i:Nat)*k),H,I1,⟨t,rfl⟩,⟨rfl,rfl⟩,st',fun b hb=>(hf b hb).1⟩⟩
 done:=by
  intro X hP hw hK hc i pins s σ H E I hf st hg
  subst hP hw hK
  obtain ⟨f0,f1,f2,f3,f4,f5⟩:=hf it (by simp)
  exact wpAny_pyNext_range_end (I.ok.hd hc) st (by have:n≤i:=hg;omega) fun h' eb=>⟨rfl,I.turned (t':=s.toks) (fun b o hb e=>eb b o hb e) f0 f1 f3 f4 f5⟩
 self:=fun _ _ _ _ _ st h=>wpAny_pyIter_rangeiter st h
theorem vM {a k:Int} (hk:0<k) (h:0≤a):0≤a / k∧a / k≤a:=⟨Int.ediv_nonneg h (by omega),by
 have:=Int.ediv_mul_le a (b:=k) (by omega)
 have h2:0≤a / k:=Int.ediv_nonneg h (by omega)
 have:(a / k)*1≤(a / k)*k:=Int.mul_le_mul_of_nonneg_left (by omega) h2
 omega⟩
theorem jh (a b k:Int) (hk:0<k):Builtin.Range.rangeSize a b k=(Dm.cj a b k:Nat):=by
 unfold Builtin.Range.rangeSize Dm.cj
 simp only [hk,show (k>0)=True from eq_true hk,if_true]
 by_cases h:a<b
 ·have:=vM hk (show 0≤b-a-1 by omega)
  simp only [h,show (a<b)=True from eq_true h,if_true]
  first | omega | (split<;>omega)
 ·simp only [show (a<b)=False from eq_false h,if_false]
  first | omega | (split<;>omega) | simp
theorem Aj {a b k:Int} (hk:0<k) (hk':k≤1000) (ha:-(2 ^ 60)≤a) (ha':a<2 ^ 60) (hb:-(2 ^ 60)≤b) (hb':b<2 ^ 60):Builtin.Range.small a b k=true:=by
 unfold Builtin.Range.small
 rw [jh a b k hk]
 have hs:(Dm.cj a b k:Int)≤2 ^ 61:=by
  unfold Dm.cj
  split
  ·have:=vM hk (show 0≤b-a-1 by omega)
   omega
  ·omega
 simp only [Builtin.Range.rangeFitsLong,Bool.and_eq_true,Bool.or_eq_true,decide_eq_true_eq,beq_iff_eq,show (k>0)=True from eq_true hk,if_true]
 first | omega | (refine ⟨?_,?_⟩<;>omega) | (split<;>omega)
section
variable {X:Cx} {tg:Expr}
noncomputable def E5 (ta:TA):TI:=fun σ H R=>ta σ H fun vs H1=>∃ i j k:Int,vs=[.int i,.int j,.int k]∧(0<k∧k≤1000)∧(-(2 ^ 60)≤i∧i<2 ^ 60∧-(2 ^ 60)≤j∧j<2 ^ 60)∧R (Its i k (Dm.cj i j k)) H1
theorem xW {a b c:Expr} {ta:TA} {p pos:Pos} (hg:Gl X "range") (hm:X.mg "range" = none) (ha:PA X [a,b,c] ta) (hs:starEach [a,b,c] X.env=(false,eval a X.env)::starEach [b,c] X.env:=by rfl) (hs2:(backTo pos (starEach [b,c] X.env)).any (·.1)=false:=by rfl) :
  PI X tg (.Call (.Name "range" p) [a,b,c] [] pos) (E5 ta):=by
 intro pins s σ H R I h
 refine Call_ (kU I hg hm boot_range (PyProof.Rows.callWith_type1 (thn (ha pos pins s σ H _ I h) fun us s1 ⟨vs,H1,I1,r1,q1⟩=>?_) hs hs2))
 obtain ⟨i,j,k,e,⟨hk,hk'⟩,⟨q1,q2,q3,q4⟩,q⟩:=q1
 subst e
 cases r1 with
 | cons r rr=>
  cases rr with
  | cons r' rr=>
   cases rr with
   | cons r'' rr=>
   cases rr
   obtain ⟨t,rfl⟩:=r
   obtain ⟨t',rfl⟩:=r'
   obtain ⟨t'',rfl⟩:=r''
   refine call_range_3 (by simp;omega) ?_ (Or.inl (PyProof.noPylong_small (by omega)))
   refine wpAny_pyIter_range (IsRange.new ..) (Aj hk hk' q1 q2 q3 q4) ?_
   have I2:Inv X pins σ H1 { s1 with heap:=s1.heap.push { cls:=.type "range",data:=.fields #[.int i t,.int j t',.int k t''] },toks:=s1.toks }:=I1.kept fun b o e=>Heap.get?_push_of_some _ e
   refine ⟨(s1.heap.push { cls:=.type "range",data:=.fields #[.int i t,.int j t',.int k t''] }).objs.size,[(s1.heap.push { cls:=.type "range",data:=.fields #[.int i t,.int j t',.int k t''] }).objs.size],_,_,H1,rfl,
    I2.kept (t':=s1.toks) fun b o e=>Heap.get?_push_of_some _ e,ue _ i k (Dm.cj i j k),?_,fun b hb=>?_,q⟩
   ·have e1:i+((0:Nat):Int)*k=i:=by simp
    have e2:((Dm.cj i j k:Nat):Int)-((0:Nat):Int)=Builtin.Range.rangeSize i j k:=by rw [jh i j k hk];omega
    show IsRangeIter _ _ (i+((0:Nat):Int)*k) (((Dm.cj i j k:Nat):Int)-((0:Nat):Int)) k
    rw [e1,e2]
    exact Heap.get?_push_size _ rfl
   ·have e:b=(s1.heap.push { cls:=.type "range",data:=.fields #[.int i t,.int j t',.int k t''] }).objs.size:=by simpa using hb
    subst e
    exact I2.Cu (Nat.le_refl _) (I2.hok.fresh (Nat.le_refl _))
theorem Ak {H0:Hp} {lo k:Int} {n:Nat}:JW (Its lo k n) H0 (Dm.gZ lo k n):=by
 intro H0' H s0 s1
 have el:(Dm.gZ lo k n).length=n:=by simp [Dm.gZ]
 refine ⟨fun i hi=>by rw [el] at hi;exact hi,fun i d e=>?_⟩
 have hlt:i<n:=by have:=(List.getElem?_eq_some_iff.mp e).1;rw [el] at this;exact this
 have hd:d=.int (lo+(i:Nat)*k):=by
  unfold Dm.gZ at e
  rw [List.getElem?_map,List.getElem?_range hlt] at e
  exact (Option.some.inj e).symm
 refine ⟨hlt,fun x H' y=>?_⟩
 obtain ⟨rfl,rfl⟩:=y
 subst hd
 exact ⟨H0',aD.refl s1,.int _⟩
theorem J9 {σ:L2.St} {H:Hp} {R:It→Hp→Prop} {f g c:Dm.FE} (h:tDI (Dm.iRs f g c) σ H R):E5 (tDA [f,g,c]) σ H R:=by
 obtain ⟨H0,ρ,ys,ρ',st,e,k⟩:=h
 unfold Dm.iRs at e
 split at e
 ·rename_i i ρ1 e1
  split at e
  ·rename_i j ρ2 e2
   split at e
   ·rename_i l ρ3 e3
    split at e
    ·rename_i hb
     cases e
     refine ⟨H0,ρ,[.val (.int i),.val (.int j),.val (.int l)],_,st,by simp only [Dm.eAs,e1,e2,e3];rfl,fun vs H0' H' t r=>?_⟩
     cases r with
     | cons r rr=>
      cases rr with
      | cons r' rr=>
       cases rr with
       | cons r'' rr=>
        cases rr
        cases Rep.isInt r
        cases Rep.isInt r'
        cases Rep.isInt r''
        obtain ⟨h0,h1,h2,h3,h4⟩:=hb
        unfold Dm.BIG at h1 h2 h3 h4
        exact ⟨i,j,l,rfl,h0,⟨by omega,by omega,by omega,by omega⟩,k _ H0' H' t Ak⟩
    ·cases e
   ·cases e
  ·cases e
 ·cases e
theorem LO {a b c:Expr} {fa fb fc:Dm.FE} {p pos:Pos} (hg:Gl X "range") (hm:X.mg "range" = none) (ha:DA X [a,b,c] [fa,fb,fc]) (hs:starEach [a,b,c] X.env=(false,eval a X.env)::starEach [b,c] X.env:=by rfl) (hs2:(backTo pos (starEach [b,c] X.env)).any (·.1)=false:=by rfl) :
  DI X tg (.Call (.Name "range" p) [a,b,c] [] pos) (Dm.iRs fa fb fc):=PI.weak (xW hg hm ha hs hs2) fun _ _ _=>J9
end
theorem ou {Hs H0 H:Hp} {σ:L2.St} {ρ:Dm.Env}:∀ {xs:List Dm.Val} {vs:List V} {ds:List Dm.Dat},aY Hs H0 H σ ρ vs xs→Dm.jK xs=some ds→ay H0 vs ds
 | [],_,_,.nil,e=>by cases e;exact .nil
 | .val d::xs,_,ds,.cons h r,e=>by
  unfold Dm.jK at e
  cases q:Dm.jK xs with
  | none=>rw [q] at e;cases e
  | some es=>rw [q] at e;cases e;exact .cons h (ou r q)
 | .new _::_,_,_,_,e=>by cases e
 | .slot _::_,_,_,_,e=>by cases e
theorem Dl {σ:L2.St} {H:Hp} {Q:VK} {f:List Dm.Dat→Option (Dm.RV×Dm.Dat)} {f0:Dm.FE} {fs:List Dm.FE} {E:XK} (h:tD (Dm.eFn f f0 fs) σ H Q):fD (spM f) [] E (tDA (f0::fs)) σ H Q:=by
 obtain ⟨H0,ρ,x,ρ',st,e,k⟩:=h
 unfold Dm.eFn at e
 split at e
 case h_2=>cases e
 rename_i d xs ρ1 e1
 split at e
 ·cases e
 rename_i ds e2
 split at e
 ·cases e
 rename_i z d' fz
 cases e
 refine ⟨H0,ρ,_,_,st,e1,fun vs H1 Hb t1 r1=>?_⟩
 dsimp only
 rw [List.append_nil]
 cases r1 with
 | cons r0 rr=>
  obtain ⟨a,rfl,n,no,n0,w⟩:=r0
  obtain ⟨oa,ha⟩:=w.some
  refine ⟨H1,a,_,d,ds,z,d',rfl,t1.st.same,n0,w,ou rr e2,fz,fun v H3 Hd s3 ss n3 w3 r3=>?_⟩
  have st3:ao H3 Hd σ ρ':=t1.st.off s3.s0 ss no (fun b o y nb=>s3.s1 b o y nb) fun i d4 b y1 y2=>by
   obtain ⟨b',q',nb',w'⟩:=t1.st.ow i d4 y1
   rw [y2] at q'
   cases q'
   cases y:H3 b with
   | none=>rfl
   | some o=>
    obtain ⟨o',z'⟩:=w'.some
    rcases s3.s2 b o y with y3 | y3 | y3
    ·rw [y3] at z';cases z'
    ·rw [nb'] at y3;cases y3
    ·exact absurd ⟨i,d4,y1,y3▸y2⟩ no
  exact k v H3 Hd ⟨st3,t1.stp.trans s3 fun b y=>.inr (by rw [y];exact n),t1.own,t1.dfn⟩ ((r3.toV t1.st).early fun b y=>t1.stp.gone y)
theorem Dq {X:Cx} {e0:Expr} {es:List Expr} {p pos:Pos} {k:Nat} {F:Addr} {fd:FuncData} {ps:List Str} {g:List Dm.Dat→Option (Dm.RV×Dm.Dat)} {x:Str} {f0:Dm.FE} {fs:List Dm.FE} (G:aR X.prog X.w X.K X.mg X.base CX0 k F fd ps (spM g)) (hr:aU k X.A) (hg:Gl X x) (hm:X.mg x=some (.ref F)) (hk:PySem.W.keepIn X.K (.ref F)=true) (hb:Binds X.K fd ps [])
  (ha:DA X (e0::es) (f0::fs)) (hdb:(x == ("__debug__" : Str))=false:=by decide) (he:starEach (e0::es) X.env=(false,eval e0 X.env)::starEach es X.env:=by rfl) (hpl:(backTo pos (starEach es X.env)).any (·.1)=false:=by rfl) :
  DE X (.Call (.Name x p) (e0::es) [] pos) (Dm.eFn g f0 fs):=PE.weak (cT G hr hg hm hk hb .nil (gH (X:=X)) ha hdb he hpl) fun _ _ _=>Dl
open PySem
variable {C:List Value→Prop} {us:List Value}
theorem len0 (h:us.length=0) (c:C []):C us:=by rw [List.eq_nil_of_length_eq_zero h];exact c
theorem xX {n:Nat} {C:List Value→Prop} {us:List Value} (h:us.length=n+1) (c:∀ a us,us.length=n→C (a::us)):C us:=by
 cases us with
 | nil=>cases h
 | cons a us=>exact c a us (by simpa using h)
theorem Hy (h:us.length=1) (c:∀ a,C [a]):C us:=xX h fun a _ h=>len0 h (C:=fun us=>C (a::us)) (c a)
theorem z5 (h:us.length=2) (c:∀ a b,C [a,b]):C us:=xX h fun a _ h=>Hy h (C:=fun us=>C (a::us)) (c a)
theorem J_ (h:us.length=3) (c:∀ a b d,C [a,b,d]):C us:=xX h fun a _ h=>z5 h (C:=fun us=>C (a::us)) (c a)
theorem Ka (h:us.length=4) (c:∀ a b d e,C [a,b,d,e]):C us:=xX h fun a _ h=>J_ h (C:=fun us=>C (a::us)) (c a)
theorem Dr (h:us.length=5) (c:∀ a b d e f,C [a,b,d,e,f]):C us:=xX h fun a _ h=>Ka h (C:=fun us=>C (a::us)) (c a)
theorem LP (h:us.length=6) (c:∀ a b d e f g,C [a,b,d,e,f,g]):C us:=xX h fun a _ h=>Dr h (C:=fun us=>C (a::us)) (c a)
end Br
namespace L2
open PySem
variable {K:PySem.W.Frag} {x qual:Str} {st:Stmt} {f:Addr} {fd:FuncData} {ps:List Str}
theorem Fun.pR (F:Fun K x qual st f fd) (hp:ps.length=1) (h:∀ (kV doc pm:Value) (an:Option Addr) (cdv ct:Value) (a:Value),bindArgs (PySem.W.fnOf x qual (aI st) (aG st) (ai st) .none kV doc pm an cdv ct) ⟨[a],[]⟩=pure (ps.zip [a])):Binds K fd ps []:=
 F.binds fun kV doc pm an cdv ct us hl=>Br.Hy (C:=fun us=>bindArgs (PySem.W.fnOf x qual (aI st) (aG st) (ai st) .none kV doc pm an cdv ct) ⟨us,[]⟩=pure (ps.zip us)) (hl.trans hp) (h kV doc pm an cdv ct)
theorem Fun.cM (F:Fun K x qual st f fd) (hp:ps.length=2) (h:∀ (kV doc pm:Value) (an:Option Addr) (cdv ct:Value) (a b:Value),bindArgs (PySem.W.fnOf x qual (aI st) (aG st) (ai st) .none kV doc pm an cdv ct) ⟨[a,b],[]⟩=pure (ps.zip [a,b])):Binds K fd ps []:=
 F.binds fun kV doc pm an cdv ct us hl=>Br.z5 (C:=fun us=>bindArgs (PySem.W.fnOf x qual (aI st) (aG st) (ai st) .none kV doc pm an cdv ct) ⟨us,[]⟩=pure (ps.zip us)) (hl.trans hp) (h kV doc pm an cdv ct)
theorem Fun.pS (F:Fun K x qual st f fd) (hp:ps.length=3) (h:∀ (kV doc pm:Value) (an:Option Addr) (cdv ct:Value) (a b d:Value),bindArgs (PySem.W.fnOf x qual (aI st) (aG st) (ai st) .none kV doc pm an cdv ct) ⟨[a,b,d],[]⟩=pure (ps.zip [a,b,d])):Binds K fd ps []:=
 F.binds fun kV doc pm an cdv ct us hl=>Br.J_ (C:=fun us=>bindArgs (PySem.W.fnOf x qual (aI st) (aG st) (ai st) .none kV doc pm an cdv ct) ⟨us,[]⟩=pure (ps.zip us)) (hl.trans hp) (h kV doc pm an cdv ct)
theorem Fun.uf (F:Fun K x qual st f fd) (hp:ps.length=4) (h:∀ (kV doc pm:Value) (an:Option Addr) (cdv ct:Value) (a b d e:Value),bindArgs (PySem.W.fnOf x qual (aI st) (aG st) (ai st) .none kV doc pm an cdv ct) ⟨[a,b,d,e],[]⟩=pure (ps.zip [a,b,d,e])):Binds K fd ps []:=
 F.binds fun kV doc pm an cdv ct us hl=>Br.Ka (C:=fun us=>bindArgs (PySem.W.fnOf x qual (aI st) (aG st) (ai st) .none kV doc pm an cdv ct) ⟨us,[]⟩=pure (ps.zip us)) (hl.trans hp) (h kV doc pm an cdv ct)
theorem Fun.Al (F:Fun K x qual st f fd) (hp:ps.length=5) (h:∀ (kV doc pm:Value) (an:Option Addr) (cdv ct:Value) (a b d e g:Value),bindArgs (PySem.W.fnOf x qual (aI st) (aG st) (ai st) .none kV doc pm an cdv ct) ⟨[a,b,d,e,g],[]⟩=pure (ps.zip [a,b,d,e,g])):Binds K fd ps []:=
 F.binds fun kV doc pm an cdv ct us hl=>Br.Dr (C:=fun us=>bindArgs (PySem.W.fnOf x qual (aI st) (aG st) (ai st) .none kV doc pm an cdv ct) ⟨us,[]⟩=pure (ps.zip us)) (hl.trans hp) (h kV doc pm an cdv ct)
theorem Fun.Hz (F:Fun K x qual st f fd) (hp:ps.length=6) (h:∀ (kV doc pm:Value) (an:Option Addr) (cdv ct:Value) (a b d e g i:Value),bindArgs (PySem.W.fnOf x qual (aI st) (aG st) (ai st) .none kV doc pm an cdv ct) ⟨[a,b,d,e,g,i],[]⟩=pure (ps.zip [a,b,d,e,g,i])):Binds K fd ps []:=
 F.binds fun kV doc pm an cdv ct us hl=>Br.LP (C:=fun us=>bindArgs (PySem.W.fnOf x qual (aI st) (aG st) (ai st) .none kV doc pm an cdv ct) ⟨us,[]⟩=pure (ps.zip us)) (hl.trans hp) (h kV doc pm an cdv ct)
end L2
namespace Dm
end Dm
namespace Br
open PySem L2
section
variable {X:Cx} {e:Expr} {es:List Expr} {fs:List Dm.FE} {p pos:Pos}
end
end Br
namespace Dm
end Dm
namespace Br
open PySem PySem.Spec PyProof.Rows L2
section
variable {X:Cx} {e:Expr} {es:List Expr} {fs:List Dm.FE} {p pos:Pos}
end
noncomputable def kw1 {α:Type} (n:Nat) (us ws:List α):List α:=if us.length=n∧ws.length=1 then us++ws else []
theorem HA (n:Nat) {vs zs:List V} {us ws:List Value} (r:Vals vs us) (q:Vals zs ws):Vals (kw1 n vs zs) (kw1 n us ws):=by
 unfold kw1
 rw [r.length,q.length]
 split
 ·exact r.append q
 ·exact .nil
section
variable {X:Cx} {e1 e2 e3:Expr} {f1 f2 f3:Dm.FE} {p pos kpos:Pos}
end
end Br
namespace Dm
noncomputable def cP:Dat→Option Nat
 | .lst []=>some 0
 | .lst (.int _::_)=>some 1
 | .lst (.tup xs::_)=>some (2+xs.length)
 | .lst (.lst _::_)=>some 1000000
 | _=>none
mutual
noncomputable def dB (k:Nat):Dat→Bool
 | .tup xs=>cQ k xs
 | .lst xs=>(match cP (.lst xs) with
  | some j=>decide (j≠k)
  | none=>false)&&cQ k xs
 | .dct _ vs=>cQ k vs
 | _=>true
noncomputable def cQ (k:Nat):List Dat→Bool
 | []=>true
 | x::r=>dB k x&&cQ k r
end
noncomputable def tkk (k:Nat) (ρ:Env):Val→Option (Dat×Env)
 | .val d=>some (d,ρ)
 | .new d=>some (d,ρ)
 | .slot i=>match ρ[i]? with
  | some (.ow d)=>if cP d=some k then some (d,ρ) else some (d,ρ.set i (.sh d))
  | some (.sh d)=>some (d,ρ)
  | _=>none
noncomputable def ug (k:Nat) (ρ:Env):List Val→Option (List Dat×Env)
 | []=>some ([],ρ)
 | x::r=>match tkk k ρ x with
  | none=>none
  | some (d,ρ1)=>match ug k ρ1 r with
   | none=>none
   | some (ds,ρ2)=>some (d::ds,ρ2)
noncomputable def eFk (k:Nat) (f:List Dat→Option RV) (as:List FE):FE:=fun ρ=>match eAs as ρ with
 | none=>none
 | some (xs,ρ1)=>match ug k ρ1 xs with
  | none=>none
  | some (ds,ρ2)=>match f ds with
   | none=>none
   | some v=>if dB k v.dat then some (v.bq,ρ2) else none
end Dm
namespace Br
open PySem PySem.Spec PyProof.Rows L2
theorem xY {d:Dm.Dat} {k:Nat} (h:Dm.cP d=some k):∃ ds,d=.lst ds:=by
 unfold Dm.cP at h
 split at h
 ·exact ⟨_,rfl⟩
 ·exact ⟨_,rfl⟩
 ·exact ⟨_,rfl⟩
 ·exact ⟨_,rfl⟩
 ·cases h
theorem vN {H:Hp} {a:Addr} {xs ys:List V} (h:H a=some (.tup xs)) (q:Rd H a (.lst ys)):False:=by
 rcases q with q | ⟨o,q⟩
 ·rw [h] at q;cases q
 ·rw [h] at q;cases q
theorem Am {H:Hp} {xs:List V} {ds es:List Dm.Dat} {j k:Nat} (r:ay H xs ds) (q:ay H xs es) (h1:Dm.cP (.lst ds)=some j) (h2:Dm.cP (.lst es)=some k):j=k:=by
 cases r with
 | nil=>cases q;cases h1;cases h2;rfl
 | cons r _=>
  cases q with
  | cons q _=>
   unfold Dm.cP at h1 h2
   split at h1
   ·rename_i z;cases z
   ·rename_i z
    cases z
    cases r
    cases q
    cases h1;cases h2;rfl
   ·rename_i z
    cases z
    cases h1
    split at h2
    ·rename_i z;cases z
    ·rename_i z;cases z;cases q;cases r
    ·rename_i z
     cases z
     cases h2
     cases r with
     | tup a ra=>
      cases q with
      | tup b rb=>
       rw [a] at b
       cases b
       rw [← ra.length,← rb.length]
    ·rename_i z
     cases z
     cases r with
     | tup a ra=>
      cases q with
      | lst b rb=>exact (vN a b).elim
    ·cases h2
   ·rename_i z
    cases z
    cases h1
    split at h2
    ·rename_i z;cases z
    ·rename_i z;cases z;cases q;cases r
    ·rename_i z
     cases z
     cases q with
     | tup a ra=>
      cases r with
      | lst b rb=>exact (vN a b).elim
    ·cases h2;rfl
    ·cases h2
   ·cases h1
theorem HB {k:Nat} {ρ ρ':Dm.Env} {x:Dm.Val} {d:Dm.Dat} (e:Dm.tkk k ρ x=some (d,ρ')):Dm.tk ρ x=some (d,ρ')∨∃ i ds,x=.slot i∧ρ[i]?=some (.ow (.lst ds))∧Dm.cP (.lst ds)=some k∧d=.lst ds∧ρ'=ρ:=by
 cases x with
 | val d'=>exact .inl e
 | new d'=>exact .inl e
 | slot i=>
  unfold Dm.tkk at e
  dsimp only at e
  split at e
  ·rename_i d' h
   split at e
   ·rename_i hk
    cases e
    obtain ⟨ds,rfl⟩:=xY hk
    exact .inr ⟨i,ds,rfl,h,hk,rfl,rfl⟩
   ·left
    unfold Dm.tk
    dsimp only
    rw [h]
    exact e
  ·rename_i d' h
   left
   unfold Dm.tk
   dsimp only
   rw [h]
   exact e
  ·cases e
theorem An {k:Nat} {ρ ρ':Dm.Env} {x:Dm.Val} {d c:Dm.Dat} {i:Nat} (e:Dm.tkk k ρ x=some (d,ρ')) (h:ρ[i]?=some (.ow c)) (hc:Dm.cP c=some k):ρ'[i]?=some (.ow c):=by
 cases x with
 | val d'=>cases e;exact h
 | new d'=>cases e;exact h
 | slot j=>
  unfold Dm.tkk at e
  dsimp only at e
  split at e
  ·rename_i d' hj
   split at e
   ·cases e;exact h
   ·rename_i hn
    cases e
    by_cases q:j=i
    ·subst q
     rw [h] at hj
     cases hj
     exact absurd hc hn
    ·rw [List.getElem?_set_ne q];exact h
  ·cases e;exact h
  ·cases e
theorem oz {k i:Nat} {c:Dm.Dat} (hc:Dm.cP c=some k):∀ {xs:List Dm.Val} {ρ ρ':Dm.Env} {ds:List Dm.Dat},Dm.ug k ρ xs=some (ds,ρ')→ρ[i]?=some (.ow c)→ρ'[i]?=some (.ow c)
 | [],_,_,_,e,h=>by cases e;exact h
 | x::xs,ρ,ρ',ds,e,h=>by
  unfold Dm.ug at e
  split at e
  ·cases e
  rename_i d ρ1 e1
  split at e
  ·cases e
  rename_i ds' ρ2 e2
  cases e
  exact oz hc e2 (An e1 h hc)
noncomputable def LQ (k:Nat) (H0:Hp) (σ:L2.St) (ρ:Dm.Env) (v:V) (d:Dm.Dat):Prop:=Rep H0 v d∨∃ (i:Nat) (b:Addr) (ds:List Dm.Dat),d=.lst ds∧v=.ref b∧ρ[i]?=some (.ow (.lst ds))∧Dm.cP (.lst ds)=some k∧σ[i]?=some (some (.ref b))
inductive q_ (k:Nat) (H0:Hp) (σ:L2.St) (ρ:Dm.Env):List V→List Dm.Dat→Prop
 | nil:q_ k H0 σ ρ [] []
 | cons {v:V} {d:Dm.Dat} {vs:List V} {ds:List Dm.Dat}:LQ k H0 σ ρ v d→q_ k H0 σ ρ vs ds→q_ k H0 σ ρ (v::vs) (d::ds)
theorem uh {k:Nat} {Hs H0s H0 H:Hp} {σ:L2.St} {ρs:Dm.Env}:∀ {xs:List Dm.Val} {vs:List V} {ρ ρ':Dm.Env} {ds:List Dm.Dat} {H0c:Hp},ESt σ ρs H0s Hs ρ H0c H→aj H0 H0c→aY Hs H0 H σ ρ vs xs→Dm.ug k ρ xs=some (ds,ρ') →
  ∃ gY,ESt σ ρs H0s Hs ρ' gY H∧aj H0c gY∧q_ k gY σ ρ' vs ds
 | [],_,ρ,ρ',ds,H0c,t,b,r,e=>by
  cases r
  cases e
  exact ⟨H0c,t,aj.refl _,.nil⟩
 | x::xs,_,ρ,ρ',ds,H0c,t,b,r,e=>by
  cases r with
  | cons h r=>
   unfold Dm.ug at e
   split at e
   ·cases e
   ·rename_i d ρ1 e1
    split at e
    ·cases e
    ·rename_i ds' ρ2 e2
     cases e
     rcases HB e1 with e1' | ⟨i,es,rfl,hi,hk,rfl,rfl⟩
     ·obtain ⟨H1,t1,b1,r1,o1,d1⟩:=take1 t b h e1'
      obtain ⟨H2,t2,b2,r2⟩:=uh t1 (b.trans b1) (r.rho o1 d1) e2
      exact ⟨H2,t2,b1.trans b2,.cons (.inl (r1.mono b2)) r2⟩
     ·obtain ⟨H2,t2,b2,r2⟩:=uh t b r e2
      obtain ⟨q,_⟩:=h
      obtain ⟨a,z,_⟩:=t.st.ow i _ hi
      rw [q] at z
      cases z
      exact ⟨H2,t2,b2,.cons (.inr ⟨i,a,es,rfl,rfl,oz hk e2 hi,hk,q⟩) r2⟩
mutual
theorem Rep.noL {k:Nat} {H H':Hp} (hk:∀ a o,H a=some o→H' a=some o∨∃ xs,o=.lst xs∧∀ ds j,ay H xs ds→Dm.cP (.lst ds)=some j→j=k):∀ {v:V} {d:Dm.Dat},Rep H v d→Dm.dB k d=true→Rep H' v d
 | _,_,.non,_=>.non
 | _,_,.bl b,_=>.bl b
 | _,_,.int i,_=>.int i
 | _,_,.str x,_=>.str x
 | _,_,.tup h r,n=>.tup (by
   rcases hk _ _ h with z | ⟨_,z,_⟩
   ·exact z
   ·cases z) (ay.noL hk r (by unfold Dm.dB at n;exact n))
 | _,_,.lst (ds:=ds) h r,n=>by
   unfold Dm.dB at n
   rw [Bool.and_eq_true] at n
   refine .lst ?_ (ay.noL hk r n.2)
   rcases h with h | ⟨o,h⟩
   ·rcases hk _ _ h with z | ⟨_,z,kf⟩
    ·exact .inl z
    ·cases z
     obtain ⟨n1,_⟩:=n
     split at n1
     ·rename_i j e
      exact absurd (kf ds j r e) (of_decide_eq_true n1)
     ·cases n1
   ·rcases hk _ _ h with z | ⟨_,z,_⟩
    ·exact .inr ⟨o,z⟩
    ·cases z
 | _,_,.dct h e r,n=>.dct (by
   rcases hk _ _ h with z | ⟨_,z,_⟩
   ·exact z
   ·cases z) e (ay.noL hk r (by unfold Dm.dB at n;exact n))
 | _,_,.exc h,n=>.exc (by
   rcases hk _ _ h with z | ⟨_,z,_⟩
   ·exact z
   ·cases z)
 | _,_,.fn a,_=>.fn a
theorem ay.noL {k:Nat} {H H':Hp} (hk:∀ a o,H a=some o→H' a=some o∨∃ xs,o=.lst xs∧∀ ds j,ay H xs ds→Dm.cP (.lst ds)=some j→j=k):∀ {vs:List V} {ds:List Dm.Dat},ay H vs ds→Dm.cQ k ds=true→ay H' vs ds
 | _,_,.nil,_=>.nil
 | _,_,.cons h r,n=>by
  unfold Dm.cQ at n
  rw [Bool.and_eq_true] at n
  exact .cons (Rep.noL hk h n.1) (ay.noL hk r n.2)
end
open Classical in
theorem lP {k:Nat} {σ:L2.St} {H:Hp} {Q:VK} {f:List Dm.Dat→Option Dm.RV} {fs:List Dm.FE} {E:XK} (h:tD (Dm.eFk k f fs) σ H Q):fD (spD f) [] E (tDA fs) σ H Q:=by
 obtain ⟨H0,ρ,x,ρ',st,e,kk⟩:=h
 unfold Dm.eFk at e
 split at e
 ·cases e
 rename_i xs ρ1 e1
 split at e
 ·cases e
 rename_i ds ρ2 e2
 split at e
 ·cases e
 rename_i z fz
 split at e
 case isFalse=>cases e
 rename_i hno
 injection e with e
 injection e with ea eb
 subst ea
 subst eb
 refine ⟨H0,ρ,xs,ρ1,st,e1,fun vs H1 Hb t1 r1=>?_⟩
 dsimp only
 rw [List.append_nil]
 obtain ⟨H2,t2,b2,r2⟩:=uh t1 (aj.refl _) r1 e2
 let B:Addr→Prop:=fun b=>∃ (i:Nat) (es:List Dm.Dat),ρ2[i]?=some (.ow (.lst es))∧Dm.cP (.lst es)=some k∧σ[i]?=some (some (.ref b))
 have hB:∀ b,B b→H2 b=none∧∃ ys es,Hb b=some (.lst ys)∧ay H2 ys es∧Dm.cP (.lst es)=some k:=fun b ⟨i,es,h1,h2,h3⟩=>by
  obtain ⟨a,q,n,ys,w,rs⟩:=t2.st.ow i _ h1
  rw [h3] at q
  cases q
  exact ⟨n,ys,es,w,rs,h2⟩
 let H2':Hp:=fun b=>if B b then Hb b else H2 b
 have in':∀ b,B b→H2' b=Hb b:=fun b h=>if_pos h
 have out':∀ b,¬ B b→H2' b=H2 b:=fun b h=>if_neg h
 have s2:aj H2 H2':=fun b o e=>by
  by_cases q:B b
  ·rw [(hB b q).1] at e;cases e
  ·rw [out' b q];exact e
 have s2b:aj H2' Hb:=fun b o e=>by
  by_cases q:B b
  ·rw [in' b q] at e;exact e
  ·rw [out' b q] at e;exact t2.st.same _ _ e
 have rr:∀ {vs:List V} {ds:List Dm.Dat},q_ k H2 σ ρ2 vs ds→ay H2' vs ds:=fun {vs ds} r=>by
  induction r with
  | nil=>exact .nil
  | cons h _ ih=>
   refine .cons ?_ ih
   rcases h with h | ⟨i,b,es,rfl,rfl,h1,h2,h3⟩
   ·exact h.mono s2
   ·obtain ⟨a,q,n,ys,w,rs⟩:=t2.st.ow i _ h1
    rw [h3] at q
    cases q
    exact .lst (.inl (by rw [in' _ ⟨i,es,h1,h2,h3⟩];exact w)) (rs.mono s2)
 refine ⟨H2',ds,z,s2b,rr r2,fz,fun w H3 Hd g3 r3=>?_⟩
 let H3':Hp:=fun b=>if B b then none else H3 b
 have in3:∀ b,B b→H3' b=none:=fun b h=>if_pos h
 have lO:∀ b,¬ B b→H3' b=H3 b:=fun b h=>if_neg h
 have gr:aD H2 Hb H3' Hd:=⟨fun b o e=>by
   by_cases q:B b
   ·rw [(hB b q).1] at e;cases e
   ·rw [lO b q];exact g3.s0 _ _ (s2 _ _ e),g3.s1,fun b o e=>by
   by_cases q:B b
   ·rw [in3 b q] at e;cases e
   ·rw [lO b q] at e
    rcases g3.s2 b o e with y | y
    ·exact .inl y
    ·rw [out' b q] at y;exact .inr y,fun b o e=>by
   by_cases q:B b
   ·rw [in3 b q] at e;cases e
   ·rw [lO b q] at e;exact g3.s3 _ _ e⟩
 have hk:∀ a o,H3 a=some o→H3' a=some o∨∃ xs,o=.lst xs∧∀ ds j,ay H3 xs ds→Dm.cP (.lst ds)=some j→j=k:=fun a o e=>by
  by_cases q:B a
  ·obtain ⟨_,ys,es,y,rs,he⟩:=hB a q
   have:=g3.s0 a _ ((in' a q).trans y)
   rw [e] at this
   refine .inr ⟨ys,Option.some.inj this,fun ds j r hj=>Am r ((rs.mono s2).mono g3.s0) hj he⟩
  ·exact .inl (by rw [lO a q];exact e)
 have r3':pq Hb H3' Hd w z:=by
  cases z with
  | val d=>exact Rep.noL hk r3 hno
  | new d=>
   obtain ⟨a,ea,n,n0,w'⟩:=r3
   refine ⟨a,ea,n,?_,?_⟩
   ·by_cases q:B a
    ·exact in3 a q
    ·rw [lO a q];exact n0
   ·cases d with
    | lst ds'=>
     obtain ⟨ys,y1,y2⟩:=w'
     have hn:Dm.dB k (.lst ds')=true:=hno
     unfold Dm.dB at hn
     rw [Bool.and_eq_true] at hn
     exact ⟨ys,y1,ay.noL hk y2 hn.2⟩
    | dct ks ds'=>
     obtain ⟨ys,y1,y2,y3⟩:=w'
     have hn:Dm.dB k (.dct ks ds')=true:=hno
     unfold Dm.dB at hn
     exact ⟨ys,y1,y2,ay.noL hk y3 hn⟩
    | _=>exact w'.elim
 exact kk w H3' Hd (t2.trans (.grow t2.st gr)) ((r3'.toV t2.st).early fun a n=>t2.stp.gone n)
theorem Ao {k:Nat} {σ:L2.St} {H:Hp} {Q:VK} {g:List Dm.Dat→Option Dm.RV} {c:Int} {fs:List Dm.FE} {E:XK} (h:tD (Dm.eFk k (fun ds=>g (ds++[.int c])) fs) σ H Q):fD (spD g) [.int c] E (tDA fs) σ H Q:=by
 obtain ⟨H0,ρ,xs,ρ',st,e,k⟩:=lP (E:=E) h
 refine ⟨H0,ρ,xs,ρ',st,e,fun vs H0' H' t r=>?_⟩
 have:=k vs H0' H' t r
 dsimp only at this
 rw [List.append_nil] at this
 exact Df this
section
variable {X:Cx} {e:Expr} {es:List Expr} {fs:List Dm.FE} {p pos:Pos}
theorem Aq {k:Nat} (kd:Nat) {F:Addr} {fd:FuncData} {ps:List Str} {g:List Dm.Dat→Option Dm.RV} {x:Str} (G:aR X.prog X.w X.K X.mg X.base CX0 k F fd ps (spD g)) (hr:aU k X.A) (hg:Gl X x) (hm:X.mg x=some (.ref F)) (hk:PySem.W.keepIn X.K (.ref F)=true) (hb:Binds X.K fd ps [])
  (ha:DA X (e::es) fs) (hdb:(x == ("__debug__" : Str))=false:=by decide) (he:starEach (e::es) X.env=(false,eval e X.env)::starEach es X.env:=by rfl) (hpl:(backTo pos (starEach es X.env)).any (·.1)=false:=by rfl) :
  DE X (.Call (.Name x p) (e::es) [] pos) (Dm.eFk kd g fs):=PE.weak (cT G hr hg hm hk hb .nil (gH (X:=X)) ha hdb he hpl) fun _ _ _=>lP
theorem Ar {k:Nat} (kd:Nat) {F:Addr} {fd:FuncData} {ps:List Str} {g:List Dm.Dat→Option Dm.RV} {x:Str} {c:Int} {tk:Tok} (G:aR X.prog X.w X.K X.mg X.base CX0 k F fd ps (spD g)) (hr:aU k X.A) (hg:Gl X x) (hm:X.mg x=some (.ref F)) (hk:PySem.W.keepIn X.K (.ref F)=true) (hb:Binds X.K fd ps [.int c tk])
  (ha:DA X (e::es) fs) (hdb:(x == ("__debug__" : Str))=false:=by decide) (he:starEach (e::es) X.env=(false,eval e X.env)::starEach es X.env:=by rfl) (hpl:(backTo pos (starEach es X.env)).any (·.1)=false:=by rfl) :
  DE X (.Call (.Name x p) (e::es) [] pos) (Dm.eFk kd (fun ds=>g (ds++[.int c])) fs):=PE.weak (cT G hr hg hm hk hb (dvs:=[.int c]) (.cons (show RelV (.int c) (.int c tk) from ⟨tk,rfl⟩) .nil) (gH (X:=X)) ha hdb he hpl) fun _ _ _=>Ao
end
end Br
namespace Dm
end Dm
namespace Br
open PySem PySem.Spec PyProof.Rows L2
section
variable {X:Cx}
end
section
variable {X:Cx} {e:Expr} {fs:List Dm.FE} {p pos:Pos}
end
end Br
namespace Dm
end Dm
namespace Br
open PySem PySem.Spec PyProof.Rows L2
section
variable {X:Cx} {l a b:Expr} {tl:TE} {ta:TA} {fa fb:Dm.FE} {p pos p0 lF:Pos}
end
end Br
namespace Dm
end Dm
namespace Br
open PySem PySem.Spec PyProof.Rows L2
section
variable {prog:Program} {w:World} {A:Around} {E:Value→Shared→Prop} {s:Shared}
end
section
variable {prog:Program} {w:World} {A:Around} {s:Shared}
end
section
variable {X:Cx}
end
section
variable {X:Cx} {e:Expr} {fs:List Dm.FE} {p pos:Pos} {k:Nat}
end
end Br
namespace Dm
end Dm
namespace Br
open PySem PySem.Spec PyProof.Rows L2
theorem HC {σ:L2.St} {ρ:Dm.Env} {i:Nat} {b:Addr} (z:af σ (ρ.set i .un) b):af σ ρ b:=by
 obtain ⟨j,d,hj,h1,h2⟩:=bD z
 exact ⟨j,d,h1,h2⟩
section
variable {X:Cx} {tg c e:Expr} {bd:Dm.FB} {is:List Nat} {t:Dm.FT} {f:Dm.FE} {x:Str} {px rp ip pos:Pos}
end
end Br
namespace Dm
end Dm
namespace Br
open PySem PySem.Spec PyProof.Rows L2
section
variable {X:Cx}
end
section
variable {X:Cx} {e:Expr} {fs:List Dm.FE} {p pos:Pos}
end
end Br
namespace Dm
end Dm
namespace Br
open PySem PySem.Spec PyProof.Rows L2
section
variable {X:Cx} {a b c:Expr} {fa fb fc:Dm.FE} {apos cpos:Pos} {k:Nat}
end
end Br
namespace Dk
open PySem PyProof.Rows
open Sem (wp)
section
variable {prog:Program} {w:World} {A:Around} {E:Value→Shared→Prop} {s:Shared}
end
section
variable {prog:Program} {w:World} {K:Type} [DecidableEq K] {knd:PySem.KeyKind prog w K} {A:Around} {E:Value→Shared→Prop} {s:Shared}
end
end Dk
namespace Dm
end Dm
namespace Br
open PySem PySem.Spec PyProof.Rows L2
section
variable {X:Cx} {e:Expr} {fs:List Dm.FE} {p pos:Pos}
end
end Br
namespace Dm
inductive Dp where
 | s (d:Dat)
 | l (xs:List Dp)
 | t (xs:List Dp)
mutual
noncomputable def Dp.dat:Dp→Dat
 | .s d=>d
 | .l xs=>.lst (Dp.rj xs)
 | .t xs=>.tup (Dp.rj xs)
noncomputable def Dp.rj:List Dp→List Dat
 | []=>[]
 | x::r=>x.dat::Dp.rj r
end
theorem Dp.ji:∀ xs:List Dp,Dp.rj xs=xs.map Dp.dat
 | []=>rfl
 | x::r=>by rw [Dp.rj,Dp.ji r];rfl
theorem Dp.As (ds:List Dat):Dp.rj (ds.map Dp.s)=ds:=by
 rw [Dp.ji,List.map_map]
 exact (List.map_congr_left fun d _=>rfl).trans (List.map_id ds)
noncomputable abbrev FP:=Env→Option (Dp×Env)
noncomputable def pO (f:FE):FP:=fun ρ=>match f ρ with
 | some (.val d,ρ1)=>some (.s d,ρ1)
 | some (.new (.lst ds),ρ1)=>some (.l (ds.map .s),ρ1)
 | some (.slot i,ρ1)=>(match ρ1[i]? with
  | some (.ow (.lst ds))=>some (.l (ds.map .s),ρ1.set i .un)
  | some (.sh d)=>some (.s d,ρ1)
  | _=>none)
 | _=>none
noncomputable def pAs:List FP→Env→Option (List Dp×Env)
 | [],ρ=>some ([],ρ)
 | f::r,ρ=>match f ρ with
  | none=>none
  | some (x,ρ1)=>match pAs r ρ1 with
   | none=>none
   | some (xs,ρ2)=>some (x::xs,ρ2)
noncomputable def pT (fs:List FP):FP:=fun ρ=>match pAs fs ρ with
 | none=>none
 | some (ps,ρ1)=>if ps.length≤SZ then some (.t ps,ρ1) else none
noncomputable abbrev FSP:=Env→Option Dp
noncomputable def qR (f:FP):FSP:=fun ρ=>match f ρ with
 | none=>none
 | some (p,_)=>some p
noncomputable def fu (s:FS) (g:FSP):FSP:=fun ρ=>match s ρ with
 | some (.nx ρ1)=>g ρ1
 | _=>none
noncomputable def fnP (n m:Nat) (g:FSP) (ds:List Dat):Option Dp:=if ds.length=n then g (ds.map Cell.sh++List.replicate m .un) else none
noncomputable def shC:Cell→Cell
 | .ow d=>.sh d
 | c=>c
noncomputable def vO (ρ:Env):Env:=ρ.map shC
noncomputable abbrev FM:=Env→Dp→Option Out
noncomputable def see (j:Nat) (ρ:Env) (p:Dp):Env:=vO (ρ.set j (.sh p.dat))
noncomputable def mIf (j:Nat) (t:FT) (fs:FS) (g:FM):FM:=fun ρ p=>match t (see j ρ p) with
 | none=>none
 | some (true,_)=>(match fs ρ with
  | some (.nx _)=>none
  | o=>o)
 | some (false,_)=>g ρ p
noncomputable def rm (z:Int) (gs:FS):FM:=fun ρ p=>match p with
 | .t xs=>(match ixN xs.length z with
  | none=>none
  | some m=>(match xs[m]? with
   | some (.l _)=>gs ρ
   | _=>none))
 | _=>none
end Dm
namespace Br
open PySem PySem.Spec PyProof.Rows L2
mutual
inductive bG (N:Addr→Prop) (H0 H:Hp):V→Dm.Dp→List Addr→Prop
 | s {v:V} {d:Dm.Dat}:Rep H0 v d→bG N H0 H v (.s d) []
 | l {a:Addr} {vs:List V} {ps:List Dm.Dp} {fp:List Addr}:N a→H a=some (.lst vs)→aC N H0 H vs ps fp→bG N H0 H (.ref a) (.l ps) (a::fp)
 | t {a:Addr} {vs:List V} {ps:List Dm.Dp} {fp:List Addr}:N a→H a=some (.tup vs)→aC N H0 H vs ps fp→bG N H0 H (.ref a) (.t ps) fp
inductive aC (N:Addr→Prop) (H0 H:Hp):List V→List Dm.Dp→List Addr→Prop
 | nil:aC N H0 H [] [] []
 | cons {v:V} {p:Dm.Dp} {f:List Addr} {vs:List V} {ps:List Dm.Dp} {fp:List Addr}:bG N H0 H v p f→aC N H0 H vs ps fp→aC N H0 H (v::vs) (p::ps) (f++fp)
end
section
variable {N N':Addr→Prop} {H0 H H0' H':Hp}
mutual
theorem bG.mono (s:aj H0 H0') (kn:∀ a,N a→N' a) (kt:∀ a vs,N a→H a=some (.tup vs)→H' a=some (.tup vs)):∀ {v:V} {p:Dm.Dp} {fp:List Addr},bG N H0 H v p fp→(∀ a∈fp,H' a=H a)→bG N' H0' H' v p fp
 | _,_,_,.s r,_=>.s (r.mono s)
 | _,_,_,.l n h r,k=>.l (kn _ n) ((k _ List.mem_cons_self).trans h) (aC.mono s kn kt r fun b hb=>k b (List.mem_cons_of_mem _ hb))
 | _,_,_,.t n h r,k=>.t (kn _ n) (kt _ _ n h) (aC.mono s kn kt r k)
theorem aC.mono (s:aj H0 H0') (kn:∀ a,N a→N' a) (kt:∀ a vs,N a→H a=some (.tup vs)→H' a=some (.tup vs)):∀ {vs:List V} {ps:List Dm.Dp} {fp:List Addr},aC N H0 H vs ps fp→(∀ a∈fp,H' a=H a)→aC N' H0' H' vs ps fp
 | _,_,_,.nil,_=>.nil
 | _,_,_,.cons h r,k=>.cons (bG.mono s kn kt h fun a ha=>k a (List.mem_append_left _ ha)) (aC.mono s kn kt r fun a ha=>k a (List.mem_append_right _ ha))
end
mutual
theorem bG.fpN:∀ {v:V} {p:Dm.Dp} {fp:List Addr},bG N H0 H v p fp→∀ a∈fp,N a∧∃ xs,H a=some (.lst xs)
 | _,_,_,.s _,_,h=>by cases h
 | _,_,_,.l n h r,a,ha=>by
  rcases List.mem_cons.mp ha with rfl | ha
  ·exact ⟨n,_,h⟩
  ·exact aC.fpN r a ha
 | _,_,_,.t n h r,a,ha=>aC.fpN r a ha
theorem aC.fpN:∀ {vs:List V} {ps:List Dm.Dp} {fp:List Addr},aC N H0 H vs ps fp→∀ a∈fp,N a∧∃ xs,H a=some (.lst xs)
 | _,_,_,.nil,_,h=>by cases h
 | _,_,_,.cons h r,a,ha=>(List.mem_append.mp ha).elim (bG.fpN h a) (aC.fpN r a)
end
mutual
theorem bG.rep (s:aj H0 H0') (k:∀ a o,N a→H a=some o→H0' a=some o):∀ {v:V} {p:Dm.Dp} {fp:List Addr},bG N H0 H v p fp→Rep H0' v p.dat
 | _,_,_,.s r=>r.mono s
 | _,_,_,.l n h r=>.lst (.inl (k _ _ n h)) (aC.rep s k r)
 | _,_,_,.t n h r=>.tup (k _ _ n h) (aC.rep s k r)
theorem aC.rep (s:aj H0 H0') (k:∀ a o,N a→H a=some o→H0' a=some o):∀ {vs:List V} {ps:List Dm.Dp} {fp:List Addr},aC N H0 H vs ps fp→ay H0' vs (Dm.Dp.rj ps)
 | _,_,_,.nil=>.nil
 | _,_,_,.cons h r=>.cons (bG.rep s k h) (aC.rep s k r)
end
theorem aC.kK:∀ {vs:List V} {ds:List Dm.Dat},ay H0 vs ds→aC N H0 H vs (ds.map .s) []
 | _,_,.nil=>.nil
 | _,_,.cons h r=>.cons (.s h) (aC.kK r)
theorem aC.get:∀ {vs:List V} {ps:List Dm.Dp} {fp:List Addr} {i:Nat} {p:Dm.Dp},aC N H0 H vs ps fp→ps[i]?=some p→∃ v f,vs[i]?=some v∧bG N H0 H v p f∧∀ a∈f,a∈fp
 | _,_,_,_,_,.nil,e=>by simp at e
 | _,_,_,0,_,.cons h _,e=>by simp at e;subst e;exact ⟨_,_,rfl,h,fun a ha=>List.mem_append_left _ ha⟩
 | _,_,_,i+1,_,.cons _ r,e=>by
  obtain ⟨v,f,h1,h2,h3⟩:=aC.get (i:=i) r (by simpa using e)
  exact ⟨v,f,by simpa using h1,h2,fun a ha=>List.mem_append_right _ (h3 a ha)⟩
theorem aC.length:∀ {vs:List V} {ps:List Dm.Dp} {fp:List Addr},aC N H0 H vs ps fp→vs.length=ps.length
 | _,_,_,.nil=>rfl
 | _,_,_,.cons _ r=>by rw [List.length_cons,List.length_cons,aC.length r]
end
theorem ao.lQ {H0 H:Hp} {σ:L2.St} {ρ:Dm.Env} {a:Addr} {vs:List V} (st:ao H0 H σ ρ) (h:H a=some (.tup vs)):¬ af σ ρ a:=fun ⟨i,d,h1,h2⟩=>by
 obtain ⟨b,q,n,w⟩:=st.ow i d h1
 rw [h2] at q
 cases q
 cases d with
 | lst ds=>obtain ⟨xs,y,_⟩:=w;rw [h] at y;cases y
 | dct ks ds=>obtain ⟨xs,y,_⟩:=w;rw [h] at y;cases y
 | _=>exact w
theorem bG.est {N:Addr→Prop} {σ:L2.St} {ρ ρ':Dm.Env} {H0 H H0' H':Hp} {v:V} {p:Dm.Dp} {fp:List Addr} (st:ao H0 H σ ρ) (t:ESt σ ρ H0 H ρ' H0' H') (r:bG N H0 H v p fp) (k:∀ a∈fp,H0 a=none∧¬ af σ ρ a) :
  bG N H0' H' v p fp∧∀ a∈fp,H0' a=none∧¬ af σ ρ' a:=by
 refine ⟨r.mono t.stp.s0 (fun _ n=>n) (fun a vs _ h=>t.stp.s1 a _ h (st.lQ h)) fun a ha=>?_,fun a ha=>?_⟩
 ·obtain ⟨_,xs,h⟩:=r.fpN a ha
  rw [(t.bO h (k a ha).1 (k a ha).2).1,h]
 ·obtain ⟨_,xs,h⟩:=r.fpN a ha
  exact (t.bO h (k a ha).1 (k a ha).2).2
noncomputable def g4 (σ:L2.St) (ρ:Dm.Env) (H:Hp) (a:Addr):Prop:=H a=none∨af σ ρ a
noncomputable def dD (σ:L2.St) (ρ:Dm.Env) (H0:Hp) (fp:List Addr):Prop:=fp.Nodup∧∀ a∈fp,H0 a=none∧¬ af σ ρ a
noncomputable def tDp (f:Dm.FP):TE:=fun σ H Q=>∃ H0 ρ p ρ',ao H0 H σ ρ∧f ρ=some (p,ρ')∧∀ v H0' H' fp,ESt σ ρ H0 H ρ' H0' H'→bG (g4 σ ρ H) H0' H' v p fp→dD σ ρ' H0' fp→Q v H'
noncomputable def Au (fs:List Dm.FP):TA:=fun σ H Q=>∃ H0 ρ ps ρ',ao H0 H σ ρ∧Dm.pAs fs ρ=some (ps,ρ')∧∀ vs H0' H' fp,ESt σ ρ H0 H ρ' H0' H'→aC (g4 σ ρ H) H0' H' vs ps fp→dD σ ρ' H0' fp→Q vs H'
noncomputable abbrev DP (X:Cx) (e:Expr) (f:Dm.FP):Prop:=PE X e (tDp f)
noncomputable abbrev DPA (X:Cx) (es:List Expr) (fs:List Dm.FP):Prop:=PA X es (Au fs)
section
variable {σ:L2.St} {H:Hp} {Q:VK}
theorem LR {f:Dm.FE} (h:tDp (Dm.pO f) σ H Q):tD f σ H Q:=by
 obtain ⟨H0,ρ,p,ρ',st,e,k⟩:=h
 unfold Dm.pO at e
 split at e
 ·rename_i d ρ1 e1
  cases e
  exact ⟨H0,ρ,_,_,st,e1,fun v H0' H' t r=>k v H0' H' [] t (.s r) ⟨List.nodup_nil,fun a h=>by cases h⟩⟩
 ·rename_i ds ρ1 e1
  cases e
  refine ⟨H0,ρ,_,_,st,e1,fun v H0' H' t r=>?_⟩
  obtain ⟨a,rfl,n,no,n0,xs,y,rs⟩:=r
  refine k _ H0' H' [a] t (.l (.inl n) y (.kK rs)) ⟨by simp,fun b hb=>?_⟩
  rw [List.mem_singleton.mp hb]
  exact ⟨n0,no⟩
 ·rename_i i ρ1 e1
  split at e
  ·rename_i ds h1
   cases e
   refine ⟨H0,ρ,_,_,st,e1,fun v H0' H' t r=>?_⟩
   obtain ⟨q,_⟩:=r
   obtain ⟨a,q',n0,xs,y,rs⟩:=t.st.ow i _ h1
   rw [q] at q'
   cases q'
   have ow:af σ ρ1 a:=⟨i,_,h1,q⟩
   refine k _ H0' H' [a] ⟨t.st.mask i,t.stp,fun b z=>?_,fun j z=>trivial⟩ (.l (.inr (t.own a ow)) y (.kK rs)) ⟨by simp,fun b hb=>?_⟩
   ·obtain ⟨j,d2,_,z1,z2⟩:=bD z
    exact t.own b ⟨j,d2,z1,z2⟩
   ·rw [List.mem_singleton.mp hb]
    refine ⟨n0,fun z=>?_⟩
    obtain ⟨j,d2,hj,z1,z2⟩:=bD z
    exact hj (t.st.dis j i d2 _ a z1 h1 z2 q)
  ·rename_i d h1
   cases e
   refine ⟨H0,ρ,_,_,st,e1,fun v H0' H' t r=>?_⟩
   obtain ⟨q,_⟩:=r
   obtain ⟨u,q',w⟩:=t.st.sh i d h1
   rw [q] at q'
   cases q'
   exact k _ H0' H' [] t (.s w) ⟨List.nodup_nil,fun a h=>by cases h⟩
  ·cases e
 ·cases e
theorem HD {Q:List V→Hp→Prop} (h:Au [] σ H Q):gD σ H Q:=by
 obtain ⟨H0,ρ,xs,ρ',st,e,k⟩:=h
 cases e
 exact k [] H0 H [] (.refl st) .nil ⟨List.nodup_nil,fun a h=>by cases h⟩
theorem g4.back {σ:L2.St} {ρ ρ1:Dm.Env} {H0 H H1 Hb:Hp} (t:ESt σ ρ H0 H ρ1 H1 Hb) {a:Addr} (n:g4 σ ρ1 Hb a):g4 σ ρ H a:=n.elim (fun z=>.inl (t.stp.gone z)) fun z=>.inr (t.own a z)
theorem dD.app {σ:L2.St} {ρ1 ρ2:Dm.Env} {H1 Hb H2 Hc:Hp} {f fp:List Addr} (hf:f.Nodup) (h1:∀ a∈f,(∃ o,Hb a=some o)∧¬ af σ ρ1 a) (h2:∀ a∈f,H2 a=none∧¬ af σ ρ2 a) (g:dD σ ρ2 H2 fp) (gn:∀ a∈fp,g4 σ ρ1 Hb a):dD σ ρ2 H2 (f++fp):=by
 refine ⟨List.nodup_append.mpr ⟨hf,g.1,fun a ha b hb z=>?_⟩,fun a ha=>(List.mem_append.mp ha).elim (h2 a) (g.2 a)⟩
 subst z
 obtain ⟨⟨o,q1⟩,q2⟩:=h1 a ha
 rcases gn a hb with z | z
 ·rw [q1] at z;cases z
 ·exact q2 z
theorem Dt {f:Dm.FP} {fs:List Dm.FP} {Q:List V→Hp→Prop} (h:Au (f::fs) σ H Q):dg (tDp f) (Au fs) σ H Q:=by
 obtain ⟨H0,ρ,xs,ρ',st,e,k⟩:=h
 unfold Dm.pAs at e
 split at e
 ·cases e
 rename_i x1 ρ1 e1
 split at e
 ·cases e
 rename_i xs1 ρ2 e2
 cases e
 refine ⟨H0,ρ,x1,ρ1,st,e1,fun v H1 Hb f1 t1 r1 g1=>⟨H1,ρ1,xs1,_,t1.st,e2,fun vs H2 Hc f2 t2 r2 g2=>?_⟩⟩
 obtain ⟨m1,m2⟩:=r1.est t1.st t2 g1.2
 refine k (v::vs) H2 Hc (f1++f2) (t1.trans t2) (.cons m1 (r2.mono (aj.refl _) (fun a n=>g4.back t1 n) (fun _ _ _ h=>h) fun _ _=>rfl)) (dD.app (H1:=H1) (Hc:=Hc) g1.1 (fun a ha=>⟨?_,(g1.2 a ha).2⟩) m2 g2 fun a ha=>(r2.fpN a ha).1)
 obtain ⟨_,ys,h⟩:=r1.fpN a ha
 exact ⟨_,h⟩
theorem HE {fs:List Dm.FP} (h:tDp (Dm.pT fs) σ H Q):CA (Au fs) σ H Q:=by
 obtain ⟨H0,ρ,x,ρ',st,e,k⟩:=h
 unfold Dm.pT at e
 split at e
 ·cases e
 rename_i ps ρ1 e1
 split at e
 case isFalse=>cases e
 rename_i hz
 cases e
 refine ⟨H0,ρ,ps,_,st,e1,fun vs H1 Hb fp t1 r1 g1=>⟨by rw [r1.length];exact iY hz,fun a ha=>?_⟩⟩
 have g:=aD.iX (o:=HO.tup vs) t1.st.same ha
 have t2:=ESt.grow t1.st g
 refine k _ H1 _ fp (t1.trans t2) (.t (.inl (t1.stp.gone ha)) au (r1.mono g.s0 (fun _ n=>n) (fun b us _ h=>g.s1 b _ h) fun b hb=>?_)) g1
 obtain ⟨_,xs,h⟩:=r1.fpN b hb
 rw [g.s1 b _ h,h]
end
section
variable {X:Cx} {e:Expr} {es:List Expr} {f:Dm.FE} {fp:Dm.FP} {fps:List Dm.FP} {pos:Pos}
theorem p_o (h:DE X e f):DP X e (Dm.pO f):=PE.weak h fun _ _ _=>LR
theorem Kc:DPA X [] []:=PA.weak cJ fun _ _ _=>HD
theorem Av (h:DP X e fp) (r:DPA X es fps) (hs:starEach (e::es) X.env=(false,eval e X.env)::starEach es X.env:=by rfl):DPA X (e::es) (fp::fps):=PA.weak (bW h r hs) fun _ _ _=>Dt
theorem E6 {x1} (h:DPA X es fps):DP X (.Tuple es x1 pos) (Dm.pT fps):=PE.weak (tw h) fun _ _ _=>HE
end
noncomputable def spP (f:List Dm.Dat→Option Dm.Dp):Sp:=fun vs H Q _=>∃ H0 ds p,aj H0 H∧ay H0 vs ds∧f ds=some p∧∀ v H0' H' fp,aD H0 H H0' H'→bG (fun a=>H a=none) H0' H' v p fp→fp.Nodup→(∀ a∈fp,H0' a=none)→Q v H'
noncomputable def tDP (g:Dm.FSP):TS:=fun D σ H=>∃ H0 ρ p,ao H0 H σ ρ∧g ρ=some p∧∀ σ' ρ' v H0' H' fp,SSt σ ρ H0 H σ' ρ' H0' H'→bG (g4 σ ρ H) H0' H' v p fp→fp.Nodup→(∀ a∈fp,H0' a=none)→D.rt v H'
noncomputable abbrev DQs (X:Cx) (st:List Stmt) (g:Dm.FSP):Prop:=PSs X st (tDP g)
section
variable {D:Ends} {σ:L2.St} {H:Hp}
theorem LS {f:Dm.FP} (h:tDP (Dm.qR f) D σ H):yN (tDp f) D σ H:=by
 obtain ⟨H0,ρ,p,st,e,k⟩:=h
 unfold Dm.qR at e
 split at e
 ·cases e
 rename_i p' ρ1 e1
 cases e
 exact ⟨H0,ρ,_,ρ1,st,e1,fun v H0' H' fp t r g=>k σ ρ1 v H0' H' fp t.sst r g.1 fun a ha=>(g.2 a ha).1⟩
theorem HF {s:Dm.FS} {g:Dm.FSP} (h:tDP (Dm.fu s g) D σ H):gC (tDS s) (tDP g) D σ H:=by
 obtain ⟨H0,ρ,p,st,e,k⟩:=h
 unfold Dm.fu at e
 split at e
 case h_2=>cases e
 rename_i ρ1 e1
 refine ⟨H0,ρ,_,st,e1,fun σ1 H1 Hb t1=>⟨H1,ρ1,p,t1.st,e,fun σ2 ρ2 v H2 Hc fp t2 r nd n=>k σ2 ρ2 v H2 Hc fp (t1.trans t2) ?_ nd n⟩⟩
 exact r.mono (aj.refl _) (fun a z=>z.elim (fun z=>.inl (t1.stp.gone z)) fun z=>(t1.own a z).elim .inr .inl) (fun _ _ _ h=>h) fun _ _=>rfl
theorem jj {ds:List Dm.Dat} {m i:Nat} {c:Dm.Cell} (h:(ds.map Dm.Cell.sh++List.replicate m .un)[i]?=some c):(∃ d,c=.sh d∧ds[i]?=some d)∨c=.un:=by
 by_cases hi:i<ds.length
 ·rw [List.getElem?_append_left (by simpa using hi),List.getElem?_map] at h
  cases q:ds[i]? with
  | none=>rw [q] at h;cases h
  | some y=>rw [q] at h;cases h;exact .inl ⟨y,rfl,rfl⟩
 ·rw [List.getElem?_append_right (by simpa using hi),List.getElem?_replicate] at h
  split at h<;>cases h
  exact .inr rfl
theorem Aw {N:List Str} {n m:Nat} {vs:List V} {ds:List Dm.Dat} {H0 H:Hp} (hm:N.length=n+m) (hn:ds.length=n) (s:aj H0 H) (rs:ay H0 vs ds) :
  ao H0 H (start N vs) (ds.map Dm.Cell.sh++List.replicate m .un)∧∀ a,¬ af (start N vs) (ds.map Dm.Cell.sh++List.replicate m .un) a:=by
 have hl:=rs.length
 refine ⟨⟨s,?_,fun i d h=>?_,fun i d h=>?_,fun i j d e a h1 h2 _ _=>?_⟩,fun a ⟨i,d,h1,_⟩=>?_⟩
 ·unfold L2.start
  simp only [List.length_append,List.length_map,List.length_replicate]
  omega
 ·rcases jj h with ⟨d',z,q⟩ | z
  ·cases z
   obtain ⟨v,hv,r⟩:=rs.get q
   have hi:i<vs.length:=(List.getElem?_eq_some_iff.mp hv).1
   refine ⟨v,?_,r⟩
   unfold L2.start
   rw [List.getElem?_append_left (by simpa using hi),List.getElem?_map,hv]
   rfl
  ·cases z
 ·rcases jj h with ⟨d',z,q⟩ | z<;>cases z
 ·rcases jj h1 with ⟨d',z,q⟩ | z<;>cases z
 ·rcases jj h1 with ⟨d',z,q⟩ | z<;>cases z
theorem pU {n m:Nat} {g:Dm.FSP} {vs:List V} {H:Hp} {Q:VK} {E:XK} (h:spP (Dm.fnP n m g) vs H Q E):vs.length=n:=by
 obtain ⟨H0,ds,z,s,rs,e,k⟩:=h
 unfold Dm.fnP at e
 split at e
 ·rename_i hl
  rw [rs.length];exact hl
 ·cases e
theorem Ax {N:List Str} {n m:Nat} {g:Dm.FSP} {vs:List V} {Q:VK} {E:XK} (hm:N.length=n+m) (h:spP (Dm.fnP n m g) vs H Q E) :
  tDP g { nx:=fun _ H'=>Q .non H',rt:=Q } (start N vs) H:=by
 obtain ⟨H0,ds,p,s,rs,e,k⟩:=h
 unfold Dm.fnP at e
 split at e
 case isFalse=>cases e
 rename_i hl
 obtain ⟨st,no⟩:=Aw hm hl s rs
 refine ⟨H0,_,p,st,e,fun σ' ρ' v H0' H' fp t r nd n=>k v H0' H' fp ⟨t.stp.s0,fun a o e=>t.stp.s1 a o e (no a),fun a o e=>(t.stp.s2 a o e).imp id fun q=>q.elim id fun z=>absurd z (no a),t.st.same⟩ ?_ nd n⟩
 exact r.mono (aj.refl _) (fun a z=>z.elim id fun z=>absurd z (no a)) (fun _ _ _ h=>h) fun _ _=>rfl
end
section
variable {X:Cx} {e:Expr} {st:Stmt} {rest:List Stmt} {fp:Dm.FP} {fs:Dm.FS} {g:Dm.FSP} {pos:Pos}
theorem q_r (h:DP X e fp):DQs X [.Return (some e) pos] (Dm.qR fp):=dH (PS.weak (o5 h) fun _ _ _=>LS)
theorem g6 (h1:DS X st fs) (h2:DQs X rest g):DQs X (st::rest) (Dm.fu fs g):=PSs.weak (bh h1 h2) fun _ _ _=>HF
end
theorem ao.lR {H0 H:Hp} {σ:L2.St} {ρ:Dm.Env} (st:ao H0 H σ ρ) (j:Nat) (v:Option V):ao H0 H (σ.set j v) (ρ.set j .un)∧∀ a,af (σ.set j v) (ρ.set j .un) a→af σ ρ a:=by
 refine ⟨⟨st.same,by rw [List.length_set,List.length_set];exact st.len,fun i d h=>?_,fun i d h=>?_,fun i i' d d' a h1 h2 h3 h4=>?_⟩,fun a ⟨i,d,h1,h2⟩=>?_⟩
 ·rcases aF h with ⟨_,z⟩ | ⟨hij,h⟩
  ·cases z
  ·obtain ⟨v,q,r⟩:=st.sh i d h
   exact ⟨v,by rw [List.getElem?_set_ne (Ne.symm hij)];exact q,r⟩
 ·rcases aF h with ⟨_,z⟩ | ⟨hij,h⟩
  ·cases z
  ·obtain ⟨v,q,r⟩:=st.ow i d h
   exact ⟨v,by rw [List.getElem?_set_ne (Ne.symm hij)];exact q,r⟩
 ·rcases aF h1 with ⟨_,z⟩ | ⟨q1,h1⟩
  ·cases z
  rcases aF h2 with ⟨_,z⟩ | ⟨q2,h2⟩
  ·cases z
  rw [List.getElem?_set_ne (Ne.symm q1)] at h3
  rw [List.getElem?_set_ne (Ne.symm q2)] at h4
  exact st.dis i i' d d' a h1 h2 h3 h4
 ·rcases aF h1 with ⟨_,z⟩ | ⟨hij,h1⟩
  ·cases z
  ·rw [List.getElem?_set_ne (Ne.symm hij)] at h2
   exact ⟨i,d,h1,h2⟩
structure MS (j:Nat) (σs:L2.St) (ρs:Dm.Env) (H0s Hs:Hp) (σ:L2.St) (ρ:Dm.Env) (H0 H:Hp) (p:Dm.Dp):Prop where
 st:ao H0 H σ ρ
 stp:Stp (af σs ρs) H0s Hs H0 H
 own:∀ a,af σ ρ a→af σs ρs a∨Hs a=none
 fx:σ[0]?=σs[0]?
 ex:∃ v fp,σ[j]?=some (some v)∧bG (fun a=>Hs a=none) H0 H v p fp∧dD σ ρ H0 fp
section
variable {j:Nat} {σs:L2.St} {ρs:Dm.Env} {H0s Hs:Hp} {σ:L2.St} {ρ ρ':Dm.Env} {H0 H H0' H':Hp} {p:Dm.Dp}
theorem MS.sst (n:MS j σs ρs H0s Hs σ ρ H0 H p):SSt σs ρs H0s Hs σ ρ H0 H:=⟨n.st,n.stp,n.own,n.fx⟩
theorem MS.est (n:MS j σs ρs H0s Hs σ ρ H0 H p) (t:ESt σ ρ H0 H ρ' H0' H'):MS j σs ρs H0s Hs σ ρ' H0' H' p:=by
 obtain ⟨v,fp,h1,h2,h3⟩:=n.ex
 obtain ⟨m1,m2⟩:=h2.est n.st t h3.2
 exact ⟨t.st,n.stp.trans t.stp n.own,fun a z=>n.own a (t.own a z),n.fx,v,fp,h1,m1,h3.1,m2⟩
theorem MS.grow (n:MS j σs ρs H0s Hs σ ρ H0 H p) (g:aD H0 H H0' H'):MS j σs ρs H0s Hs σ ρ H0' H' p:=n.est (.grow n.st g)
open Classical in
noncomputable def bor (H0 H:Hp) (N:Addr→Prop):Hp:=fun a=>match H0 a with
 | some o=>some o
 | none=>if N a then H a else none
theorem fV {N:Addr→Prop}:aj H0 (bor H0 H N):=fun a o e=>by unfold bor;rw [e]
theorem kL {N:Addr→Prop} (s:aj H0 H):aj (bor H0 H N) H:=fun a o e=>by
 unfold bor at e
 split at e
 ·rename_i q;cases e;exact s _ _ q
 ·split at e
  ·exact e
  ·cases e
theorem lS {N:Addr→Prop} (s:aj H0 H) {a:Addr} {o:HO} (n:N a) (h:H a=some o):bor H0 H N a=some o:=by
 unfold bor
 split
 ·rename_i o' q
  rw [← h];exact (s _ _ q).symm
 ·rw [if_pos n];exact h
noncomputable def Look (Hs:Hp) (σ:L2.St) (ρ:Dm.Env) (a:Addr):Prop:=Hs a=none∨af σ ρ a
theorem g7 {j:Nat} {σ:L2.St} {ρ:Dm.Env} {p:Dm.Dp} {a:Addr}:¬ af σ (Dm.see j ρ p) a:=fun ⟨i,d,h1,_⟩=>by
 unfold Dm.see Dm.vO at h1
 rw [List.getElem?_map] at h1
 cases q:(ρ.set j (.sh p.dat))[i]? with
 | none=>rw [q] at h1;cases h1
 | some c=>rw [q] at h1;cases c<;>cases h1
theorem MS.see (n:MS j σs ρs H0s Hs σ ρ H0 H p):ao (bor H0 H (Look Hs σ ρ)) H σ (Dm.see j ρ p):=by
 obtain ⟨v,fp,h1,h2,h3⟩:=n.ex
 refine ⟨kL n.st.same,by unfold Dm.see Dm.vO;rw [List.length_map,List.length_set];exact n.st.len,fun i d h=>?_,fun i d h=>?_,fun i i' d d' a z1 z2 z3 z4=>?_⟩
 ·unfold Dm.see Dm.vO at h
  rw [List.getElem?_map] at h
  cases q:(ρ.set j (.sh p.dat))[i]? with
  | none=>rw [q] at h;cases h
  | some c=>
   rw [q] at h
   rcases aF q with ⟨rfl,rfl⟩ | ⟨_,q⟩
   ·cases h
    exact ⟨v,h1,h2.rep fV fun a o z w=>lS n.st.same (.inl z) w⟩
   ·cases c with
    | un=>cases h
    | sh d'=>
     cases h
     obtain ⟨u,w1,w2⟩:=n.st.sh i d q
     exact ⟨u,w1,w2.mono fV⟩
    | ow d'=>
     cases h
     obtain ⟨a,w1,w2,w3⟩:=n.st.ow i d q
     have lk:Look Hs σ ρ a:=.inr ⟨i,d,q,w1⟩
     refine ⟨_,w1,?_⟩
     cases d with
     | lst ds=>obtain ⟨xs,y,rs⟩:=w3;exact .lst (.inl (lS n.st.same lk y)) (rs.mono fV)
     | dct ks ds=>obtain ⟨xs,y,k,rs⟩:=w3;exact .dct (lS n.st.same lk y) k (rs.mono fV)
     | _=>exact w3.elim
 ·exact (g7 (σ:=List.replicate (i+1) (some (V.ref 0))) (a:=0) ⟨i,d,h,by rw [List.getElem?_replicate,if_pos (Nat.lt_succ_self i)]⟩).elim
 ·exact (g7 ⟨i,d,z1,z3⟩).elim
theorem MS.seen (n:MS j σs ρs H0s Hs σ ρ H0 H p) {Hb:Hp} (t:ESt σ (Dm.see j ρ p) Hb H ρ' H0' H'):aD H0 H H0 H':=
 ⟨aj.refl _,fun a o e=>t.stp.s1 a o e g7,fun a o e=>.inr e,n.st.same.trans fun a o e=>t.stp.s1 a o e g7⟩
end
noncomputable def tDM (j:Nat) (g:Dm.FM):TS:=fun D σ H=>∃ σs ρs H0s Hs H0 ρ p o,MS j σs ρs H0s Hs σ ρ H0 H p∧g ρ p=some o∧lu D σs ρs H0s Hs o
noncomputable abbrev DMs (X:Cx) (j:Nat) (st:List Stmt) (g:Dm.FM):Prop:=PSs X st (tDM j g)
section
variable {D:Ends} {σ:L2.St} {H:Hp} {j:Nat}
theorem Kd {t:Dm.FT} {fs:Dm.FS} {g:Dm.FM} (h:tDM j (Dm.mIf j t fs g) D σ H):gC (Cs (tDT t) (tDS fs) vd) (tDM j g) D σ H:=by
 obtain ⟨σs,ρs,H0s,Hs,H0,ρ,p,o,n,e,k⟩:=h
 unfold Dm.mIf at e
 split at e
 ·cases e
 ·rename_i ρ1 e1
  refine ⟨_,_,true,ρ1,n.see,e1,fun H1 Hb t1=>?_⟩
  dsimp only
  rw [if_pos rfl]
  have n1:=n.grow (n.seen t1)
  have k1:=k.pre n1.sst
  split at e
  ·cases e
  ·rename_i hn
   refine ⟨H0,ρ,o,n1.st,e,?_⟩
   cases o with
   | nx ρ'=>exact (hn ρ' e).elim
   | bk ρ'=>exact k1
   | ct ρ'=>exact k1
   | ret z ρ'=>exact k1
 ·rename_i ρ1 e1
  refine ⟨_,_,false,ρ1,n.see,e1,fun H1 Hb t1=>?_⟩
  dsimp only
  rw [if_neg Bool.false_ne_true]
  exact ⟨σs,ρs,H0s,Hs,H0,ρ,p,o,n.grow (n.seen t1),e,k⟩
theorem MS.wr {σs:L2.St} {ρs:Dm.Env} {H0s Hs:Hp} {ρ:Dm.Env} {H0:Hp} {p:Dm.Dp} (n:MS j σs ρs H0s Hs σ ρ H0 H p) {a:Addr} (h1:Hs a=none) (h2:H0 a=none) (h3:¬ af σ ρ a) (o:HO):SSt σs ρs H0s Hs σ ρ H0 (upd H a o):=
 ⟨n.st.aside h2 h3,n.stp.aside h1,n.own,n.fx⟩
theorem HG {K:PySem.W.Frag} {i:Int} {gs:Dm.FS} (h:tDM j (Dm.rm i gs) D σ H):gC (iM (Jm K "list" zo (tOp (zg K) (fB j) (tC (.int i))))) (tDS gs) D σ H:=by
 obtain ⟨σs,ρs,H0s,Hs,H0,ρ,p,o,n,e,k⟩:=h
 unfold Dm.rm at e
 split at e
 case h_2=>cases e
 rename_i ps
 split at e
 ·cases e
 rename_i m em
 split at e
 case h_2=>cases e
 rename_i rows hi
 obtain ⟨v,fp,h1,h2,h3⟩:=n.ex
 cases h2 with
 | t hN ha rs=>
  rename_i a vs
  obtain ⟨u,f,hu,ru,hf⟩:=rs.get hi
  cases ru with
  | l hNb hb rb=>
   rename_i b us fb
   obtain ⟨z1,z2⟩:=h3.2 b (hf b List.mem_cons_self)
   refine ⟨_,h1,a,vs,i,.ref b,rfl,rfl,.of ha,?_,.inl ⟨rfl,us,.inl (.inl hb)⟩,b,us,rfl,rfl,hb,?_⟩
   ·show (L2.ixN vs.length i).bind (fun j=>vs[j]?)=_
    rw [← pH,rs.length,em]
    exact hu
   ·have t:=n.wr hNb z1 z2 (.lst [])
    exact ⟨H0,ρ,o,t.st,e,k.pre t⟩
end
section
variable {X:Cx} {e c:Expr} {rest:List Stmt} {fs gs:Dm.FS} {g:Dm.FM} {pos:Pos} {j:Nat}
theorem Ke {t:Dm.FT} {x:List Stmt} (ht:DT X c t) (ha:DSs X x fs) (hr:DMs X j rest g):DMs X j (.If c x [] pos::rest) (Dm.mIf j t fs g):=PSs.weak (bh (yO ht ha o4) hr) fun _ _ _=>Kd
theorem Kf {x:Str} {px sp ap cp ip:Pos} {i:Int} {jc} (hr:DSs X rest gs) (hi:X.N[j]?=some x:=by rfl) (hv:Vis X.env.scope x:=by first | exact Or.inl rfl | exact Or.inr (Or.inl rfl) | exact Or.inr (Or.inr rfl)) (hd:(x == ("__debug__" : Str))=false:=by decide)
  (hcd:(x == ("__classdict__" : Str))=false:=by decide) (hpl:gk (.Constant (.int i) jc ip):=by intro _ _;rfl) (hbase:attributeBase (.Subscript (.Name x px) (.Constant (.int i) jc ip) sp) "clear" X.env (eval (.Subscript (.Name x px) (.Constant (.int i) jc ip) sp) X.env)=eval (.Subscript (.Name x px) (.Constant (.int i) jc ip) sp) X.env:=by rfl)
  (hline:(ap.endLine == cp.line)=true:=by rfl) (hsw:swapsWith (.Call (.Attribute (.Subscript (.Name x px) (.Constant (.int i) jc ip) sp) "clear" ap) [] [] cp) none pos.line X.env=pure false:=by rfl) :
  DMs X j (.Expr (.Call (.Attribute (.Subscript (.Name x px) (.Constant (.int i) jc ip) sp) "clear" ap) [] [] cp) pos::rest) (Dm.rm i gs):=
 PSs.weak (bh (dI (Gy PySem.F.plainAttrs_list PySem.F.slot_list_clear PySem.F.type_list_clear zp (qE o7 (bP hi hv hd hcd) kT hpl) hbase hline) hsw) hr) fun _ _ _=>HG
end
end Br
namespace Dm
mutual
noncomputable def kE:Dat→Bool
 | .tup xs=>lT xs
 | .lst _=>false
 | .dct _ _=>false
 | .exc _=>false
 | _=>true
noncomputable def lT:List Dat→Bool
 | []=>true
 | x::r=>kE x&&lT r
end
mutual
noncomputable def aW:Dp→Bool
 | .s d=>kE d
 | .l xs=>bu xs
 | .t xs=>bu xs
noncomputable def bu:List Dp→Bool
 | []=>true
 | x::r=>aW x&&bu r
end
noncomputable def fW (bd:FB) (el:FP):List Dat→Env→List Dp→Option (List Dp×Env)
 | [],ρ,acc=>some (acc,ρ)
 | d::r,ρ,acc=>match bd d ρ with
  | none=>none
  | some ρ1=>match el ρ1 with
   | none=>none
   | some (p,ρ2)=>fW bd el r ρ2 (acc++[p])
noncomputable def jl (it:FI) (own:Nat) (bd:FB) (el:FP):FP:=fun ρ=>match it ρ with
 | none=>none
 | some (ds,ρ1)=>if ds.length≤SZ then (match fW bd el ds (ρ1++List.replicate own .un) [] with
  | none=>none
  | some (ps,ρ2)=>some (.l ps,ρ2.take ρ1.length)) else none
inductive OM where
 | nx (ρ:Env) (p:Dp)
 | rt (d:Dat) (ρ:Env)
noncomputable abbrev FC:=Env→Dp→Option OM
noncomputable def j6 (j i:Nat) (f:FP):FC:=fun ρ p=>if i=0∨i=j then none else match f (see j ρ p) with
 | none=>none
 | some (q,_)=>if aW q then some (.nx (ρ.set i (.sh q.dat)) p) else none
noncomputable def kF (s:FC) (g:FM):FM:=fun ρ p=>match s ρ p with
 | some (.nx ρ1 p1)=>g ρ1 p1
 | some (.rt d ρ1)=>some (.ret (.val d) ρ1)
 | none=>none
end Dm
namespace Br
open PySem PySem.Spec PyProof.Rows L2
theorem aC.snoc {N:Addr→Prop} {H0 H:Hp} {w:V} {q:Dm.Dp} {f:List Addr} (r:bG N H0 H w q f):∀ {vs:List V} {ps:List Dm.Dp} {fp:List Addr},aC N H0 H vs ps fp→aC N H0 H (vs++[w]) (ps++[q]) (fp++f)
 | _,_,_,.nil=>by
  have:=aC.cons r (aC.nil (N:=N) (H0:=H0) (H:=H))
  rw [List.append_nil] at this
  exact this
 | _,_,_,.cons h t=>by
  have:=aC.cons h (aC.snoc r t)
  rw [← List.append_assoc] at this
  exact this
theorem Ay {σ:L2.St} {own:Nat} {bd:Dm.FB} {g:TG} {el:Dm.FP} {is:List Nat} {Q:VK} {H00 Hb:Hp} {ρ1 ρ2:Dm.Env} {ds:List Dm.Dat} {ps:List Dm.Dp} {J:It} (hb:BD is g bd) (hl:∀ i∈is,σ.length≤i)
  (st1:ao H00 Hb σ ρ1) (jw:JW J H00 ds) (hsz:ds.length≤Dm.SZ) (e2:Dm.fW bd el ds (ρ1++List.replicate own .un) []=some (ps,ρ2)) (D:Addr) (hD:Hb D=none)
  (k:∀ H0' H' fp,ESt σ ρ1 H00 Hb (ρ2.take ρ1.length) H0' H'→bG (g4 σ ρ1 Hb) H0' H' (.ref D) (.l ps) fp→dD σ (ρ2.take ρ1.length) H0' fp→Q (.ref D) H') :
  ∃ W:Nat→Nat→L2.St→Hp→Prop,(∃ m,W 0 m (σ++List.replicate own none) (upd Hb D (.lst [])))∧∀ i m σ' H',W i m σ' H' →
  (J.stop i H'∧Q (.ref D) H')∨(J.go i H'∧∀ x H2,J.yld i H' x H2→g x σ' H2 fun σ2 H3=>tR σ2 H3 fun b H4=>if b=true
   then tDp el σ2 H4 fun y H5=>∃ acc,H5 D=some (.lst acc)∧acc.length<sizeLine∧∃ m',m'<m∧W (i+1) m' σ2 (upd H5 D (.lst (acc++[y])))
   else ∃ m',m'<m∧W (i+1) m' σ2 H4):=by
 have noD:¬ af σ ρ1 D:=st1.aZ hD
 refine ⟨fun i m σ' H'=>∃ (H0c:Hp) (ρc:Dm.Env) (pa:List Dm.Dp) (fp:List Addr),ao H0c H' σ' ρc∧aj H00 H0c∧m=ds.length-i∧i≤ds.length∧Dm.fW bd el (ds.drop i) ρc pa=some (ps,ρ2) ∧
  bG (g4 σ ρ1 Hb) H0c H' (.ref D) (.l pa) fp∧pa.length=i∧dD σ' ρc H0c fp∧Stp (af σ ρ1) H00 Hb H0c H'∧(∀ j,j<σ.length→σ'[j]?=σ[j]?)∧(∀ a,af σ' ρc a→af σ ρ1 a),
  ⟨ds.length,H00,ρ1++List.replicate own .un,[],[D],(st1.aside (st1.same.free hD) noD).ext own,aj.refl _,by simp,Nat.zero_le _,by simpa using e2,.l (.inl hD) au .nil,rfl,⟨by simp,fun a ha=>?_⟩,(Stp.refl _ _ _).aside hD,
   fun j hj=>List.getElem?_append_left hj,fun a z=>dW st1 z⟩,?_⟩
 ·rw [List.mem_singleton.mp ha]
  exact ⟨st1.same.free hD,fun z=>noD (dW st1 z)⟩
 rintro i m σ' H' ⟨H0c,ρc,pa,fp,sc,s00,rfl,hi,ec,ra,hpl,fr,sp,hσ,ho⟩
 obtain ⟨js,jg⟩:=jw H0c H' s00 sc.same
 by_cases hlt:i<ds.length
 ·have hd:ds[i]?=some ds[i]:=by simp [hlt]
  obtain ⟨g1,g2⟩:=jg i ds[i] hd
  rw [List.drop_eq_getElem_cons hlt] at ec
  unfold Dm.fW at ec
  refine .inr ⟨g1,fun y H2 yy=>?_⟩
  obtain ⟨H0',gr,rx⟩:=g2 y H2 yy
  split at ec
  ·cases ec
  rename_i ρ3 e3
  split at ec
  ·cases ec
  rename_i p5 ρ5 e5
  have t2:=ESt.grow sc gr
  obtain ⟨ra2,fr2⟩:=ra.est sc t2 fr.2
  refine hb H0' H2 σ' ρc ρ3 y ds[i] _ t2.st rx e3 fun σ3 st3 o3 k3 d3 _=>?_
  unfold tR
  dsimp only
  rw [if_pos rfl]
  refine ⟨H0',ρ3,p5,ρ5,st3,e5,fun v H5 Hc f5 t5 r5 g5=>?_⟩
  have fr3:∀ a∈fp,H0' a=none∧¬ af σ3 ρ3 a:=fun a ha=>⟨(fr2 a ha).1,fun z=>(fr2 a ha).2 (o3 a z)⟩
  obtain ⟨ra5,fr5⟩:=ra2.est st3 t5 fr3
  have sp3:Stp (af σ ρ1) H00 Hb H0' H2:=sp.trans t2.stp fun a z=>.inl (ho a z)
  have sp5:Stp (af σ ρ1) H00 Hb H5 Hc:=sp3.trans t5.stp fun a z=>.inl (ho a (o3 a z))
  have nw:∀ a,g4 σ3 ρ3 H2 a→g4 σ ρ1 Hb a:=fun a z=>z.elim (fun z=>.inl (sp3.gone z)) fun z=>.inr (ho a (o3 a z))
  have frA:dD σ3 ρ5 H5 (fp++f5):=dD.app (H1:=H0') (Hb:=H2) (Hc:=Hc) fr.1 (fun a ha=>⟨by obtain ⟨_,xs,h⟩:=ra2.fpN a ha;exact ⟨_,h⟩,(fr3 a ha).2⟩) fr5 g5 fun a ha=>(r5.fpN a ha).1
  cases ra5 with
  | l nD hDc rs=>
   rename_i vs fq
   obtain ⟨z1,z2⟩:=fr5 D List.mem_cons_self
   have ndA:=frA.1
   rw [List.cons_append] at ndA
   obtain ⟨nd1,nd2⟩:=List.nodup_cons.mp ndA
   refine ⟨vs,hDc,?_,ds.length-(i+1),by omega,H5,ρ5,pa++[p5],D::(fq++f5),t5.st.aside z1 z2,(s00.trans gr.s0).trans t5.stp.s0,rfl,hlt,ec,?_,by simp [hpl],frA,sp5.aside hD,fun j hj=>(k3 j fun z=>Nat.not_lt.mpr (hl j z) hj).trans (hσ j hj),fun a z=>ho a (o3 a (t5.own a z))⟩
   ·rw [rs.length,hpl]
    unfold Dm.SZ at hsz
    exact Nat.lt_of_lt_of_le (Nat.lt_of_lt_of_le hlt hsz) (by decide)
   ·refine .l nD au ?_
    have r5':bG (g4 σ ρ1 Hb) H5 Hc v p5 f5:=r5.mono (aj.refl _) nw (fun _ _ _ h=>h) fun _ _=>rfl
    refine (rs.snoc r5').mono (aj.refl _) (fun _ n=>n) (fun a us _ h=>?_) fun a ha=>?_
    ·rw [aq fun z=>?_]
     ·exact h
     ·rw [z,hDc] at h;cases h
    ·exact aq fun z=>nd1 (z▸ha)
 ·have e':i=ds.length:=by omega
  subst e'
  rw [List.drop_length] at ec
  cases ec
  have hlen:σ.length≤ρ2.length:=by
   rw [← sc.len]
   refine Nat.not_lt.mp fun z=>?_
   have q:=hσ σ'.length z
   rw [List.getElem?_eq_none (Nat.le_refl _),List.getElem?_eq_getElem z] at q
   cases q
  have tk:∀ {j:Nat} {c:Dm.Cell},(ρ2.take ρ1.length)[j]?=some c→j<σ.length∧ρ2[j]?=some c:=fun {j c} h=>by
   have hj:j<ρ1.length:=by
    have:=(List.getElem?_eq_some_iff.mp h).1
    rw [List.length_take] at this
    omega
   rw [List.getElem?_take_of_lt hj] at h
   exact ⟨by rw [st1.len];exact hj,h⟩
  have own':∀ a,af σ (ρ2.take ρ1.length) a→af σ' ρ2 a:=fun a ⟨j,d,h1,h2⟩=>by
   obtain ⟨hj,h1⟩:=tk h1
   exact ⟨j,d,h1,(hσ j hj).trans h2⟩
  refine .inl ⟨js _ (Nat.le_refl _),k H0c H' fp ⟨⟨sc.same,?_,fun j d h=>?_,fun j d h=>?_,fun j j' d d' a h1 h2 h3 h4=>?_⟩,sp,fun a z=>ho a (own' a z),fun j z=>trivial⟩ ra ⟨fr.1,fun a ha=>⟨(fr.2 a ha).1,fun z=>(fr.2 a ha).2 (own' a z)⟩⟩⟩
  ·rw [List.length_take,← st1.len];omega
  ·obtain ⟨hj,h⟩:=tk h
   obtain ⟨v,q,r⟩:=sc.sh j d h
   exact ⟨v,(hσ j hj).symm.trans q,r⟩
  ·obtain ⟨hj,h⟩:=tk h
   obtain ⟨v,q,r⟩:=sc.ow j d h
   exact ⟨v,(hσ j hj).symm.trans q,r⟩
  ·obtain ⟨hj,h1⟩:=tk h1
   obtain ⟨hj',h2⟩:=tk h2
   exact sc.dis j j' d d' a h1 h2 ((hσ j hj).trans h3) ((hσ j' hj').trans h4)
theorem Du {σ:L2.St} {H:Hp} {Q:VK} {fi:Dm.FI} {own:Nat} {bd:Dm.FB} {g:TG} {el:Dm.FP} {is:List Nat} (hb:BD is g bd) (hl:∀ i∈is,σ.length≤i) (h:tDp (Dm.jl fi own bd el) σ H Q):tLC (tDI fi) own g tR (tDp el) σ H Q:=by
 obtain ⟨H0,ρ,x,ρ',st,e,k⟩:=h
 unfold Dm.jl at e
 split at e
 ·cases e
 rename_i ds ρ1 e1
 split at e
 case isFalse=>cases e
 rename_i hsz
 split at e
 ·cases e
 rename_i ps ρ2 e2
 cases e
 refine ⟨H0,ρ,ds,ρ1,st,e1,fun J H00 Hb t1 jw D hD=>Ay hb hl t1.st jw hsz e2 D hD fun H0' H' fp t2 r2 f2=>k _ H0' H' fp (t1.trans t2) (r2.mono (aj.refl _) (fun a n=>g4.back t1 n) (fun _ _ _ h=>h) fun _ _=>rfl) f2⟩
mutual
theorem Rep.xZ {H0 H1:Hp} (k:∀ a vs,H0 a=some (.tup vs)→H1 a=some (.tup vs)):∀ {v:V} {d:Dm.Dat},Rep H0 v d→Dm.kE d=true→Rep H1 v d
 | _,_,.non,_=>.non
 | _,_,.bl b,_=>.bl b
 | _,_,.int i,_=>.int i
 | _,_,.str x,_=>.str x
 | _,_,.tup h r,e=>.tup (k _ _ h) (ay.xZ k r (by unfold Dm.kE at e;exact e))
 | _,_,.lst _ _,e=>by unfold Dm.kE at e;cases e
 | _,_,.dct _ _ _,e=>by unfold Dm.kE at e;cases e
 | _,_,.exc _,e=>by unfold Dm.kE at e;cases e
 | _,_,.fn a,_=>.fn a
theorem ay.xZ {H0 H1:Hp} (k:∀ a vs,H0 a=some (.tup vs)→H1 a=some (.tup vs)):∀ {vs:List V} {ds:List Dm.Dat},ay H0 vs ds→Dm.lT ds=true→ay H1 vs ds
 | _,_,.nil,_=>.nil
 | _,_,.cons h r,e=>by
  unfold Dm.lT at e
  rw [Bool.and_eq_true] at e
  exact .cons (Rep.xZ k h e.1) (ay.xZ k r e.2)
end
section
variable {X:Cx} {e elt iter tg:Expr} {es:List Expr} {fs:List Dm.FE} {fi:Dm.FI} {fp:Dm.FP} {bd:Dm.FB} {is:List Nat} {scope:Scope} {pos p:Pos}
theorem LU (nm own:List Str) (hg:TGc X nm scope own tg is bd) (hi:DI X tg iter fi) (he:∀ cl C s H fp',DP (br X nm scope own cl C s H fp') elt fp)
  (hc:X.calm=true:=by rfl) (hk:scope.kind=.function:=by rfl) (hS:lE X.env.scope X.N nm scope=true:=by rfl) (hl:(is.all fun i=>decide (X.N.length≤i))=true:=by rfl) (hs:∀ x,foldedSetIterable iter X.env x=pure x:=by intro _;rfl) :
  DP X (.ListComp elt [⟨tg,iter,[],0⟩] scope pos) (Dm.jl fi own.length bd fp):=by
 obtain ⟨g,h1,h2⟩:=hg.ex
 intro pins s σ H Q I h
 exact vq hc (di.of hS hk) hi h1 (fun cl C s H fp=>pI) he hs pins s σ H Q I (Du h2 (fun i hi=>by rw [I.len];exact qT hl i hi) h)
end
noncomputable def LV (D:Ends) (j:Nat) (σs:L2.St) (ρs:Dm.Env) (H0s Hs H0:Hp):Dm.OM→Prop
 | .nx ρ' p'=>∀ σ' H0' H',MS j σs ρs H0s Hs σ' ρ' H0' H' p'→aj H0 H0'→D.nx σ' H'
 | .rt d ρ'=>∀ σ' v H0' H' p',MS j σs ρs H0s Hs σ' ρ' H0' H' p'→Rep H0' v d→D.rt v H'
noncomputable def tDC (j:Nat) (g:Dm.FC):TS:=fun D σ H=>∃ σs ρs H0s Hs H0 ρ p o,MS j σs ρs H0s Hs σ ρ H0 H p∧g ρ p=some o∧LV D j σs ρs H0s Hs H0 o
noncomputable abbrev DC (X:Cx) (j:Nat) (st:Stmt) (g:Dm.FC):Prop:=PS X st (tDC j g)
section
variable {j:Nat} {σs:L2.St} {ρs:Dm.Env} {H0s Hs:Hp} {σ:L2.St} {ρ ρ':Dm.Env} {H0 H H0' H':Hp} {p q:Dm.Dp}
theorem MS.bind (n:MS j σs ρs H0s Hs σ ρ H0 H p) {σ':L2.St} {ρ':Dm.Env} (st:ao H0 H σ' ρ') (o:∀ a,af σ' ρ' a→af σ ρ a) (hj:σ'[j]?=σ[j]?) (h0:σ'[0]?=σ[0]?):MS j σs ρs H0s Hs σ' ρ' H0 H p:=by
 obtain ⟨v,fp,h1,h2,h3⟩:=n.ex
 exact ⟨st,n.stp,fun a z=>n.own a (o a z),h0.trans n.fx,v,fp,hj.trans h1,h2,h3.1,fun a ha=>⟨(h3.2 a ha).1,fun z=>(h3.2 a ha).2 (o a z)⟩⟩
theorem MS.set (n:MS j σs ρs H0s Hs σ ρ H0 H p) {i:Nat} {v:V} {d:Dm.Dat} (hi:i≠0) (hj:i≠j) (r:Rep H0 v d):MS j σs ρs H0s Hs (σ.set i (some v)) (ρ.set i (.sh d)) H0 H p:=
 n.bind (n.st.pD r) (fun _ z=>cU z) (List.getElem?_set_ne hj) (List.getElem?_set_ne hi)
open Classical in
noncomputable def cpy (Hs H0 H H0' H':Hp):Hp:=fun a=>match H0 a with
 | some o=>some o
 | none=>if H a=none then H' a else match H0' a with
  | some (.tup vs)=>if Hs a=none then some (.tup vs) else none
  | _=>none
theorem fX:aj H0 (cpy Hs H0 H H0' H'):=fun a o e=>by unfold cpy;rw [e]
theorem pV (s:aj H0 H) {a:Addr} (h:H a=none):cpy Hs H0 H H0' H' a=H' a:=by
 unfold cpy
 rw [s.free h]
 dsimp only
 rw [if_pos h]
theorem gu {a:Addr} {o:HO} (e:cpy Hs H0 H H0' H' a=some o):H0 a=some o∨(H a=none∧H' a=some o)∨(Hs a=none∧H0' a=some o∧∃ vs,o=.tup vs):=by
 unfold cpy at e
 split at e
 ·rename_i q;cases e;exact .inl q
 ·split at e
  ·rename_i h;exact .inr (.inl ⟨h,e⟩)
  ·split at e
   ·rename_i vs q
    split at e
    ·rename_i h;cases e;exact .inr (.inr ⟨h,q,vs,rfl⟩)
    ·cases e
   ·cases e
mutual
theorem bG.copy {N:Addr→Prop} (kn:∀ a o,N a→H' a=some o→cpy Hs H0 H H0' H' a=some o) (kt:∀ a vs,H0' a=some (.tup vs)→cpy Hs H0 H H0' H' a=some (.tup vs)):∀ {v:V} {p:Dm.Dp} {fp:List Addr},bG N H0' H' v p fp→Dm.aW p=true→Rep (cpy Hs H0 H H0' H') v p.dat
 | _,_,_,.s r,e=>by unfold Dm.aW at e;exact Rep.xZ kt r e
 | _,_,_,.l n h r,e=>.lst (.inl (kn _ _ n h)) (aC.copy kn kt r (by unfold Dm.aW at e;exact e))
 | _,_,_,.t n h r,e=>.tup (kn _ _ n h) (aC.copy kn kt r (by unfold Dm.aW at e;exact e))
theorem aC.copy {N:Addr→Prop} (kn:∀ a o,N a→H' a=some o→cpy Hs H0 H H0' H' a=some o) (kt:∀ a vs,H0' a=some (.tup vs)→cpy Hs H0 H H0' H' a=some (.tup vs)):∀ {vs:List V} {ps:List Dm.Dp} {fp:List Addr},aC N H0' H' vs ps fp→Dm.bu ps=true→ay (cpy Hs H0 H H0' H') vs (Dm.Dp.rj ps)
 | _,_,_,.nil,_=>.nil
 | _,_,_,.cons h r,e=>by
  unfold Dm.bu at e
  rw [Bool.and_eq_true] at e
  exact .cons (bG.copy kn kt h e.1) (aC.copy kn kt r e.2)
end
theorem MS.keep (n:MS j σs ρs H0s Hs σ ρ H0 H p) (t:ESt σ (Dm.see j ρ p) (bor H0 H (Look Hs σ ρ)) H ρ' H0' H') {v:V} {fq:List Addr} (r:bG (g4 σ (Dm.see j ρ p) H) H0' H' v q fq) (e:Dm.aW q=true) :
  MS j σs ρs H0s Hs σ ρ (cpy Hs H0 H H0' H') H' p∧Rep (cpy Hs H0 H H0' H') v q.dat:=by
 have up:aj H H':=fun a o e=>t.stp.s1 a o e g7
 have lst:∀ {a:Addr} {o:HO},H0 a=none→H a=some o→(∀ vs,o≠.tup vs)→cpy Hs H0 H H0' H' a=none:=fun {a o} h0 h nt=>by
  cases z:cpy Hs H0 H H0' H' a with
  | none=>rfl
  | some u=>
   rcases gu z with y | ⟨y,_⟩ | ⟨_,y,vs,rfl⟩
   ·rw [h0] at y;cases y
   ·rw [h] at y;cases y
   ·have:=t.st.same _ _ y
    rw [up _ _ h] at this
    cases this
    exact absurd rfl (nt vs)
 obtain ⟨w,fp,h1,h2,h3⟩:=n.ex
 have stp:Stp (af σs ρs) H0s Hs (cpy Hs H0 H H0' H') H':=by
  refine ⟨n.stp.s0.trans fX,fun a o e' no=>up _ _ (n.stp.s1 a o e' no),fun a o e'=>?_,fun a o e'=>?_⟩
  ·rcases gu e' with y | ⟨y,_⟩ | ⟨y,_⟩
   ·exact n.stp.s2 a o y
   ·exact .inl (n.stp.gone y)
   ·exact .inl y
  ·obtain ⟨o',q⟩:=n.stp.s3 a o e'
   exact ⟨o',up _ _ q⟩
 refine ⟨⟨⟨fun a o e'=>?_,n.st.len,fun i d h=>?_,fun i d h=>?_,n.st.dis⟩,stp,n.own,n.fx,w,fp,h1,h2.mono fX (fun _ z=>z) (fun a vs _ h=>up _ _ h) fun a ha=>?_,h3.1,fun a ha=>⟨?_,(h3.2 a ha).2⟩⟩,?_⟩
 ·rcases gu e' with y | ⟨_,y⟩ | ⟨_,y,_⟩
  ·exact up _ _ (n.st.same _ _ y)
  ·exact y
  ·exact t.st.same _ _ y
 ·obtain ⟨u,z,y⟩:=n.st.sh i d h
  exact ⟨u,z,y.mono fX⟩
 ·obtain ⟨a,z,n0,y⟩:=n.st.ow i d h
  obtain ⟨o,ho⟩:=y.some
  refine ⟨a,z,lst n0 ho fun vs e'=>?_,y.mono fX ((up _ _ ho).trans ho.symm)⟩
  subst e'
  exact n.st.lQ ho ⟨i,d,h,z⟩
 ·obtain ⟨_,xs,h⟩:=h2.fpN a ha
  rw [up _ _ h,h]
 ·obtain ⟨_,xs,h⟩:=h2.fpN a ha
  exact lst (h3.2 a ha).1 h fun vs z=>by cases z
 ·refine r.copy (fun a o z h=>?_) (fun a vs h=>?_) e
  ·rcases z with z | z
   ·rw [pV n.st.same z];exact h
   ·exact (g7 z).elim
  ·rcases t.stp.s2 a _ h with z | z | z
   ·rw [pV n.st.same z];exact t.st.same _ _ h
   ·have hH:=kL n.st.same _ _ z
    unfold bor at z
    split at z
    ·rename_i o q;cases z;exact fX _ _ q
    ·rename_i q
     split at z
     ·rename_i lk
      rcases lk with lk | lk
      ·unfold cpy
       rw [q]
       dsimp only
       rw [if_neg (by rw [hH];simp),h]
       dsimp only
       rw [if_pos lk]
      ·exact (n.st.lQ hH lk).elim
     ·cases z
   ·exact (g7 z).elim
end
section
variable {D:Ends} {σ:L2.St} {H:Hp} {j:Nat}
theorem Dv {i:Nat} {f:Dm.FP} (h:tDC j (Dm.j6 j i f) D σ H):iN (tDp f) (cE i) D σ H:=by
 obtain ⟨σs,ρs,H0s,Hs,H0,ρ,p,o,n,e,k⟩:=h
 unfold Dm.j6 at e
 split at e
 ·cases e
 rename_i hij
 split at e
 ·cases e
 rename_i q ρ1 e1
 split at e
 case isFalse=>cases e
 rename_i lk
 cases e
 refine ⟨_,_,_,ρ1,n.see,e1,fun v H1 Hb fq t1 r1 g1=>?_⟩
 obtain ⟨n1,r⟩:=n.keep t1 r1 lk
 exact k _ _ Hb (n1.set (fun z=>hij (.inl z)) (fun z=>hij (.inr z)) r) fX
theorem aC.put {N:Addr→Prop} {H0 H:Hp} {items:List Dm.Dp}:∀ {vs:List V} {ps:List Dm.Dp} {fp:List Addr} {m:Nat},aC N H0 H vs ps fp→fp.Nodup→ps[m]?=some (.l items) →
  ∃ q xs,vs[m]?=some (.ref q)∧q∈fp∧H q=some (.lst xs)∧xs.length=items.length∧∀ w d,Rep H0 w d→aC N H0 (upd H q (.lst (xs++[w]))) vs (ps.set m (.l (items++[.s d]))) fp
 | _,_,_,_,.nil,_,e=>by simp at e
 | _,_,_,0,.cons h r,nd,e=>by
  simp at e
  subst e
  cases h with
  | l n hq rs=>
   rename_i q xs f
   obtain ⟨nd1,nd2,nd3⟩:=List.nodup_append.mp nd
   refine ⟨q,xs,rfl,List.mem_append_left _ List.mem_cons_self,hq,rs.length,fun w d rw=>?_⟩
   have ne:∀ (a:Addr),a≠q→upd H q (.lst (xs++[w])) a=H a:=fun a z=>aq z
   refine .cons (.l n au ?_) (r.mono (aj.refl _) (fun _ z=>z) (fun a us _ z=>?_) fun a ha=>ne a fun z=>nd3 q List.mem_cons_self a ha z.symm)
   ·have t:=rs.snoc (bG.s (N:=N) (H:=H) rw)
    rw [List.append_nil] at t
    refine t.mono (aj.refl _) (fun _ z=>z) (fun a us _ z=>?_) fun a ha=>ne a fun z=>(List.nodup_cons.mp nd1).1 (z▸ha)
    rw [ne a fun y=>by rw [y,hq] at z;cases z];exact z
   ·rw [ne a fun y=>by rw [y,hq] at z;cases z];exact z
 | _,_,_,m+1,.cons h r,nd,e=>by
  obtain ⟨nd1,nd2,nd3⟩:=List.nodup_append.mp nd
  obtain ⟨q,xs,h1,h2,h3,h4,h5⟩:=aC.put (m:=m) r nd2 (by simpa using e)
  refine ⟨q,xs,by simpa using h1,List.mem_append_right _ h2,h3,h4,fun w d rw=>?_⟩
  refine .cons (h.mono (aj.refl _) (fun _ z=>z) (fun a us _ z=>?_) fun a ha=>aq fun z=>nd3 a ha q h2 z) (h5 w d rw)
  rw [aq fun y=>by rw [y,h3] at z;cases z];exact z
theorem HH {s:Dm.FC} {g:Dm.FM} (h:tDM j (Dm.kF s g) D σ H):gC (tDC j s) (tDM j g) D σ H:=by
 obtain ⟨σs,ρs,H0s,Hs,H0,ρ,p,o,n,e,k⟩:=h
 unfold Dm.kF at e
 split at e
 ·rename_i ρ1 p1 e1
  exact ⟨σs,ρs,H0s,Hs,H0,ρ,p,_,n,e1,fun σ' H0' H' n' _=>⟨σs,ρs,H0s,Hs,H0',ρ1,p1,o,n',e,k⟩⟩
 ·rename_i d ρ1 e1
  cases e
  exact ⟨σs,ρs,H0s,Hs,H0,ρ,p,_,n,e1,fun σ' v H0' H' p' n' r=>k σ' v H0' H' n'.sst r fun d' a z=>by cases z⟩
 ·cases e
end
section
variable {X:Cx} {st:Stmt} {rest:List Stmt} {fs gs:Dm.FC} {g:Dm.FM} {e c:Expr} {f:Dm.FE} {pos:Pos} {j:Nat}
theorem m_c (h:DC X j st fs) (hr:DMs X j rest g):DMs X j (st::rest) (Dm.kF fs g):=PSs.weak (bh h hr) fun _ _ _=>HH
theorem HJ (i:Nat) {x:Str} {pos':Pos} {fp:Dm.FP} (hN:X.N.Nodup) (he:DP X e fp) (hi:X.N[i]?=some x:=by rfl) (hx:Loc X.env.scope x:=by first | exact Or.inl rfl | exact Or.inr rfl) (hs:swapsWith e (some (.Name x pos')) pos.line X.env=pure false:=by rfl)
  (hf:X.fn x=true∨X.env.scope.names.lookup x=some .local:=by first | exact .inl rfl | exact .inr rfl | assumption):DC X j (.Assign [.Name x pos'] e pos) (Dm.j6 j i fp):=PS.weak (kW hN hi hx he hs hf) fun _ _ _=>Dv
end
end Br
namespace Dm
noncomputable def lU (f:List Dat→Option Dp) (as:List FE):FP:=fun ρ=>match eAs as ρ with
 | none=>none
 | some (xs,ρ1)=>match tks ρ1 xs with
  | none=>none
  | some (ds,ρ2)=>match f ds with
   | none=>none
   | some p=>some (p,ρ2)
noncomputable def fY (j:Nat) (f:List Dat→Option Dp) (as:List FE) (g:FM):FS:=fun ρ=>if j=0 then none else match eAs as ρ with
 | none=>none
 | some (xs,ρ1)=>match pks ρ1 xs with
  | none=>none
  | some ds=>match f ds with
   | none=>none
   | some p=>if aW p then g (ρ1.set j .un) p else none
end Dm
namespace Br
open PySem PySem.Spec PyProof.Rows L2
section
variable {σ:L2.St} {H:Hp} {Q:VK}
theorem Dw {f:List Dm.Dat→Option Dm.Dp} {fs:List Dm.FE} {E:XK} (h:tDp (Dm.lU f fs) σ H Q):fD (spP f) [] E (tDA fs) σ H Q:=by
 obtain ⟨H0,ρ,p,ρ',st,e,k⟩:=h
 unfold Dm.lU at e
 split at e
 ·cases e
 rename_i xs ρ1 e1
 split at e
 ·cases e
 rename_i ds ρ2 e2
 split at e
 ·cases e
 rename_i p' ep
 cases e
 refine ⟨H0,ρ,xs,ρ1,st,e1,fun vs H1 Hb t1 r1=>?_⟩
 dsimp only
 rw [List.append_nil]
 obtain ⟨H2,t2,b2,r2⟩:=takes t1 (aj.refl _) r1 e2
 refine ⟨H2,ds,p,t2.st.same,r2,ep,fun v H3 Hd fp g3 r3 nd n3=>?_⟩
 exact k v H3 Hd fp (t2.trans (.grow t2.st g3)) (r3.mono (aj.refl _) (fun a n=>.inl (t2.stp.gone n)) (fun _ _ _ h=>h) fun _ _=>rfl) ⟨nd,fun a ha=>⟨n3 a ha,t2.st.aZ (r3.fpN a ha).1⟩⟩
end
section
variable {D:Ends} {σ:L2.St} {H:Hp} {j:Nat}
end
mutual
theorem bG.leaf {N N':Addr→Prop} {H3 H0' H:Hp} (kn:∀ a,N a→N' a) (kt:∀ a vs,H3 a=some (.tup vs)→H0' a=some (.tup vs)):∀ {v:V} {p:Dm.Dp} {fp:List Addr},bG N H3 H v p fp→Dm.aW p=true→bG N' H0' H v p fp
 | _,_,_,.s r,e=>.s (Rep.xZ kt r (by unfold Dm.aW at e;exact e))
 | _,_,_,.l n h r,e=>.l (kn _ n) h (aC.leaf kn kt r (by unfold Dm.aW at e;exact e))
 | _,_,_,.t n h r,e=>.t (kn _ n) h (aC.leaf kn kt r (by unfold Dm.aW at e;exact e))
theorem aC.leaf {N N':Addr→Prop} {H3 H0' H:Hp} (kn:∀ a,N a→N' a) (kt:∀ a vs,H3 a=some (.tup vs)→H0' a=some (.tup vs)):∀ {vs:List V} {ps:List Dm.Dp} {fp:List Addr},aC N H3 H vs ps fp→Dm.bu ps=true→aC N' H0' H vs ps fp
 | _,_,_,.nil,_=>.nil
 | _,_,_,.cons h r,e=>by
  unfold Dm.bu at e
  rw [Bool.and_eq_true] at e
  exact .cons (bG.leaf kn kt h e.1) (aC.leaf kn kt r e.2)
end
theorem rq {Hs H0 H:Hp} {σ:L2.St} {ρ:Dm.Env} (st:ao H0 H σ ρ):∀ {xs:List Dm.Val} {vs:List V} {ds:List Dm.Dat},aY Hs H0 H σ ρ vs xs→Dm.pks ρ xs=some ds→ay (bor H0 H (Look Hs σ ρ)) vs ds
 | [],_,ds,.nil,e=>by cases e;exact .nil
 | x::xs,_,ds,.cons h r,e=>by
  unfold Dm.pks at e
  split at e
  ·cases e
  rename_i d e1
  split at e
  ·cases e
  rename_i ds' e2
  cases e
  refine .cons ?_ (rq st r e2)
  have own:∀ (a:Addr),Look Hs σ ρ a→Own H0 H a d→Rep (bor H0 H (Look Hs σ ρ)) (.ref a) d:=fun a lk w=>by
   cases d with
   | lst ds=>obtain ⟨xs,y,rs⟩:=w;exact .lst (.inl (lS st.same lk y)) (rs.mono fV)
   | dct ks ds=>obtain ⟨xs,y,k,rs⟩:=w;exact .dct (lS st.same lk y) k (rs.mono fV)
   | _=>exact w.elim
  cases x with
  | val d'=>cases e1;exact Rep.mono fV h
  | new d'=>
   cases e1
   obtain ⟨a,rfl,n,no,n0,w⟩:=h
   exact own a (.inl n) w
  | slot i=>
   obtain ⟨q,_⟩:=h
   unfold Dm.pk at e1
   dsimp only at e1
   split at e1
   ·rename_i d' hd
    cases e1
    obtain ⟨a,w1,w2,w3⟩:=st.ow i _ hd
    rw [q] at w1
    cases w1
    exact own a (.inr ⟨i,_,hd,q⟩) w3
   ·rename_i d' hd
    cases e1
    obtain ⟨u,w1,w2⟩:=st.sh i _ hd
    rw [q] at w1
    cases w1
    exact w2.mono fV
   ·cases e1
section
variable {D:Ends} {σ:L2.St} {H:Hp} {j:Nat}
theorem Dy {f:List Dm.Dat→Option Dm.Dp} {fs:List Dm.FE} {g:Dm.FM} {E:XK} (hj:j<σ.length) (h:tDS (Dm.fY j f fs g) D σ H):gC (iN (fD (spP f) [] E (tDA fs)) (cE j)) (tDM j g) D σ H:=by
 obtain ⟨H0,ρ,o,st,e,k⟩:=h
 unfold Dm.fY at e
 split at e
 ·cases e
 rename_i hj0
 split at e
 ·cases e
 rename_i xs ρ1 e1
 split at e
 ·cases e
 rename_i ds e2
 split at e
 ·cases e
 rename_i p ep
 split at e
 case isFalse=>cases e
 rename_i lk
 refine ⟨H0,ρ,xs,ρ1,st,e1,fun vs H1 Hb t1 r1=>?_⟩
 dsimp only
 rw [List.append_nil]
 refine ⟨bor H1 Hb (Look H σ ρ1),ds,p,kL t1.st.same,rq t1.st r1 e2,ep,fun v H3 Hd fp g3 r3 nd n3=>?_⟩
 have up:aj Hb Hd:=g3.s1
 have cpE:∀ {a:Addr} {u:HO},cpy H H1 Hb H3 Hd a=some u→H1 a=some u∨(Hb a=none∧Hd a=some u)∨(H a=none∧H3 a=some u∧∃ vs,u=.tup vs):=fun e=>gu e
 have kt:∀ a us,H3 a=some (.tup us)→cpy H H1 Hb H3 Hd a=some (.tup us):=fun a us h=>by
  rcases g3.s2 a _ h with z | z
  ·rw [pV t1.st.same z];exact g3.s3 _ _ h
  ·have hH:=kL t1.st.same _ _ z
   unfold bor at z
   split at z
   ·rename_i o q;cases z;exact fX _ _ q
   ·rename_i q
    split at z
    ·rename_i lk
     rcases lk with lk | lk
     ·unfold cpy
      rw [q]
      dsimp only
      rw [if_neg (by rw [hH];simp),h]
      dsimp only
      rw [if_pos lk]
     ·exact (t1.st.lQ hH lk).elim
    ·cases z
 have lst:∀ {a:Addr} {u:HO},H1 a=none→Hb a=some u→(∀ us,u≠.tup us)→cpy H H1 Hb H3 Hd a=none:=fun {a u} h0 h nt=>by
  cases z:cpy H H1 Hb H3 Hd a with
  | none=>rfl
  | some w=>
   rcases cpE z with y | ⟨y,_⟩ | ⟨_,y,us,rfl⟩
   ·rw [h0] at y;cases y
   ·rw [h] at y;cases y
   ·have:=g3.s3 _ _ y
    rw [up _ _ h] at this
    cases this
    exact absurd rfl (nt us)
 let H4:Hp:=fun a=>if a∈fp then none else cpy H H1 Hb H3 Hd a
 have h4:∀ {a:Addr} {u:HO},H4 a=some u→cpy H H1 Hb H3 Hd a=some u∧a∉fp:=fun {a u} e=>by
  show cpy H H1 Hb H3 Hd a=some u∧_
  have e:(if a∈fp then none else cpy H H1 Hb H3 Hd a)=some u:=e
  split at e
  ·cases e
  ·rename_i h;exact ⟨e,h⟩
 have h4i:∀ {a:Addr} {u:HO},cpy H H1 Hb H3 Hd a=some u→a∉fp→H4 a=some u:=fun {a u} e n=>by
  show (if a∈fp then none else cpy H H1 Hb H3 Hd a)=some u
  rw [if_neg n];exact e
 have nfp:∀ a∈fp,Hb a=none∧∃ ys,Hd a=some (.lst ys):=fun a ha=>r3.fpN a ha
 have up4:aj H1 H4:=fun a u e'=>h4i (fX _ _ e') fun z=>by have:=t1.st.same _ _ e';rw [(nfp a z).1] at this;cases this
 have st4:ao H4 Hd σ ρ1:=by
  refine ⟨fun a u e'=>?_,t1.st.len,fun i d h=>?_,fun i d h=>?_,t1.st.dis⟩
  ·rcases cpE (h4 e').1 with y | ⟨_,y⟩ | ⟨_,y,_⟩
   ·exact up _ _ (t1.st.same _ _ y)
   ·exact y
   ·exact g3.s3 _ _ y
  ·obtain ⟨u,z,y⟩:=t1.st.sh i d h
   exact ⟨u,z,y.mono up4⟩
  ·obtain ⟨a,z,n0,y⟩:=t1.st.ow i d h
   obtain ⟨w,hw⟩:=y.some
   refine ⟨a,z,?_,y.mono up4 ((up _ _ hw).trans hw.symm)⟩
   have:=lst n0 hw fun us e'=>by subst e';exact t1.st.lQ hw ⟨i,d,h,z⟩
   show (if a∈fp then none else cpy H H1 Hb H3 Hd a)=none
   rw [this]
   split<;>rfl
 obtain ⟨s1,s2⟩:=st4.lR j (some v)
 refine ⟨σ,ρ,H0,H,H4,_,p,o,⟨s1,⟨t1.stp.s0.trans up4,fun a u e' no=>up _ _ (t1.stp.s1 a u e' no),fun a u e'=>?_,fun a u e'=>?_⟩,fun a z=>.inl (t1.own a (s2 a z)),List.getElem?_set_ne hj0,v,fp,List.getElem?_set_self hj,r3.leaf (fun a n=>t1.stp.gone n) (fun a us h=>h4i (kt a us h) fun z=>?_) lk,nd,fun a ha=>⟨?_,fun z=>t1.st.aZ (nfp a ha).1 (s2 a z)⟩⟩,e,k⟩
 ·rcases cpE (h4 e').1 with y | ⟨y,_⟩ | ⟨y,_⟩
  ·exact t1.stp.s2 a u y
  ·exact .inl (t1.stp.gone y)
  ·exact .inl y
 ·obtain ⟨o',q⟩:=t1.stp.s3 a u e'
  exact ⟨o',up _ _ q⟩
 ·obtain ⟨_,ys,y⟩:=nfp a z
  have:=g3.s3 _ _ h
  rw [y] at this
  cases this
 ·show (if a∈fp then none else cpy H H1 Hb H3 Hd a)=none
  rw [if_pos ha]
theorem aC.change {N:Addr→Prop} {H0 H:Hp} {x:Dm.Dp}:∀ {vs:List V} {ps:List Dm.Dp} {fp:List Addr} {m:Nat},aC N H0 H vs ps fp→fp.Nodup→ps[m]?=some x →
  ∃ v f,vs[m]?=some v∧bG N H0 H v x f∧(∀ a∈f,a∈fp)∧f.Nodup∧∀ q o x' ls,q∈f→H q=some (.lst ls)→bG N H0 (upd H q o) v x' f→aC N H0 (upd H q o) vs (ps.set m x') fp
 | _,_,_,_,.nil,_,e=>by simp at e
 | _,_,_,0,.cons h r,nd,e=>by
  simp at e
  subst e
  obtain ⟨nd1,nd2,nd3⟩:=List.nodup_append.mp nd
  refine ⟨_,_,rfl,h,fun a ha=>List.mem_append_left _ ha,nd1,fun q o x' ls hq hl h'=>.cons h' (r.mono (aj.refl _) (fun _ z=>z) (fun a us _ z=>?_) fun a ha=>aq fun z=>nd3 q hq a ha z.symm)⟩
  rw [aq fun y=>by rw [y,hl] at z;cases z];exact z
 | _,_,_,m+1,.cons h r,nd,e=>by
  obtain ⟨nd1,nd2,nd3⟩:=List.nodup_append.mp nd
  obtain ⟨v,f,h1,h2,h3,h4,h5⟩:=aC.change (m:=m) r nd2 (by simpa using e)
  refine ⟨v,f,by simpa using h1,h2,fun a ha=>List.mem_append_right _ (h3 a ha),h4,fun q o x' ls hq hl h'=>.cons (h.mono (aj.refl _) (fun _ z=>z) (fun a us _ z=>?_) fun a ha=>aq fun z=>nd3 a ha q (h3 q hq) z) (h5 q o x' ls hq hl h')⟩
  rw [aq fun y=>by rw [y,hl] at z;cases z];exact z
end
section
variable {X:Cx} {e c:Expr} {es:List Expr} {rest:List Stmt} {fs:List Dm.FE} {f:Dm.FE} {fp:Dm.FP} {gq:Dm.FSP} {g ga:Dm.FM} {pos p:Pos} {j:Nat}
theorem HK {k:Nat} {F:Addr} {fd:FuncData} {ps:List Str} {h:List Dm.Dat→Option Dm.Dp} {x:Str} (G:aR X.prog X.w X.K X.mg X.base CX0 k F fd ps (spP h)) (hr:aU k X.A) (hg:Gl X x) (hm:X.mg x=some (.ref F)) (hk:PySem.W.keepIn X.K (.ref F)=true) (hb:Binds X.K fd ps [])
  (ha:DA X (e::es) fs) (hdb:(x == ("__debug__" : Str))=false:=by decide) (he:starEach (e::es) X.env=(false,eval e X.env)::starEach es X.env:=by rfl) (hpl:(backTo pos (starEach es X.env)).any (·.1)=false:=by rfl) :
  DP X (.Call (.Name x p) (e::es) [] pos) (Dm.lU h fs):=PE.weak (cT G hr hg hm hk hb .nil (gH (X:=X)) ha hdb he hpl) fun _ _ _=>Dw
theorem Dz (j:Nat) {k:Nat} {F:Addr} {fd:FuncData} {ps:List Str} {f:List Dm.Dat→Option Dm.Dp} {x y:Str} {as:List Dm.FE} {pos' cpos:Pos} (hN:X.N.Nodup) (G:aR X.prog X.w X.K X.mg X.base CX0 k F fd ps (spP f)) (hr:aU k X.A) (hg:Gl X x) (hm:X.mg x=some (.ref F)) (hk:PySem.W.keepIn X.K (.ref F)=true) (hb:Binds X.K fd ps [])
  (ha:DA X (e::es) as) (hre:DMs X j rest g) (hi:X.N[j]?=some y:=by rfl) (hx:Loc X.env.scope y:=by first | exact Or.inl rfl | exact Or.inr rfl) (hs:swapsWith (.Call (.Name x p) (e::es) [] cpos) (some (.Name y pos')) pos.line X.env=pure false:=by rfl)
  (hf:X.fn y=true∨X.env.scope.names.lookup y=some .local:=by first | exact .inl rfl | exact .inr rfl | assumption) (hdb:(x == ("__debug__" : Str))=false:=by decide) (he:starEach (e::es) X.env=(false,eval e X.env)::starEach es X.env:=by rfl) (hpl:(backTo cpos (starEach es X.env)).any (·.1)=false:=by rfl) :
  DSs X (.Assign [.Name y pos'] (.Call (.Name x p) (e::es) [] cpos) pos::rest) (Dm.fY j f as g):=by
 have h:=bh (kW hN hi hx (cT G hr hg hm hk hb .nil (gH (X:=X)) ha hdb he hpl) hs hf) hre
 intro pins s σ H D I q
 exact h pins s σ H D I (Dy (by rw [I.len];exact (List.getElem?_eq_some_iff.mp hi).1) q)
end
theorem aH.Kg {N:Addr→Prop} {H0 H:Hp}:∀ {ps:List Addr} {rows:List (List Dm.Dat)},aH H0 H ps rows→(∀ p∈ps,N p)→aC N H0 H (ps.map V.ref) (rows.map fun r=>.l (r.map .s)) ps
 | [],[],_,_=>.nil
 | p::ps,r::rs,h,n=>by
  obtain ⟨⟨xs,h1,h2⟩,h3⟩:=h
  exact .cons (.l (n p List.mem_cons_self) h1 (.kK h2)) (aH.Kg h3 fun q hq=>n q (List.mem_cons_of_mem _ hq))
section
variable {X:Cx} {e:Expr} {es:List Expr} {fs:List Dm.FE} {pos p:Pos}
end
end Br
namespace Sx
open PySem PySem.SetTable
theorem pW (xs:Array Nat) (j:Nat) (hs:xs.toList.Pairwise (· < ·)):∀ (f lo hi:Nat),hi≤xs.size→hi-lo≤f→lo≤hi→(∀ i,i<lo→∀ v,xs[i]?=some v→v<j)→(∀ i,hi≤i→∀ v,xs[i]?=some v→j≤v) →
  (∀ i,i<below.go xs j f lo hi→∀ v,xs[i]?=some v→v<j)∧(∀ i,below.go xs j f lo hi≤i→∀ v,xs[i]?=some v→j≤v)∧below.go xs j f lo hi≤xs.size
 | 0,lo,hi,h1,h2,h3,a,b=>by
  unfold below.go
  have:lo=hi:=by omega
  subst this
  exact ⟨a,b,h1⟩
 | f+1,lo,hi,h1,h2,h3,a,b=>by
  unfold below.go
  have mono:∀ i k v w,i≤k→xs[i]?=some v→xs[k]?=some w→v≤w:=fun i k v w hik e1 e2=>by
   rcases Nat.eq_or_lt_of_le hik with z | z
   ·subst z;rw [e1] at e2;cases e2;exact Nat.le_refl _
   ·obtain ⟨q1,q2⟩:=Array.getElem?_eq_some_iff.mp e1
    obtain ⟨q3,q4⟩:=Array.getElem?_eq_some_iff.mp e2
    have:=List.pairwise_iff_getElem.mp hs i k (by simpa using q1) (by simpa using q3) z
    simp only [Array.getElem_toList] at this
    omega
  split
  ·rename_i hlt
   have hm:(lo+hi) / 2<xs.size:=by omega
   dsimp only
   rw [Array.getD_eq_getD_getElem?,Array.getElem?_eq_getElem hm,Option.getD_some]
   split
   ·rename_i hv
    refine pW xs j hs f _ hi h1 (by omega) (by omega) (fun i hi' v e=>?_) b
    have:=mono i ((lo+hi) / 2) v _ (by omega) e (Array.getElem?_eq_getElem hm)
    omega
   ·rename_i hv
    refine pW xs j hs f lo _ (by omega) (by omega) (by omega) a fun i hi' v e=>?_
    have:=mono ((lo+hi) / 2) i _ v hi' (Array.getElem?_eq_getElem hm) e
    omega
  ·have:lo=hi:=by omega
   subst this
   exact ⟨a,b,h1⟩
theorem ck {xs:Array Nat} (j:Nat) (hs:xs.toList.Pairwise (· < ·)):(∀ i,i<below xs j→∀ v,xs[i]?=some v→v<j)∧(∀ i,below xs j≤i→∀ v,xs[i]?=some v→j≤v)∧below xs j≤xs.size:=
 pW xs j hs xs.size 0 xs.size (Nat.le_refl _) (by omega) (Nat.zero_le _) (fun i h=>by omega) fun i h v e=>by rw [Array.getElem?_eq_none h] at e;cases e
theorem oA {xs:Array Nat} {j:Nat} (hs:xs.toList.Pairwise (· < ·)):xs[below xs j]?=some j↔j∈xs.toList:=by
 obtain ⟨a,b,c⟩:=ck j hs
 constructor
 ·intro h
  obtain ⟨q1,q2⟩:=Array.getElem?_eq_some_iff.mp h
  rw [← q2]
  exact Array.getElem_mem_toList q1
 ·intro h
  obtain ⟨i,hi,e⟩:=List.getElem_of_mem h
  have hi':i<xs.size:=by simpa using hi
  have e':xs[i]?=some j:=by rw [Array.getElem?_eq_getElem hi'];simpa using e
  have h1:below xs j≤i:=Nat.not_lt.mp fun z=>by have:=a i z j e';omega
  have hb:below xs j<xs.size:=by omega
  have h2:=b (below xs j) (Nat.le_refl _) _ (Array.getElem?_eq_getElem hb)
  rcases Nat.eq_or_lt_of_le h1 with z | z
  ·rw [z];exact e'
  ·have:=List.pairwise_iff_getElem.mp hs (below xs j) i (by simpa using hb) hi z
   simp only [Array.getElem_toList] at this
   have e2:xs[i]=j:=by simpa using e
   omega
theorem fZ {α:Type} (xs:Array α) (p:Nat) (x:α):(insertAt xs p x).toList=xs.toList.take p++x::xs.toList.drop p:=by
 unfold insertAt
 simp [Array.toList_append,Array.toList_push,Array.toList_extract,List.take_of_length_le]
theorem nK {xs:Array Nat} {j:Nat} (hs:xs.toList.Pairwise (· < ·)) (hj:j∉xs.toList):(insertAt xs (below xs j) j).toList.Pairwise (· < ·):=by
 obtain ⟨a,b,c⟩:=ck j hs
 rw [fZ]
 have l1:∀ v∈xs.toList.take (below xs j),v<j:=fun v hv=>by
  obtain ⟨i,hi,e⟩:=List.getElem_of_mem hv
  rw [List.length_take] at hi
  rw [List.getElem_take] at e
  refine a i (by omega) v ?_
  rw [Array.getElem?_eq_getElem (by rw [Array.length_toList] at hi;omega)]
  simpa using e
 have l2:∀ v∈xs.toList.drop (below xs j),j<v:=fun v hv=>by
  have hm:=List.mem_of_mem_drop hv
  obtain ⟨i,hi,e⟩:=List.getElem_of_mem hv
  rw [List.length_drop,Array.length_toList] at hi
  rw [List.getElem_drop] at e
  have:=b (below xs j+i) (by omega) v (by rw [Array.getElem?_eq_getElem (by omega)];simpa using e)
  rcases Nat.eq_or_lt_of_le this with z | z
  ·exact absurd (z▸hm) hj
  ·exact z
 rw [List.pairwise_append]
 refine ⟨hs.sublist (List.take_sublist _ _),?_,fun u hu v hv=>?_⟩
 ·rw [List.pairwise_cons]
  exact ⟨l2,hs.sublist (List.drop_sublist _ _)⟩
 ·rcases List.mem_cons.mp hv with rfl | hv
  ·exact l1 u hu
  ·exact Nat.lt_trans (l1 u hu) (l2 v hv)
noncomputable def lp (mask:Nat):Nat→Nat×Nat→Nat×Nat
 | 0,q=>q
 | m+1,q=>lp mask m (leap mask q.1 q.2)
noncomputable def lc (mask:Nat):Nat→Nat→Nat
 | 0,i=>i
 | m+1,i=>lc mask m ((i*5+1) % (mask+1))
theorem vP (mask:Nat):∀ m i,lp mask m (i,0)=(lc mask m i,0)
 | 0,_=>rfl
 | m+1,i=>by
  unfold lp lc leap
  simp only [Nat.zero_div,Nat.add_zero]
  exact vP mask m _
theorem Az (mask:Nat):∀ a b q,lp mask (a+b) q=lp mask b (lp mask a q)
 | 0,b,q=>by rw [Nat.zero_add];rfl
 | a+1,b,q=>by
  rw [Nat.add_right_comm]
  show lp mask (a+b) (leap mask q.1 q.2)=lp mask b (lp mask a (leap mask q.1 q.2))
  exact Az mask a b _
theorem AA (mask:Nat):∀ m q,(lp mask m q).2=q.2 / 32 ^ m
 | 0,q=>by simp [lp]
 | m+1,q=>by
  show (lp mask m (leap mask q.1 q.2)).2=_
  rw [AA mask m]
  unfold leap
  dsimp only
  rw [Nat.div_div_eq_div_mul,Nat.pow_succ,Nat.mul_comm]
theorem vQ (mask:Nat):∀ m q,q.1≤mask→(lp mask m q).1≤mask
 | 0,_,h=>h
 | m+1,q,h=>vQ mask m _ (by unfold leap;exact Nat.le_of_lt_succ (Nat.mod_lt _ (Nat.succ_pos mask)))
noncomputable def Cov (mask:Nat):Prop:=∀ i,i≤mask→∀ j,j≤mask→∃ m,m≤mask∧lc mask m i=j
noncomputable def Kh (mask:Nat):Bool:=(List.range (mask+1)).all fun i=>(List.range (mask+1)).all fun j=>(List.range (mask+1)).any fun m=>lc mask m i == j
theorem AB {mask:Nat} (h:Kh mask=true):Cov mask:=fun i hi j hj=>by
 unfold Kh at h
 have h1:=List.all_eq_true.mp h i (List.mem_range.mpr (by omega))
 have h2:=List.all_eq_true.mp h1 j (List.mem_range.mpr (by omega))
 obtain ⟨m,hm,e⟩:=List.any_eq_true.mp h2
 have:=List.mem_range.mp hm
 exact ⟨m,by omega,by simpa using e⟩
theorem LW:Cov 7:=AB (by decide +kernel)
theorem Kl:Cov 31:=AB (by decide +kernel)
noncomputable def orb (mask:Nat):Nat→Nat→List Nat
 | 0,_=>[]
 | m+1,i=>i::orb mask m ((i*5+1) % (mask+1))
theorem AD (mask:Nat):∀ (n i m:Nat),m<n→(orb mask n i)[m]?=some (lc mask m i)
 | 0,i,m,h=>by omega
 | n+1,i,0,h=>rfl
 | n+1,i,m+1,h=>by
  show (orb mask n ((i*5+1) % (mask+1)))[m]?=_
  rw [AD mask n _ m (by omega)]
  rfl
theorem pX (mask:Nat):∀ (n i:Nat),(orb mask n i).length=n
 | 0,_=>rfl
 | n+1,i=>by show (orb mask n _).length+1=_;rw [pX mask n]
theorem pY (mask:Nat):∀ a b i,lc mask (a+b) i=lc mask b (lc mask a i)
 | 0,b,i=>by rw [Nat.zero_add];rfl
 | a+1,b,i=>by
  rw [Nat.add_right_comm]
  show lc mask (a+b) _=lc mask b (lc mask a _)
  exact pY mask a b _
theorem AE {mask:Nat} (h1:((List.range (mask+1)).all fun j=>(orb mask (mask+1) 0).elem j)=true) (h2:lc mask (mask+1) 0=0):Cov mask:=fun i hi j hj=>by
 have look:∀ x,x≤mask→∃ m,m≤mask∧lc mask m 0=x:=fun x hx=>by
  have:=List.all_eq_true.mp h1 x (List.mem_range.mpr (by omega))
  have:=List.elem_iff.mp this
  obtain ⟨m,hm,e⟩:=List.getElem_of_mem this
  rw [pX] at hm
  have e2:=AD mask (mask+1) 0 m hm
  rw [List.getElem?_eq_getElem (by rw [pX];exact hm),e] at e2
  cases e2
  exact ⟨m,by omega,rfl⟩
 obtain ⟨a,ha,ea⟩:=look i hi
 obtain ⟨b,hb,eb⟩:=look j hj
 by_cases h:a≤b
 ·exact ⟨b-a,by omega,by rw [← ea,← pY,show a+(b-a)=b by omega];exact eb⟩
 ·exact ⟨mask+1+b-a,by omega,by rw [← ea,← pY,show a+(mask+1+b-a)=mask+1+b by omega,pY,h2];exact eb⟩
theorem HL:Cov 127:=AE (by decide +kernel) (by decide +kernel)
theorem vR (h:Int):bits h<2 ^ 64:=by
 unfold bits
 have h1:(0:Int)≤h % 2 ^ 64:=Int.emod_nonneg _ (by decide)
 have h2:h % 2 ^ 64<2 ^ 64:=Int.emod_lt_of_pos _ (by decide)
 omega
theorem hit {mask:Nat} (c:Cov mask) {i p:Nat} (hi:i≤mask) (hp:p<2 ^ 64) {j:Nat} (hj:j≤mask):∃ m,m<mask+14∧(lp mask m (i,p)).1=j:=by
 have z:(lp mask 13 (i,p)).2=0:=by
  rw [AA]
  exact Nat.div_eq_of_lt (Nat.lt_of_lt_of_le hp (by decide))
 have hl:=vQ mask 13 (i,p) hi
 obtain ⟨m,hm,e⟩:=c _ hl j hj
 refine ⟨13+m,by omega,?_⟩
 rw [Az,show lp mask 13 (i,p)=((lp mask 13 (i,p)).1,0) from Prod.ext rfl z,vP]
 exact e
theorem sub_len {l m:List Nat} (hl:l.Nodup) (h:∀ x∈l,x∈m):l.length≤m.length:=by
 induction l generalizing m with
 | nil=>exact Nat.zero_le _
 | cons x l ih=>
  obtain ⟨n1,n2⟩:=List.nodup_cons.mp hl
  have hx:x∈m:=h x List.mem_cons_self
  have:=ih (m:=m.erase x) n2 fun y hy=>by
   rw [List.mem_erase_of_ne (fun z:y=x=>n1 (z▸hy))]
   exact h y (List.mem_cons_of_mem _ hy)
  rw [List.length_erase_of_mem hx] at this
  have:=List.length_pos_of_mem hx
  simp only [List.length_cons]
  omega
theorem room {mask:Nat} {l:List Nat} (h:l.length≤mask):∃ j,j≤mask∧j∉l:=by
 refine Classical.byContradiction fun z=>?_
 have:=sub_len (l:=List.range (mask+1)) (m:=l) List.nodup_range fun x hx=>Classical.byContradiction fun q=>z ⟨x,by have:=List.mem_range.mp hx;omega,q⟩
 rw [List.length_range] at this
 omega
theorem vS (j:Nat):has #[] j=false:=by
 unfold has
 simp
structure Good (t:SetTable) (n:Nat):Prop where
 dm:t.dummies=#[]
 pl:t.plain=true
 cv:Cov t.mask
 ris:t.place.toList.Pairwise (· < ·)
 le:∀ j∈t.place.toList,j≤t.mask
 sz:t.place.size=n
theorem Good.slot {t:SetTable} {n:Nat} (g:Good t n) (j:Nat):(j∉t.place.toList∧t.slot j=.empty)∨(j∈t.place.toList∧∃ i,t.slot j=.live i):=by
 unfold SetTable.slot
 by_cases h:j∈t.place.toList
 ·right
  refine ⟨h,below t.place j,?_⟩
  dsimp only
  rw [if_pos (by rw [(oA g.ris).mpr h];exact beq_self_eq_true _)]
 ·left
  refine ⟨h,?_⟩
  dsimp only
  rw [if_neg (by
   intro z
   exact h ((oA g.ris).mp (by simpa using z))),if_neg (by
   rw [g.dm,vS]
   exact Bool.false_ne_true)]
noncomputable def E7 (mask i p:Nat):Probe:={ j:=i,more:=runEnd mask i-i,i:=i,perturb:=p,dummy:=none }
theorem DB {t:SetTable} {h:Int} {f k:Nat} {p:Probe} (q:t.slot p.j=.live k):probe.go t (fun _=>h+1) h (f+1) p=probe.go t (fun _=>h+1) h f (t.advance p):=by
 have nh:(h+1 == h)=false:=by
  rw [beq_eq_false_iff_ne]
  omega
 conv=>lhs;unfold probe.go
 rw [q]
 dsimp only
 rw [nh]
 rfl
theorem AF {t:SetTable} {h:Int} {f:Nat} {p:Probe} (q:t.slot p.j=.empty):probe.go t (fun _=>h+1) h (f+1) p=some (.empty p.j p.dummy):=by
 conv=>lhs;unfold probe.go
 rw [q]
theorem AG {t:SetTable} {n:Nat} (g:Good t n) {h:Int} {i p:Nat}:∀ (d f j:Nat),j+d≤t.mask→d<f → 
  (∃ j',probe.go t (fun _=>h+1) h f { j:=j,more:=d,i:=i,perturb:=p,dummy:=none }=some (.empty j' none)∧j'≤t.mask∧j'∉t.place.toList) ∨
  (probe.go t (fun _=>h+1) h f { j:=j,more:=d,i:=i,perturb:=p,dummy:=none }=probe.go t (fun _=>h+1) h (f-(d+1)) (E7 t.mask (leap t.mask i p).1 (leap t.mask i p).2)∧j∈t.place.toList)
 | d,0,j,h1,h2=>by omega
 | d,f+1,j,h1,h2=>by
  rcases g.slot j with ⟨q1,q2⟩ | ⟨q1,k,q2⟩
  ·exact .inl ⟨j,AF (p:={ j:=j,more:=d,i:=i,perturb:=p,dummy:=none }) q2,by omega,q1⟩
  ·rw [DB (p:={ j:=j,more:=d,i:=i,perturb:=p,dummy:=none }) q2]
   cases d with
   | zero=>exact .inr ⟨rfl,q1⟩
   | succ d=>
    have ea:t.advance { j:=j,more:=d+1,i:=i,perturb:=p,dummy:=none }={ j:=j+1,more:=d,i:=i,perturb:=p,dummy:=none }:=rfl
    rw [ea]
    rcases AG g (h:=h) (i:=i) (p:=p) d f (j+1) (by omega) (by omega) with z | ⟨z,_⟩
    ·exact .inl z
    ·refine .inr ⟨?_,q1⟩
     rw [z,show f-(d+1)=f+1-(d+1+1) by omega]
theorem rA {t:SetTable} {n:Nat} (g:Good t n) {h:Int}:∀ (k f i p:Nat),i≤t.mask→10*k≤f→(∃ m,m<k∧(lp t.mask m (i,p)).1∉t.place.toList) → 
  ∃ j',probe.go t (fun _=>h+1) h f (E7 t.mask i p)=some (.empty j' none)∧j'≤t.mask∧j'∉t.place.toList
 | 0,f,i,p,_,_,⟨m,hm,_⟩=>by omega
 | k+1,f,i,p,hi,hf,⟨m,hm,e⟩=>by
  have hr:runEnd t.mask i-i≤9∧i+(runEnd t.mask i-i)≤t.mask:=by
   unfold runEnd
   split<;>omega
  rcases AG g (h:=h) (i:=i) (p:=p) (runEnd t.mask i-i) f i hr.2 (by omega) with z | ⟨z,q⟩
  ·exact z
  ·have hm0:m≠0:=fun y=>by subst y;exact e q
   obtain ⟨m',rfl⟩:∃ m',m=m'+1:=⟨m-1,by omega⟩
   obtain ⟨j',a,b,c⟩:=rA g (h:=h) k (f-(runEnd t.mask i-i+1)) (leap t.mask i p).1 (leap t.mask i p).2 (vQ t.mask 1 (i,p) hi) (by omega) ⟨m',by omega,e⟩
   exact ⟨j',z.trans a,b,c⟩
theorem rB {t:SetTable} {n:Nat} (g:Good t n) (hn:n≤t.mask) (h:Int):∃ j,t.freeSlot h=some (j,false)∧j≤t.mask∧j∉t.place.toList:=by
 obtain ⟨j0,h0,n0⟩:=room (mask:=t.mask) (l:=t.place.toList) (by rw [Array.length_toList,g.sz];exact hn)
 have hi:bits h % (t.mask+1)≤t.mask:=Nat.le_of_lt_succ (Nat.mod_lt _ (Nat.succ_pos _))
 obtain ⟨m,hm,e⟩:=hit g.cv hi (vR h) h0
 obtain ⟨j,a,b,c⟩:=rA g (h:=h) (t.mask+14) (10*turns t.mask) (bits h % (t.mask+1)) (bits h) hi (by unfold turns;omega) ⟨m,hm,by rw [e];exact n0⟩
 refine ⟨j,?_,b,c⟩
 unfold SetTable.freeSlot SetTable.probe
 have a':probe.go t (fun _=>h+1) h (10*turns t.mask) (t.probeStart h)=some (.empty j none):=a
 rw [a']
 rfl
theorem tX {t:SetTable} {n:Nat} (g:Good t n) {j:Nat} (h1:j≤t.mask) (h2:j∉t.place.toList):Good (t.put j).1 (n+1)∧(t.put j).1.mask=t.mask∧(t.put j).1.led=t.led:=by
 have hl:(insertAt t.place (below t.place j) j).toList=_:=fZ _ _ _
 refine ⟨⟨?_,g.pl,g.cv,nK g.ris h2,fun i hi=>?_,?_⟩,rfl,rfl⟩
 ·unfold SetTable.put
  dsimp only
  rw [g.dm]
  rw [vS]
  rfl
 ·have hi:i∈(insertAt t.place (below t.place j) j).toList:=hi
  rw [hl] at hi
  rcases List.mem_append.mp hi with hi | hi
  ·exact g.le i (List.mem_of_mem_take hi)
  ·rcases List.mem_cons.mp hi with rfl | hi
   ·exact h1
   ·exact g.le i (List.mem_of_mem_drop hi)
 ·show (insertAt t.place (below t.place j) j).size=n+1
  rw [← Array.length_toList,hl,List.length_append,List.length_cons,List.length_take,List.length_drop]
  have:=(ck j g.ris).2.2
  have:=g.sz
  rw [Array.length_toList]
  omega
theorem Good.fits {t:SetTable} {n:Nat} (g:Good t n) (hn:n≤t.mask):t.fits n=true:=by
 unfold SetTable.fits SetTable.fill
 rw [g.dm,g.sz]
 simp
 exact hn
theorem x9 {t:SetTable} {es:Array (Int×Value)} (g:Good t es.size) (hn:es.size+1≤t.mask) (h:Int) (x:Value) :
  ∃ es' t',layNew t es h x=(es',t',false,false)∧Good t' es'.size∧t'.mask=t.mask∧t'.led=t.led∧es'.toList.Perm (es.toList++[(h,x)]):=by
 obtain ⟨j,a,b,c⟩:=rB g (by omega) h
 obtain ⟨g1,g2,g3⟩:=tX g b c
 have hl:(insertAt es (t.put j).2 (h,x)).toList=_:=fZ _ _ _
 have hz:(insertAt es (t.put j).2 (h,x)).size=es.size+1:=by
  rw [← Array.length_toList,hl,List.length_append,List.length_cons,List.length_take,List.length_drop]
  have:=(ck j g.ris).2.2
  rw [g.sz] at this
  have:(t.put j).2≤es.size:=this
  rw [Array.length_toList]
  omega
 refine ⟨insertAt es (t.put j).2 (h,x),(t.put j).1,?_,by rw [hz];exact g1,g2,g3,?_⟩
 ·unfold layNew
  rw [a]
  dsimp only
  unfold SetTable.orStandIn
  rw [hz,g1.fits (by rw [g2];exact hn)]
  rfl
 ·rw [hl]
  refine List.Perm.trans List.perm_middle ?_
  rw [List.take_append_drop]
  exact (List.perm_append_singleton _ _).symm
theorem f6 {α β:Type} {f g:α→Option β}:∀ {l:List α},(∀ x∈l,f x=g x)→l.filterMap f=l.filterMap g
 | [],_=>rfl
 | x::l,h=>by rw [List.filterMap_cons,List.filterMap_cons,h x List.mem_cons_self,f6 fun y hy=>h y (List.mem_cons_of_mem _ hy)]
theorem AH (f:Nat→Option Nat) (j0 k:Nat):∀ (l:List Nat),l.Nodup→j0∈l→f j0=none→(l.filterMap (fun j=>if j=j0 then some k else f j)).Perm (k::l.filterMap f)
 | [],_,h,_=>by cases h
 | x::r,nd,h,h0=>by
  obtain ⟨n1,n2⟩:=List.nodup_cons.mp nd
  by_cases e:x=j0
  ·subst e
   have er:r.filterMap (fun j=>if j=x then some k else f j)=r.filterMap f:=f6 fun y hy=>by rw [if_neg fun z:y=x=>n1 (z▸hy)]
   rw [List.filterMap_cons,if_pos rfl,List.filterMap_cons,h0,er]
  ·have hr:j0∈r:=(List.mem_cons.mp h).resolve_left fun z=>e z.symm
   have ih:=AH f j0 k r n2 hr h0
   rw [List.filterMap_cons,if_neg e,List.filterMap_cons]
   cases f x with
   | none=>exact ih
   | some v=>exact (ih.cons v).trans (.swap _ _ _)
noncomputable def ow (owner:Array (Option Nat)) (j:Nat):Option Nat:=owner.getD j none
noncomputable def lay (mask:Nat) (owner:Array (Option Nat)):List Nat:=(List.range (mask+1)).filterMap (ow owner)
theorem vU {mask:Nat} {owner:Array (Option Nat)} (hs:owner.size=mask+1):∀ (fuel i p:Nat),i≤mask→(∃ m,m<fuel∧owner[(lp mask m (i,p)).1]?=some none)→∃ j,layClean.free mask owner fuel i p=some j∧j≤mask∧owner[j]?=some none
 | 0,i,p,_,⟨m,hm,_⟩=>by omega
 | fuel+1,i,p,hi,⟨m,hm,e⟩=>by
  have hr:i≤runEnd mask i∧runEnd mask i≤mask:=by
   unfold runEnd
   split<;>omega
  unfold layClean.free
  cases hf:(List.range (runEnd mask i+1-i)).find? fun k=>(owner.getD (i+k) (some 0)).isNone with
  | some k=>
   dsimp only
   have h1:=List.find?_some hf
   have h2:=List.mem_range.mp (List.mem_of_find?_eq_some hf)
   refine ⟨i+k,rfl,by omega,?_⟩
   have hlt:i+k<owner.size:=by omega
   rw [Array.getD_eq_getD_getElem?,Array.getElem?_eq_getElem hlt,Option.getD_some] at h1
   rw [Array.getElem?_eq_getElem hlt]
   exact congrArg some (Option.isNone_iff_eq_none.mp h1)
  | none=>
   dsimp only
   have h1:=List.find?_eq_none.mp hf 0 (List.mem_range.mpr (by omega))
   have hm0:m≠0:=fun y=>by
    subst y
    have e:owner[i]?=some none:=e
    rw [Nat.add_zero,Array.getD_eq_getD_getElem?,e] at h1
    exact h1 rfl
   obtain ⟨m',rfl⟩:∃ m',m=m'+1:=⟨m-1,by omega⟩
   exact vU hs fuel (leap mask i p).1 (leap mask i p).2 (vQ mask 1 (i,p) hi) ⟨m',by omega,e⟩
theorem AI {mask:Nat} {owner:Array (Option Nat)} (hs:owner.size=mask+1) (hk:(lay mask owner).length≤mask):∃ j,j≤mask∧owner[j]?=some none:=by
 obtain ⟨j,h1,h2⟩:=room (mask:=mask) (l:=(List.range (mask+1)).filter fun j=>(ow owner j).isSome) (by
  have:∀ l:List Nat,(l.filter fun j=>(ow owner j).isSome).length=(l.filterMap (ow owner)).length:=fun l=>by
   induction l with
   | nil=>rfl
   | cons x l ih=>
    rw [List.filter_cons,List.filterMap_cons]
    cases ow owner x with
    | none=>simpa using ih
    | some v=>simpa using ih
  rw [this]
  exact hk)
 refine ⟨j,h1,?_⟩
 have hlt:j<owner.size:=by omega
 rw [Array.getElem?_eq_getElem hlt]
 cases q:owner[j] with
 | none=>rfl
 | some v=>
  refine absurd (List.mem_filter.mpr ⟨List.mem_range.mpr (by omega),?_⟩) h2
  unfold ow
  rw [Array.getD_eq_getD_getElem?,Array.getElem?_eq_getElem hlt,q]
  rfl
theorem DF {mask:Nat} {owner:Array (Option Nat)} (hs:owner.size=mask+1) {j k:Nat} (hj:j≤mask) (h0:owner[j]?=some none):(lay mask (owner.setIfInBounds j (some k))).Perm (k::lay mask owner):=by
 have:lay mask (owner.setIfInBounds j (some k))=(List.range (mask+1)).filterMap (fun i=>if i=j then some k else ow owner i):=f6 fun i hi=>by
  unfold ow
  rw [Array.getD_eq_getD_getElem?,Array.getD_eq_getD_getElem?,Array.getElem?_setIfInBounds]
  by_cases e:i=j
  ·subst e
   rw [if_pos rfl,if_pos rfl,if_pos (by omega)]
   rfl
  ·rw [if_neg fun z=>e z.symm,if_neg e]
 rw [this]
 exact AH _ _ _ _ List.nodup_range (List.mem_range.mpr (by omega)) (by unfold ow;rw [Array.getD_eq_getD_getElem?,h0];rfl)
theorem rC {mask:Nat} (c:Cov mask):∀ (hs:List Int) (owner:Array (Option Nat)) (k:Nat),owner.size=mask+1→(lay mask owner).Perm (List.range k)→k+hs.length≤mask →
  ∃ owner',hs.foldl (fun acc h=>do
   let (owner,k) ← acc
   let j ← layClean.free mask owner (turns mask) (bits h % (mask+1)) (bits h)
   pure (owner.setIfInBounds j (some k),k+1)) (some (owner,k))=some (owner',k+hs.length)∧(lay mask owner').Perm (List.range (k+hs.length))∧owner'.size=mask+1
 | [],owner,k,h1,h2,_=>⟨owner,rfl,h2,h1⟩
 | h::hs,owner,k,h1,h2,h3=>by
  rw [List.length_cons] at h3
  obtain ⟨j0,a,b⟩:=AI h1 (by rw [h2.length_eq,List.length_range];omega)
  have hi:bits h % (mask+1)≤mask:=Nat.le_of_lt_succ (Nat.mod_lt _ (Nat.succ_pos _))
  obtain ⟨m,hm,e⟩:=hit c hi (vR h) a
  obtain ⟨j,f1,f2,f3⟩:=vU h1 (turns mask) (bits h % (mask+1)) (bits h) hi ⟨m,by unfold turns;omega,by rw [e];exact b⟩
  obtain ⟨owner',q1,q2,q3⟩:=rC c hs (owner.setIfInBounds j (some k)) (k+1) (by rw [Array.size_setIfInBounds];exact h1)
   ((DF h1 f2 f3).trans (by rw [List.range_succ];exact (h2.cons k).trans (List.perm_append_singleton _ _).symm)) (by omega)
  refine ⟨owner',?_,?_,q3⟩
  ·rw [List.foldl_cons,List.length_cons,show k+(hs.length+1)=k+1+hs.length by omega,← q1]
   congr 1
   show (layClean.free mask owner (turns mask) (bits h % (mask+1)) (bits h)).bind _=_
   rw [f1]
   rfl
  ·rw [List.length_cons,show k+(hs.length+1)=k+1+hs.length by omega]
   exact q2
theorem DG {mask finger moves:Nat} {led plain:Bool} {hashes:Array Int} (c:Cov mask) (hn:hashes.size≤mask):∃ t order,laid mask finger moves led plain hashes=some (t,order)∧t.mask=mask∧t.led=led∧t.plain=plain∧t.dummies=#[] ∧
  t.place.toList.Pairwise (· < ·)∧(∀ j∈t.place.toList,j≤mask)∧t.place.size=hashes.size∧order.toList.Perm (List.range hashes.size):=by
 obtain ⟨owner,q1,q2,q3⟩:=rC c hashes.toList (Array.replicate (mask+1) none) 0 (by simp) (by
  have:lay mask (Array.replicate (mask+1) none)=[]:=by
   unfold lay
   rw [List.filterMap_eq_nil_iff]
   intro j hj
   unfold ow
   rw [Array.getD_eq_getD_getElem?,Array.getElem?_replicate]
   split<;>rfl
  rw [this]
  exact .refl _) (by rw [Array.length_toList];omega)
 rw [Nat.zero_add,Array.length_toList] at q1 q2
 have lc:layClean mask hashes=some owner:=by
  unfold layClean
  rw [← Array.foldl_toList,q1]
  rfl
 have e2:((List.range (mask+1)).filterMap fun j=>(owner.getD j none).map (j,·)).map (·.2)=lay mask owner:=by
  unfold lay
  rw [List.map_filterMap]
  refine f6 fun j _=>?_
  unfold ow
  cases owner.getD j none<;>rfl
 have e1:((List.range (mask+1)).filterMap fun j=>(owner.getD j none).map (j,·)).map (·.1)=(List.range (mask+1)).filter fun j=>(owner.getD j none).isSome:=by
  rw [List.map_filterMap,← List.filterMap_eq_filter]
  refine f6 fun j _=>?_
  unfold Option.guard
  cases q:owner.getD j none<;>simp [q]
 unfold laid
 rw [lc]
 refine ⟨_,_,rfl,rfl,rfl,rfl,rfl,?_,fun j hj=>?_,?_,?_⟩
 ·show ((((List.range (mask+1)).filterMap fun j=>(owner.getD j none).map (j,·)).map (·.1)).toArray).toList.Pairwise _
  rw [e1]
  exact (List.pairwise_lt_range).sublist List.filter_sublist
 ·have hj:j∈((((List.range (mask+1)).filterMap fun j=>(owner.getD j none).map (j,·)).map (·.1)).toArray).toList:=hj
  rw [e1] at hj
  have:=List.mem_range.mp (List.mem_filter.mp hj).1
  omega
 ·show ((((List.range (mask+1)).filterMap fun j=>(owner.getD j none).map (j,·)).map (·.1)).toArray).size=_
  rw [List.size_toArray,List.length_map,← List.length_map (f:=(·.2)),e2,q2.length_eq,List.length_range]
 ·show ((((List.range (mask+1)).filterMap fun j=>(owner.getD j none).map (j,·)).map (·.2)).toArray).toList.Perm _
  rw [e2]
  exact q2
theorem AJ {t:SetTable} {es:Array (Int×Value)} {wanted:Nat} (c:Cov (sizeAbove wanted-1)) (hn:es.size≤sizeAbove wanted-1) (pl:t.plain=true) :
  ∃ es' t',relayAll t es wanted=(es',t',false)∧Good t' es'.size∧t'.mask=sizeAbove wanted-1∧t'.led=t.led∧es'.toList.Perm es.toList:=by
 obtain ⟨t',order,q1,q2,q3,q4,q5,q6,q7,q8,q9⟩:=DG (finger:=t.finger) (moves:=t.movedTo (sizeAbove wanted-1)) (led:=t.led) (plain:=t.plain) (hashes:=es.map (·.1)) c (by rw [Array.size_map];exact hn)
 rw [Array.size_map] at q8 q9
 have pe:(order.filterMap (es[·]?)).toList.Perm es.toList:=by
  rw [Array.toList_filterMap]
  refine (q9.filterMap _).trans (.of_eq ?_)
  have:∀ l:List (Int×Value),(List.range l.length).filterMap (fun i=>l[i]?)=l:=fun l=>by
   induction l with
   | nil=>rfl
   | cons x l ih=>
    rw [List.length_cons,List.range_succ_eq_map,List.filterMap_cons]
    show x::_=_
    rw [List.filterMap_map]
    congr 1
  have h2:=this es.toList
  simpa using h2
 have hz:(order.filterMap (es[·]?)).size=es.size:=by rw [← Array.length_toList,pe.length_eq,Array.length_toList]
 have gd:Good t' es.size:=⟨q5,q4.trans pl,by rw [q2];exact c,q6,by rw [q2];exact q7,q8⟩
 refine ⟨order.filterMap (es[·]?),t',?_,by rw [hz];exact gd,q2,q3,pe⟩
 unfold relayAll SetTable.relaid
 rw [q1]
 dsimp only
 rw [hz,gd.fits (by rw [q2];exact hn)]
 have:coversAll order es.size=true:=by
  unfold coversAll
  exact List.isPerm_iff.mpr q9
 rw [this]
 rfl
open PySem PySem.SetTable PySem.W
theorem bf:Slot "set_iterator" "__next__" "set_iterator.__next__":=
 .of (owner := "set_iterator") (n := "__next__") (by rw [typeLookup_type,builtinLookup_eq_fast];kernel_rfl) (by decide +kernel) (by decide +kernel) (by decide +kernel)
  (by first | exact .inl (by decide +kernel) | exact .inr (by decide +kernel)) (by rw [isSubtype_type];kernel_rfl)
theorem d7:entryFor table "set_iterator.__next__" = some Builtin.«set_iterator.__next__»:=entryFor_of_tree (by kernel_rfl)
theorem j7:Manifest.owners.lookup (String.ofList ['r','o','t','a','r','e','t','i','_','t','e','s'].reverse)=some Manifest.sig_set_iterator:=by kernel_rfl
theorem eZ (a:Value):argsOk "set_iterator.__next__" ⟨[a],[]⟩:=by
 unfold argsOk;rw [signature?_of (id := "set_iterator.__next__") (n:=['_','_','t','x','e','n','_','_']) (o:=['r','o','t','a','r','e','t','i','_','t','e','s']) (by kernel_rfl) j7];kernel_rfl
theorem e_:Slot "set_iterator" "__iter__" "set_iterator.__iter__":=
 .of (owner := "set_iterator") (n := "__iter__") (by rw [typeLookup_type,builtinLookup_eq_fast];kernel_rfl) (by decide +kernel) (by decide +kernel) (by decide +kernel)
  (by first | exact .inl (by decide +kernel) | exact .inr (by decide +kernel)) (by rw [isSubtype_type];kernel_rfl)
theorem jL:entryFor table "set_iterator.__iter__" = some Builtin.«dict_keyiterator.__iter__»:=
 entryFor_alias (id' := "dict_keyiterator.__iter__") (by kernel_rfl) rfl (by decide +kernel) (by kernel_rfl)
theorem kG (a:Value):argsOk "set_iterator.__iter__" ⟨[a],[]⟩:=by
 unfold argsOk;rw [signature?_of (id := "set_iterator.__iter__") (n:=['_','_','r','e','t','i','_','_']) (o:=['r','o','t','a','r','e','t','i','_','t','e','s']) (by kernel_rfl) j7];kernel_rfl
theorem lV:entryFor table "set.__iter__" = some Builtin.«frozenset.__iter__»:=
 entryFor_alias (id' := "frozenset.__iter__") (by kernel_rfl) rfl (by decide +kernel) (by kernel_rfl)
theorem lW {α:Type}:∀ (l:List α) (i:Nat) (h:i<l.length),(l[i]::l.eraseIdx i).Perm l
 | x::l,0,_=>.refl _
 | x::l,i+1,h=>by
  have ih:=lW l i (by simpa using h)
  exact (List.Perm.swap _ _ _).trans (ih.cons x)
theorem vV (f:Nat→Nat) {α:Type}:∀ (n k:Nat) (left:List α) (out:Array α),left.length=n→(pickOrder.go f n k left out).toList.Perm (out.toList++left)
 | 0,k,left,out,h=>by
  have:left=[]:=List.length_eq_zero_iff.mp h
  subst this
  unfold pickOrder.go
  rw [List.append_nil]
 | n+1,k,left,out,h=>by
  have hlt:f k % left.length<left.length:=Nat.mod_lt _ (by omega)
  unfold pickOrder.go
  rw [List.getElem?_eq_getElem hlt]
  dsimp only
  refine (vV f n (k+1) _ _ (by rw [List.length_eraseIdx_of_lt hlt];omega)).trans ?_
  rw [Array.toList_push,List.append_assoc]
  refine List.Perm.append_left _ ?_
  exact lW left _ hlt
theorem x_ (f:Nat→Nat) {α:Type} (xs:Array α):(pickOrder f xs).toList.Perm xs.toList:=by
 unfold pickOrder
 have:=vV f xs.size 0 xs.toList #[] (by rw [Array.length_toList])
 simpa using this
noncomputable def cH (h:Heap) (a:Addr) (es:Array (Int×Value)) (ep:Nat) (t:SetTable):Prop:=∃ o,h.get? a=some o∧o.ExactSet∧o.data=.set es ep t
theorem cH.typeIs {s:Shared} {a:Addr} {es ep t} (x:cH s.heap a es ep t):s.TypeIs (.ref a) "set" := let ⟨o,ho,he,_⟩:=x;⟨o,ho,he.1⟩
theorem cH.at {h h':Heap} {a:Addr} {es ep t} (x:cH h a es ep t) (e:∀ o,h.get? a=some o→h'.get? a=some o):cH h' a es ep t:=let ⟨o,ho,r⟩:=x;⟨o,e _ ho,r⟩
noncomputable def slotAt (bt:Bool) (t:SetTable) (i:Nat):Nat:=if bt||i == 0 then 0 else t.place.getD (i-1) 0+1
noncomputable def nM (h:Heap) (it a:Addr) (bt:Bool) (t:SetTable) (i n ep:Nat):Prop:=∃ o,h.get? it=some o∧o.cls=.type "set_iterator" ∧ o.data=.fields #[.int (slotAt bt t i:Nat) 0,.int i 0,.ref a,.int n 0,.int ep 0]
theorem nM.typeIs {s:Shared} {it a:Addr} {bt t i n ep} (x:nM s.heap it a bt t i n ep):s.TypeIs (.ref it) "set_iterator" := let ⟨o,ho,he,_⟩:=x;⟨o,ho,he⟩
theorem nM.at {h h':Heap} {it a:Addr} {bt t i n ep} (x:nM h it a bt t i n ep) (e:∀ o,h.get? it=some o→h'.get? it=some o):nM h' it a bt t i n ep:=let ⟨o,ho,r⟩:=x;⟨o,e _ ho,r⟩
noncomputable def cN (w:World) (a:Addr) (es:Array (Int×Value)) (ep:Nat):List Value:=
 ((if w.params.followText "set-order" then pickOrder (w.params.setOrder a ep) es else es).toList).map (·.2)
theorem oB (w:World) (a:Addr) (es:Array (Int×Value)) (ep:Nat):(cN w a es ep).Perm (es.toList.map (·.2)):=by
 unfold cN
 split
 ·exact (x_ _ es).map _
 ·exact .refl _
theorem f7 (w:World) (a:Addr) (es:Array (Int×Value)) (ep:Nat):(cN w a es ep).length=es.size:=by
 rw [(oB w a es ep).length_eq,List.length_map,Array.length_toList]
theorem um {t:SetTable} {n i:Nat} (g:Good t n) (hi:i<n):below t.place (slotAt false t i)=i:=by
 obtain ⟨a,b,c⟩:=ck (slotAt false t i) g.ris
 have mono:∀ i k,i<k→∀ v w,t.place[i]?=some v→t.place[k]?=some w→v<w:=fun i k hik v w e1 e2=>by
  obtain ⟨q1,q2⟩:=Array.getElem?_eq_some_iff.mp e1
  obtain ⟨q3,q4⟩:=Array.getElem?_eq_some_iff.mp e2
  have:=List.pairwise_iff_getElem.mp g.ris i k (by simpa using q1) (by simpa using q3) hik
  simp only [Array.getElem_toList] at this
  omega
 have hz:=g.sz
 cases i with
 | zero=>
  refine Classical.byContradiction fun z=>?_
  have h0:t.place[0]?=some t.place[0]:=Array.getElem?_eq_getElem (by omega)
  have:=a 0 (by omega) _ h0
  have e:slotAt false t 0=0:=rfl
  rw [e] at this
  omega
 | succ i=>
  have hp:t.place[i]?=some t.place[i]:=Array.getElem?_eq_getElem (by omega)
  have e:slotAt false t (i+1)=t.place[i]+1:=by
   show t.place.getD (i+1-1) 0+1=_
   rw [Nat.add_sub_cancel,Array.getD_eq_getD_getElem?,hp]
   rfl
  rw [e] at a b ⊢
  have h1:i<below t.place (t.place[i]+1):=Nat.not_le.mp fun z=>by
   have:=b i z _ hp
   omega
  have h2:below t.place (t.place[i]+1)≤i+1:=Nat.not_lt.mp fun z=>by
   have hq:t.place[i+1]?=some t.place[i+1]:=Array.getElem?_eq_getElem (by omega)
   have:=a (i+1) z _ hq
   have:=mono i (i+1) (Nat.lt_succ_self _) _ _ hp hq
   omega
  omega
theorem ya {t:SetTable} {n:Nat} (g:Good t n):n≤below t.place (slotAt false t n):=by
 obtain ⟨a,b,c⟩:=ck (slotAt false t n) g.ris
 have hz:=g.sz
 cases n with
 | zero=>omega
 | succ i=>
  have hp:t.place[i]?=some t.place[i]:=Array.getElem?_eq_getElem (by omega)
  have e:slotAt false t (i+1)=t.place[i]+1:=by
   show t.place.getD (i+1-1) 0+1=_
   rw [Nat.add_sub_cancel,Array.getD_eq_getD_getElem?,hp]
   rfl
  rw [e] at a b ⊢
  exact Nat.not_le.mp fun z=>by
   have:=b i z _ hp
   omega
section
variable {prog:Program} {w:World} {A:Around} {E:Value→Shared→Prop} {s:Shared} {a it:Addr} {es:Array (Int×Value)} {ep i:Nat} {t:SetTable}
theorem f9 (x:cH s.heap a es ep t) (g:Good t es.size) (hm:es.size≤t.mask) {Q:(Array (Int×Value)×Nat×SetTable)→Shared→Prop} (h:Q (es,ep,t) s):wpAny (model prog w) A (setState a) Q E s:=by
 obtain ⟨o,ho,_,hd⟩:=x
 exact wpAny_setState_of ho hd (g.fits hm) h
theorem jM {Q:Bool→Shared→Prop} (h:Q (w.params.followText "set-order") s):wpAny (model prog w) A setsByText Q E s:=by
 unfold setsByText
 exact wpAny_bind (wpAny_askSetting (wpAny_pure h))
theorem rD (x:cH s.heap a es ep t) (g:Good t es.size) (hm:es.size≤t.mask) {Q:Bool→Shared→Prop} (h:Q false s):wpAny (model prog w) A (setDrawn a) Q E s:=by
 unfold setDrawn
 refine wpAny_bind (f9 x g hm ?_)
 refine wpAny_bind (jM (wpAny_pure ?_))
 have e:(!(w.params.followText "set-order")&&(!t.plain&&decide (es.size>1)))=false:=by
  rw [g.pl]
  simp
 have e':Q (!(w.params.followText "set-order")&&(!t.plain&&decide (es.size>1))) s:=by rw [e];exact h
 exact e'
theorem lX (x:cH s.heap a es ep t) (g:Good t es.size) (hm:es.size≤t.mask) (hl:t.led=!w.params.followText "set-order") {Q:Option (Value×Nat)→Shared→Prop}
  (h:Q ((cN w a es ep)[i]?.map fun v=>(v,slotAt (w.params.followText "set-order") t (i+1))) s) (hi:i≤es.size):wpAny (model prog w) A (setNext a (slotAt (w.params.followText "set-order") t i) i ep) Q E s:=by
 unfold setNext
 refine wpAny_bind (f9 x g hm ?_)
 dsimp only
 refine wpAny_bind (jM ?_)
 cases bt:w.params.followText "set-order" with
 | true=>
  rw [bt] at h
  rw [if_pos rfl]
  simp only [bne_self_eq_false,Bool.false_eq_true,if_false]
  refine wpAny_bind (m:=setWalk a) ?_
  unfold setWalk
  refine wpAny_bind (f9 x g hm ?_)
  dsimp only
  refine wpAny_bind (jM ?_)
  rw [bt,if_pos rfl]
  refine wpAny_bind (wpAny_askSetting (wpAny_pure (wpAny_pure ?_)))
  unfold cN at h
  rw [bt,if_pos rfl,List.getElem?_map,Option.map_map] at h
  have e:slotAt true t i=0∧slotAt true t (i+1)=0:=⟨rfl,rfl⟩
  rw [e.1]
  rw [e.2] at h
  rw [Array.getElem?_toList] at h
  exact h
 | false=>
  rw [bt] at h hl
  rw [if_neg Bool.false_ne_true]
  have dr:(!t.plain&&decide (es.size>1))=false:=by rw [g.pl];rfl
  show wpAny _ _ (if (!t.plain&&decide (es.size>1))=true then _ else _) _ _ _
  rw [if_neg (by rw [dr];exact Bool.false_ne_true)]
  show wpAny _ _ ((if (!t.led&&!es.isEmpty)=true then _ else pure ()) >>= _) _ _ _
  rw [hl]
  simp only [Bool.not_false,Bool.not_true,Bool.false_and,Bool.false_eq_true,if_false]
  refine wpAny_bind (wpAny_pure (wpAny_pure ?_))
  unfold cN at h
  rw [bt] at h
  simp only [Bool.false_eq_true,if_false] at h
  rw [List.getElem?_map] at h
  rcases Nat.lt_or_ge i es.size with hlt | hge
  ·rw [um g hlt,Array.getElem?_eq_getElem hlt,Array.getElem?_eq_getElem (by rw [g.sz];exact hlt)]
   rw [Array.getElem?_toList,Array.getElem?_eq_getElem hlt] at h
   have e:slotAt false t (i+1)=t.place[i]'(by rw [g.sz];exact hlt)+1:=by
    show t.place.getD (i+1-1) 0+1=_
    rw [Nat.add_sub_cancel,Array.getD_eq_getD_getElem?,Array.getElem?_eq_getElem (by rw [g.sz];exact hlt)]
    rfl
   rw [e] at h
   exact h
  ·have:i=es.size:=by omega
   subst this
   rw [Array.getElem?_eq_none (ya g)]
   rw [Array.getElem?_toList,Array.getElem?_eq_none (Nat.le_refl _)] at h
   exact h
end
section
variable {prog:Program} {w:World} {A:Around} {E:Value→Shared→Prop} {s:Shared} {a it:Addr} {es:Array (Int×Value)} {ep i:Nat} {t:SetTable}
theorem uo (x:cH s.heap a es ep t) (g:Good t es.size) (hm:es.size≤t.mask) {Q:Value→Shared→Prop}
  (hQ:Q (.ref s.heap.objs.size) { s with heap:=s.heap.push { cls:=.type "set_iterator",data:=.fields #[.int 0 0,.int 0 0,.ref a,.int es.size 0,.int ep 0] } }):wpAny (model prog w) A (pyIter (.ref a)) Q E s:=by
 obtain ⟨o,ho,hex,hd⟩:=id x
 refine wpAny_pyIter_slot x.typeIs F.slot_set_iter (wpAny_call_entry F.slot_set_iter x.typeIs lV ?_ (F.args_set_iter_1 _))
 unfold Builtin.«frozenset.__iter__» Builtin.Frozenset.slot0 slotArgs
 simp only [List.isEmpty_nil,Bool.not_true,Bool.false_eq_true,↓reduceIte,bind_assoc,List.length_nil,bne_self_eq_false]
 unfold Builtin.Frozenset.addrOf Builtin.Frozenset.sizeOf
 refine wpAny_bind (wpAny_pure ?_)
 try dsimp only
 refine wpAny_bind (wpAny_pure ?_)
 refine wpAny_bind (wpAny_bind (wpAny_setEntries_of ho hd (g.fits hm) (wpAny_pure ?_)))
 refine wpAny_bind (rD x g hm ?_)
 simp only [Bool.false_eq_true,if_false]
 refine wpAny_bind (wpAny_pure ?_)
 refine wpAny_bind (wpAny_setEpoch_of ho hd (g.fits hm) ?_)
 refine wpAny_bind (m:=newFields _ _) ?_
 unfold newFields
 refine wpAny_newObj_type (wpAny_pure ⟨_,rfl,"set_iterator",_,⟨_,Heap.get?_push_size _ rfl,rfl⟩,bf.lookup,?_⟩)
 simpa [rawInt] using hQ
theorem next_item (hit:nM s.heap it a (w.params.followText "set-order") t i es.size ep) (x:cH s.heap a es ep t) (g:Good t es.size) (hm:es.size≤t.mask) (hl:t.led=!w.params.followText "set-order") {v:Value} (hv:(cN w a es ep)[i]?=some v) {Q:Option Value→Shared→Prop}
  (hQ:∀ h',nM h' it a (w.params.followText "set-order") t (i+1) es.size ep→Heap.SameBut it s.heap h'→Q (some v) { s with heap:=h' }):wpAny (model prog w) A (pyNext (.ref it)) Q E s:=by
 obtain ⟨o,ho,hc,hd⟩:=id hit
 obtain ⟨oa,hoa,LX,hda⟩:=id x
 have hi:i<es.size:=by rw [← f7 w a es ep];exact (List.getElem?_eq_some_iff.mp hv).1
 unfold pyNext
 refine wpAny_bind (wpAny_attempt (wpAny_callSpecial?_slot (name:=Str.ofString "__next__") hit.typeIs bf
  (wpAny_call_entry bf hit.typeIs d7 ?_ (eZ _))))
 unfold Builtin.«set_iterator.__next__» slotArgs
 simp only [List.isEmpty_nil,Bool.not_true,Bool.false_eq_true,↓reduceIte,bind_assoc,List.length_nil,bne_self_eq_false]
 refine wpAny_bind (wpAny_pure ?_)
 try dsimp only
 refine wpAny_bind (wpAny_fieldsOf ho hd ?_)
 try dsimp only
 refine wpAny_bind (wpAny_setEntries_of hoa hda (g.fits hm) ?_)
 simp only [bne_self_eq_false,Bool.false_eq_true,if_false]
 simp only [Int.toNat_natCast]
 refine wpAny_bind (lX x g hm hl ?_ (Nat.le_of_lt hi))
 rw [hv]
 dsimp only [Option.map_some]
 refine wpAny_bind (wpAny_setField ho hd (by simp) ?_)
 have h1:=Heap.get?_update_self (Obj.mapFields (·.setIfInBounds 0 (rawInt (slotAt (w.params.followText "set-order") t (i+1):Nat)))) ho (Obj.isFreed_of_fields (Obj.data_mapFields hd _))
 have d1:=Obj.data_mapFields hd (·.setIfInBounds 0 (rawInt (slotAt (w.params.followText "set-order") t (i+1):Nat)))
 refine wpAny_bind (wpAny_setField h1 d1 (by simp) ?_)
 refine wpAny_pure ⟨_,rfl,wpAny_pure (hQ _ ⟨_,Heap.get?_update_self _ h1 (Obj.isFreed_of_fields (Obj.data_mapFields d1 _)),?_,?_⟩ ((Heap.SameBut.update ..).trans (Heap.SameBut.update ..)))⟩
 ·exact (Obj.cls_mapFields ..).trans ((Obj.cls_mapFields ..).trans hc)
 ·rw [Obj.data_mapFields d1]
  simp [rawInt]
theorem next_end (hh:A.handled=none) (hit:nM s.heap it a (w.params.followText "set-order") t es.size es.size ep) (x:cH s.heap a es ep t) (g:Good t es.size) (hm:es.size≤t.mask) (hl:t.led=!w.params.followText "set-order") {Q:Option Value→Shared→Prop}
  (hQ:∀ h',Heap.ExtBut it s.heap h'→Q none { s with heap:=h' }):wpAny (model prog w) A (pyNext (.ref it)) Q E s:=by
 obtain ⟨o,ho,hc,hd⟩:=id hit
 obtain ⟨oa,hoa,LX,hda⟩:=id x
 unfold pyNext
 refine wpAny_bind (wpAny_attempt (wpAny_callSpecial?_slot (name:=Str.ofString "__next__") hit.typeIs bf
  (wpAny_call_entry bf hit.typeIs d7 ?_ (eZ _))))
 unfold Builtin.«set_iterator.__next__» slotArgs
 simp only [List.isEmpty_nil,Bool.not_true,Bool.false_eq_true,↓reduceIte,bind_assoc,List.length_nil,bne_self_eq_false]
 refine wpAny_bind (wpAny_pure ?_)
 try dsimp only
 refine wpAny_bind (wpAny_fieldsOf ho hd ?_)
 try dsimp only
 refine wpAny_bind (wpAny_setEntries_of hoa hda (g.fits hm) ?_)
 simp only [bne_self_eq_false,Bool.false_eq_true,if_false]
 simp only [Int.toNat_natCast]
 refine wpAny_bind (lX x g hm hl ?_ (Nat.le_refl _))
 rw [List.getElem?_eq_none (by rw [f7];exact Nat.le_refl _)]
 dsimp only [Option.map_none]
 refine wpAny_bind (wpAny_setField ho hd (by simp) (wpAny_bind ?_))
 unfold newExc newTuple
 refine wpAny_bind (wpAny_newObj_type (wpAny_bind (m:=firstArgMember _ _) (wpAny_of_eq (a:=.none) rfl (wpAny_newObj_type ?_ (by size_fits)))) (by size_fits))
 unfold raiseNew
 refine wpAny_bind (wpAny_handled ?_)
 have hx:A.in1.handled=none:=hh
 rw [hx]
 refine wpAny_bind (wpAny_pure (wpAny_throw (wpAny_bind ?_)))
 refine wpAny_isInstance (b:=true) (T := "StopIteration") ⟨_,Heap.get?_push_size _ rfl,rfl⟩ isSubtype_stop (wpAny_pure ?_)
 exact hQ _ (((Heap.SameBut.update ..).extBut.push _).push _)
theorem pZ {bt:Bool} {n:Nat} (hit:nM s.heap it a bt t i n ep) {Q:Value→Shared→Prop} (h:Q (.ref it) s):wpAny (model prog w) A (pyIter (.ref it)) Q E s:=by
 refine wpAny_pyIter_slot hit.typeIs e_ (wpAny_call_entry e_ hit.typeIs jL ?_ (kG _))
 show wpAny _ _ (ret (.ref it)) _ _ s
 exact wpAny_pure ⟨_,rfl,"set_iterator",_,hit.typeIs,bf.lookup,h⟩
theorem yb (hh:A.handled=none) (I a:Addr) (hne:a≠I) (g:Good t es.size) (hm:es.size≤t.mask) (hl:t.led=!w.params.followText "set-order") :
  Walks prog w A I [I,a] [I] es.size (fun i v=>(cN w a es ep)[i]?=some v) (fun i h=>nM h I a (w.params.followText "set-order") t i es.size ep∧cH h a es ep t) where
 sub:=fun b hb=>by simp at hb;simp [hb]
 frame:=fun _ _ _ st hk=>⟨st.1.at fun o e=>hk I (by simp) o e,st.2.at fun o e=>hk a (by simp) o e⟩
 item:=fun i s Q E hi st hQ=>by
  obtain ⟨v,hv⟩:∃ v,(cN w a es ep)[i]?=some v:=⟨(cN w a es ep)[i]'(by rw [f7];exact hi),by simp [f7,hi]⟩
  refine next_item st.1 st.2 g hm hl hv fun h' LY hs'=>?_
  exact hQ v h' s.toks hv ⟨LY,st.2.at fun o e=>hs'.extBut a o hne e⟩ fun b o hb e=>hs'.extBut b o (fun h=>hb (by simp [h])) e
 done:=fun s Q E st hQ=>next_end hh st.1 st.2 g hm hl fun h' he'=>hQ h' s.toks fun b o hb e=>he' b o (fun h=>hb (by simp [h])) e
 self:=fun _ _ _ _ st hQ=>pZ st.1 hQ
theorem AK {r:Addr} {Q:Bool→Shared→Prop} (hT:s.TypeIs (.ref r) "set") (h:Q false s):wpAny (model prog w) A (Builtin.List.listLengthHint (.ref r)) Q E s:=by
 unfold Builtin.List.listLengthHint
 refine wpAny_bind (wpAny_specialOf hT PySem.F.slot_set_len.lookup ?_)
 generalize hid:("set.__len__" : String)=id0
 wp_delta
 rw [show splitId id0=some ("set","__len__") from by subst hid;decide +kernel]
 subst hid
 refine wpAny_bind (wpAny_isInstance (T := "set") (b:=true) hT (by rw [isSubtype_type];kernel_rfl) ?_)
 refine wpAny_ite_split (fun hab=>absurd hab (by decide)) (fun _=>?_)
 refine wpAny_ite_split (fun _=>?_) (fun hab=>absurd (by decide +kernel) hab)
 refine wpAny_bind (wpAny_typeOf hT ?_)
 exact wpAny_pure h
theorem DH (g:Good t es.size) (hm:es.size≤t.mask) (hl:t.led=!w.params.followText "set-order"):KdlSrc prog w "set" a a es.size (fun i v=>(cN w a es ep)[i]?=some v) (fun h=>cH h a es ep t) where
 type:=fun _ x=>x.typeIs
 there:=fun _ x=>let ⟨_,ho,_⟩:=x;⟨Heap.lt_size ho,Heap.lt_size ho⟩
 keep:=fun _ _ x hk=>x.at fun o e=>hk a (.inl rfl) o e
 notList:=by decide
 notTuple:=by decide
 hint:=fun _ _ _ _ x hq=>AK x.typeIs hq
 iter:=fun _ s hh x=>⟨_,_,(fun _ _ hq=>uo x g hm hq),yb hh _ a (let ⟨_,ho,_⟩:=x;Nat.ne_of_lt (Heap.lt_size ho)) g hm hl,
  ⟨⟨_,Heap.get?_push_size _ rfl,rfl,by simp [slotAt]⟩,x.at fun o e=>Heap.get?_push_of_some _ e⟩⟩
end
open PySem PySem.SetTable PySem.W PyProof.Rows
noncomputable def ky:Value→Int
 | .int k _=>k
 | _=>0
noncomputable def Small (t:SetTable) (n:Nat):Prop:=(t.mask=7∧n≤4)∨(t.mask=31∧n≤18)∨(t.mask=127∧n≤76)
theorem Small.le {t:SetTable} {n:Nat} (h:Small t n):n≤t.mask:=by
 rcases h with ⟨a,b⟩ | ⟨a,b⟩ | ⟨a,b⟩<;>omega
noncomputable def IsE (e:Int×Value):Prop:=e.1=hashInt (ky e.2)∧∃ tk,e.2=.int (ky e.2) tk
noncomputable def lY (w:World) (h:Heap) (a:Addr) (ns:List Int):Prop:=∃ es ep t,cH h a es ep t∧Good t es.size∧Small t es.size∧t.led=!w.params.followText "set-order" ∧ (∀ e∈es.toList,IsE e)∧(es.toList.map fun e=>ky e.2).Perm ns
theorem lY.at {w:World} {h h':Heap} {a:Addr} {ns:List Int} (x:lY w h a ns) (e:∀ o,h.get? a=some o→h'.get? a=some o):lY w h' a ns:=
 let ⟨es,ep,t,x1,r⟩:=x
 ⟨es,ep,t,x1.at e,r⟩
theorem rE {h:Heap} {a:Addr} {es es':Array (Int×Value)} {ep:Nat} {t t':SetTable} (x:cH h a es ep t):cH (h.update a (Obj.putSet es' t')) a es' (ep+1) t':=by
 obtain ⟨o,ho,hex,hd⟩:=x
 have:=Heap.get?_update_self (Obj.putSet es' t') ho (by rw [putSet_of es' t' hd];rfl)
 rw [putSet_of es' t' hd] at this
 exact ⟨_,this,hex,rfl⟩
section
variable {prog:Program} {w:World} {A:Around} {E:Value→Shared→Prop} {s:Shared} {a:Addr} {ns:List Int} {k:Int} {tk:Tok}
theorem AL {es:Array (Int×Value)} (h:∀ e∈es.toList,IsE e):ElemsOf (intKind prog w) es.toList:=fun e he=>by
 obtain ⟨h1,t,h2⟩:=h e he
 refine ⟨⟨ky e.2,?_,h1⟩,?_⟩
 ·rw [h2];exact intKind_is prog w _ _
 ·rw [h2];rfl
theorem p7 {Q:Bool→Shared→Prop} (x:lY w s.heap a ns) (hn:ns.length+1≤76) (h:∀ b h',Heap.SameBut a s.heap h'→lY w h' a (step_dedup ns k)→Q b { s with heap:=h' }) :
  wpAny (model prog w) A (setAddHashed a (.int k tk) (hashInt k)) Q E s:=by
 obtain ⟨es,ep,t,x1,g,sm,hl,he,hp⟩:=x
 obtain ⟨o,ho,hex,hd⟩:=id x1
 have hf:=g.fits sm.le
 have hel:=AL (prog:=prog) (w:=w) he
 have hlen:es.size=ns.length:=by rw [← hp.length_eq,List.length_map,Array.length_toList]
 have hb:es.size<scanBound:=by unfold scanBound;omega
 have hkey:(intKind prog w).is k (.int k tk)=true:=intKind_is prog w k tk
 have hsc:(Value.int k tk).scannable=true:=rfl
 unfold setAddHashed setAddHashedIn
 refine wpAny_holding (wpAny_bind (wpAny_setState_of ho hd hf ?_))
 dsimp only
 rw [byScan_of hsc hb hel]
 simp only [↓reduceIte]
 unfold setAddByScan
 refine wpAny_bind ?_
 refine wpAny_bind (wpAny_rule ?_)
 refine wpAny_bind (wpAny_setScan_of (knd:=intKind prog w) hkey ho hd hf hel ?_)
 have mem:∀ e∈es.toList,(intKind prog w).is k e.2=true↔ky e.2=k:=fun e hm=>by
  obtain ⟨_,t',h2⟩:=he e hm
  constructor
  ·intro q
   have q2:(intKind prog w).is (ky e.2) e.2=true:=by rw [h2];exact intKind_is prog w _ _
   exact ((intKind prog w).inj e.2 _ _ q2 q)
  ·intro q
   rw [h2,q]
   exact intKind_is prog w _ _
 cases hr:List.findIdx? (fun e=>(intKind prog w).is k e.2) es.toList with
 | some j=>
  dsimp only
  obtain ⟨hj,hpj,_⟩:=List.findIdx?_eq_some_iff_getElem.mp hr
  have hin:k∈ns:=hp.mem_iff.mp (List.mem_map.mpr ⟨_,List.getElem_mem hj,(mem _ (List.getElem_mem hj)).mp hpj⟩)
  refine wpAny_pure (wpAny_pure ?_)
  have e:s={ s with heap:=s.heap }:=by cases s;rfl
  have hd2:step_dedup ns k=ns:=by
   unfold step_dedup
   rw [if_pos (List.any_eq_true.mpr ⟨k,hin,by simp⟩)]
  have:=h false s.heap (Heap.SameBut.refl a s.heap) (by rw [hd2];exact ⟨es,ep,t,x1,g,sm,hl,he,hp⟩)
  rw [e]
  exact this
 | none=>
  dsimp only
  have hout:k∉ns:=fun z=>by
   obtain ⟨e,hm,q⟩:=List.mem_map.mp (hp.mem_iff.mpr z)
   have:=List.findIdx?_eq_none_iff.mp hr e hm
   rw [(mem e hm).mpr q] at this
   cases this
  have hd2:step_dedup ns k=ns++[k]:=by
   unfold step_dedup
   rw [if_neg fun z=>by
    obtain ⟨y,hy,q⟩:=List.any_eq_true.mp z
    have:y=k:=by simpa using q
    exact hout (this▸hy)]
  rw [hd2] at h
  obtain ⟨es1,t1,eL,g1,m1,l1,p1⟩:=x9 g (by rcases sm with ⟨q1,q2⟩ | ⟨q1,q2⟩ | ⟨q1,q2⟩<;>omega) (hashInt k) (Value.int k tk)
  rw [eL]
  dsimp only
  have hz1:es1.size=es.size+1:=by rw [← Array.length_toList,p1.length_eq,List.length_append,Array.length_toList];rfl
  have he1:∀ e∈es1.toList,IsE e:=fun e hm=>by
   rcases List.mem_append.mp (p1.mem_iff.mp hm) with q | q
   ·exact he e q
   ·rw [List.mem_singleton.mp q]
    exact ⟨rfl,tk,rfl⟩
  have hp1:(es1.toList.map fun e=>ky e.2).Perm (ns++[k]):=by
   refine (p1.map _).trans ?_
   rw [List.map_append]
   exact hp.append (.refl _)
  refine wpAny_bind (wpAny_pure (a:=()) ?_)
  rw [if_pos g1.pl]
  refine wpAny_bind ?_
  rw [hashByValue_scannable 8 hsc]
  refine wpAny_pure ?_
  have pk:plainKind (Value.int k tk)=true:=rfl
  simp only [pk,↓reduceIte,Bool.not_false,Bool.true_and]
  refine wpAny_bind (wpAny_storeSet_of ho hd ?_ (fits_of_scanBound (by unfold scanBound;omega)))
  have x2:cH (s.heap.update a (Obj.putSet es1 t1)) a es1 (ep+1) t1:=rE x1
  have sb:=Heap.SameBut.update s.heap a (Obj.putSet es1 t1)
  have tf:t1.tooFull=decide ((es.size+1)*5≥t.mask*3):=by
   unfold SetTable.tooFull SetTable.fill
   rw [g1.dm,g1.sz,hz1,m1]
   rfl
  by_cases E8:(es.size+1)*5≥t.mask*3
  ·rw [tf,decide_eq_true E8]
   obtain ⟨M,sa,cv,lM,sm2⟩:∃ M,SetTable.sizeAbove (SetTable.grown es1.size)-1=M∧Cov M∧es1.size≤M∧((M=31∧es1.size≤18)∨(M=127∧es1.size≤76)):=by
    rcases sm with ⟨q1,q2⟩ | ⟨q1,q2⟩ | ⟨q1,q2⟩
    ·have:es1.size=5:=by omega
     exact ⟨31,by rw [this];decide +kernel,Kl,by omega,.inl ⟨rfl,by omega⟩⟩
    ·have:es1.size=19:=by omega
     exact ⟨127,by rw [this];decide +kernel,HL,by omega,.inr ⟨rfl,by omega⟩⟩
    ·omega
   obtain ⟨es2,t2,eR,g2,m2,l2,p2⟩:=AJ (t:=t1) (es:=es1) (wanted:=SetTable.grown es1.size) (by rw [sa];exact cv) (by rw [sa];omega) g1.pl
   rw [eR]
   have hz2:es2.size=es1.size:=by rw [← Array.length_toList,p2.length_eq,Array.length_toList]
   show wpAny _ _ (_ >>= _) _ _ _
   refine wpAny_bind (wpAny_pure (a:=()) ?_)
   obtain ⟨o2,ho2,hex2,LZ⟩:=id x2
   refine wpAny_bind (wpAny_storeSet_of ho2 LZ ?_ (fits_of_scanBound (by show es2.size<4096;omega)))
   refine wpAny_pure (wpAny_pure (h true _ (sb.trans (Heap.SameBut.update _ a _)) ⟨es2,_,t2,rE x2,g2,.inr (by rw [m2,sa,hz2];exact sm2),by rw [l2,l1,hl],fun e hm=>he1 e (p2.mem_iff.mp hm),(p2.map _).trans hp1⟩))
  ·rw [tf,decide_eq_false E8]
   refine wpAny_pure (wpAny_pure (h true _ sb ⟨es1,_,t1,x2,g1,?_,by rw [l1,hl],he1,hp1⟩))
   unfold Small
   rw [m1]
   rcases sm with ⟨q1,q2⟩ | ⟨q1,q2⟩ | ⟨q1,q2⟩
   ·exact .inl ⟨q1,by omega⟩
   ·exact .inr (.inl ⟨q1,by omega⟩)
   ·exact .inr (.inr ⟨q1,by omega⟩)
end
noncomputable abbrev lZ (led:Bool):Obj:={ cls:=.type "set",dict:=none,data:=.set #[] 0 (.fresh 0 0 led) }
noncomputable def bt (w:World):Bool:=w.params.followText "set-order"
theorem vW (u:String) (hu:u = "set" ∨ u = "frozenset"):isSubtype (.type "tuple") (.type u)=pure false:=by
 rcases hu with h | h<;>(subst h;rw [isSubtype_type];kernel_rfl)
theorem uq (led:Bool):Good (.fresh 0 0 led) 0:=⟨rfl,rfl,LW,.nil,fun j h=>(by cases h),rfl⟩
theorem AM {prog:Program} {w:World} {A:Around} {R:Result→Shared→Prop} {I S:Addr} {fp wr:List Addr} {G:Array GenState→Array GenState→Prop} {n:Nat} {P:Nat→Value→Prop} {St:Nat→Shared→Prop} {J:Nat→Heap→Prop} (W:WalksS prog w A.in1 I fp wr G n P St) (off:S∉fp)
  (jk:∀ i h h',J i h→(∀ b o,b∉wr→h.get? b=some o→h'.get? b=some o)→J i h')
  (ja:∀ i v (u:Shared) (E:Value→Shared→Prop) (K:Bool→Shared→Prop),i<n→P i v→J i u.heap→(∀ c h' tk,u.toks≤tk→Heap.SameBut S u.heap h'→J (i+1) h'→K c { u with heap:=h',toks:=tk })→wpAny (model prog w) A.in1 (setAdd S v) K E u)
  (i:Nat) (s:Shared) (hi:i≤n) (st:St i s) (hJ:J i s.heap) (fin:∀ s',Moved (S::wr) G s s'→J n s'.heap→R (.ok (.ret .none)) s'):codeAny (model prog w) A (.builtin "set.update.loop" ⟨[.ref S,.ref I],[]⟩) R s:=by
 have nw:S∉wr:=fun z=>off (W.sub _ z)
 have up:∀ {x y:Shared},Moved wr G x y→Moved (S::wr) G x y:=fun m=>m.mono fun _=>List.mem_cons_of_mem _
 generalize hd:n-i=d
 induction d generalizing i s with
 | zero=>
  cases (show i=n by omega)
  refine codeAny_builtin F.entry_set_update_loop (Around.under_plainId F.plain_set_update_loop _▸?_)
  exact wpAny_bind (W.done s _ _ st fun s' m=>wpAny_pure (fin s' (up m) (jk _ _ _ hJ fun b o hb e=>m.heap b o hb e)))
 | succ d ih=>
  have lt:i<n:=by omega
  refine codeAny_builtin F.entry_set_update_loop (Around.under_plainId F.plain_set_update_loop _▸?_)
  refine wpAny_bind (W.item i s _ _ lt st fun v u hv st1 m=>?_)
  refine wpAny_bind (wpAny_holding (ja i v u _ _ lt hv (jk _ _ _ hJ fun b o hb e=>m.heap b o hb e) fun c h' tk ht sb hJ'=>wpAny_pure ⟨plainId_quiet F.plain_set_update_loop _,?_⟩))
  refine ih (i+1) _ lt (W.frame _ u _ _ st1 ht fun b hb o e=>(sb.2 b fun z=>off (z▸hb)).trans e) hJ' (fun s' m'=>fin s' (Moved.trans W.gtrans ((up m).then_heap ht fun b o hb e=>?_) m')) (by omega)
  exact (sb.2 b fun z=>hb (z▸List.mem_cons_self)).trans e
section
variable {prog:Program} {w:World} {A:Around} {E:Value→Shared→Prop} {s:Shared}
theorem AO (x:Value) {K:Value→Shared→Prop} (h:K (.ref s.heap.objs.size) { s with heap:=s.heap.push (lZ (!bt w)) }):codeAny (model prog w) A (.call (.builtin "set.__new__") ⟨[.type "set",x],[]⟩) (wants K E) s:=by
 refine codeAny_call_builtin PySem.F.plain_set_new PySem.F.entry_set_new (wpAny_of_eq (PySem.F.newCall_set_1 x) ?_)
 have sub:=sub_set_self
 cases s
 unfold Builtin.«set.__new__» Builtin.Frozenset.newClass
 wp_walk
 exact wpAny_askSetting (wpAny_pure (wpAny_bind (wpAny_alloc (wpAny_pure (wpAny_pure h)))))
set_option maxHeartbeats 3200000 in
theorem yc {x:Value} {K:Value→Shared→Prop} (body:∀ led,led=(!bt w)→wpAny (model prog w) A.in1.in1 (Builtin.«set.__init__» ⟨[.ref s.heap.objs.size,x],[]⟩)
   (fun f u=>∃ h' tk,f=.done (.ret .none)∧u={ s with heap:=h',toks:=tk }∧K (.ref s.heap.objs.size) { s with heap:=h',toks:=tk }) E { s with heap:=s.heap.push (lZ led) }):wpAny (model prog w) A (call (.type "set") [x]) K E s:=by
 have ft:=PySem.F.called_set
 obtain ⟨c,tl,e1⟩:=ft.mro
 have e2:=ft.made
 have e3:=ft.sub
 have e4:=ft.notType
 have e5:=ft.canCreate
 have e6:=PySem.F.typeCall_set_1 x
 refine wpAny_call (codeAny_of_tree (wpAny_pure ⟨Code.quiet_builtin _ (by decide +kernel),codeAny_builtin PySem.F.entry_type_call (Around.under_plain (weight_type_call_type "set" [x] []) rfl▸?_)⟩))
 repeat (any_goals (first | assumption | wp_step))
 generalize HM:(!bt w)=led at body
 refine codeAny_mono (AO x (E:=E) (K:=fun y u=>y=.ref s.heap.objs.size∧u={ s with heap:=s.heap.push (lZ led) }) ⟨rfl,by rw [HM]⟩) fun q u hq=>?_
 match q,hq with
 | .error _,hq=>exact hq
 | .ok (.ret y),⟨h1,h2⟩=>
  subst h1 h2
  have ty:Shared.TypeIs { s with heap:=s.heap.push (lZ led) } (.ref s.heap.objs.size) "set" := ⟨_,Heap.get?_push_size _ rfl,rfl⟩
  have e7:=ft.init.lookup
  have e8:=ft.init.bind (.ref s.heap.objs.size)
  repeat (any_goals (first | assumption | wp_step))
  refine codeAny_mono (codeAny_call_builtin (R:=wants (fun z u=>z=.none∧∃ h' tk,u={ s with heap:=h',toks:=tk }∧K (.ref s.heap.objs.size) { s with heap:=h',toks:=tk }) E) ft.init.plain PySem.F.entry_set_init (check_set_init_1 ty ?_)) fun q' u' hq'=>?_
  ·refine wpAny_mono (body led rfl) (fun f u hf=>?_) fun _ _ z=>z
   obtain ⟨h',tk,rfl,rfl,hk⟩:=hf
   exact ⟨rfl,h',tk,rfl,hk⟩
  ·match q',hq' with
   | .error _,hq'=>exact hq'
   | .ok (.ret z),⟨h1,h',tk,h2,hk⟩=>
    subst h1 h2
    repeat (any_goals (first | assumption | wp_step))
theorem l0 {l:Addr} {items:Array Value} {ns:List Int} {K:Value→Shared→Prop} (hh:A.handled=none) (hl:s.heap.IsTuple l items) (hi:IntsAre items.toList ns) (hb:∀ i,i<items.size→(firstMet (fun i=>ns.getD i 0) i).length+1≤18)
  (h:∀ (h':Heap) (tk:Nat),lY w h' s.heap.objs.size (firstMet (fun i=>ns.getD i 0) items.size)→(∀ b o,b<s.heap.objs.size→s.heap.get? b=some o→h'.get? b=some o)→K (.ref s.heap.objs.size) { s with heap:=h',toks:=tk }):wpAny (model prog w) A (call (.type "set") [.ref l]) K E s:=by
 refine yc fun led HM=>?_
 obtain ⟨o,ho,hc,k,hd⟩:=id hl
 have ls:l<s.heap.objs.size:=Heap.lt_size ho
 have t1:(s.heap.push (lZ led)).IsTuple l items:=⟨o,Heap.get?_push_of_some _ ho,hc,k,hd⟩
 have g0:(s.heap.push (lZ led)).get? s.heap.objs.size=some (lZ led):=Heap.get?_push_size _ rfl
 have ty:Shared.TypeIs { s with heap:=s.heap.push (lZ led) } (.ref l) "tuple" := ⟨_,Heap.get?_push_of_some _ ho,hc⟩
 have n1:=vW "set" (.inl rfl)
 have n2:=vW "frozenset" (.inr rfl)
 have n3:(Value.type "tuple" == Value.type "dict")=false:=by decide
 obtain ⟨oc,od,odt,os⟩:=o
 simp only at hc hd
 subst hc hd
 have ho1:(s.heap.push (lZ led)).get? l=some { cls:=.type "tuple",dict:=od,data:=.seq items k,slots:=os }:=Heap.get?_push_of_some _ ho
 unfold Builtin.«set.__init__» noKeywords Builtin.Frozenset.updateFrom
 generalize hP:pyIter=PI
 wp_walk
 subst hP
 refine wpAny_pyIter_tuple t1 (wpAny_bind (wpAny_runValue ?_))
 have ne:l≠(s.heap.push (lZ led)).objs.size:=by rw [Heap.size_push];exact Nat.ne_of_lt (Nat.lt_succ_of_lt ls)
 have off:s.heap.objs.size∉[(s.heap.push (lZ led)).objs.size,l]:=fun z=>by
  rw [Heap.size_push] at z
  simp only [List.mem_cons,List.not_mem_nil,or_false] at z
  exact z.elim (Nat.ne_of_lt (Nat.lt_succ_self _)) (Nat.ne_of_gt ls)
 refine AM (J:=fun i h=>lY w h s.heap.objs.size (firstMet (fun i=>ns.getD i 0) i)) ((Walks.tuple (A:=A.in1.in1.in1) (by simp [hh]) _ l ne items).toS) off (fun i a b x e=>x.at fun o h=>e _ o (fun z=>off (List.mem_cons.mpr (.inl (List.mem_singleton.mp z)))) h) (fun i v u E' K' hi' hv hJ hK=>?_) 0 _ (Nat.zero_le _)
  ⟨⟨_,Heap.get?_push_size _ rfl,rfl,rfl⟩,⟨_,Heap.get?_push_of_some _ ho1,rfl,k,rfl⟩⟩ ⟨#[],0,.fresh 0 0 led,⟨_,Heap.get?_push_of_some _ g0,⟨rfl,rfl,rfl⟩,rfl⟩,uq led,.inl ⟨rfl,Nat.zero_le _⟩,HM,fun e he=>(by cases he),.refl _⟩ fun s' m hJ=>?_
 ·obtain ⟨t,rfl⟩:=IntsAre.int_at hi i v (by rw [Array.getElem?_toList];exact hv)
  unfold setAdd
  exact wpAny_holding (wpAny_bind ((intKind prog w).pyHash (intKind_is _ _ _ _) (p7 (s:={ u with toks:=u.toks+1 }) hJ (Nat.le_trans (hb i hi') (by decide)) fun c h' sb hJ'=>hK c h' _ (Nat.le_succ _) sb (by rw [firstMet_succ];exact hJ'))))
 ·obtain ⟨h',g',d',tk',os'⟩:=s'
  obtain rfl:g'=s.gens:=m.gens
  obtain rfl:d'=s.drawn:=m.drawn
  obtain rfl:os'=s.os:=m.os
  refine wpAny_pure (wpAny_pure ⟨h',tk',rfl,rfl,h h' tk' hJ fun b o lt e=>m.heap b o (fun z=>?_) (Heap.get?_push_of_some _ (Heap.get?_push_of_some _ e))⟩)
  rw [Heap.size_push] at z
  simp only [List.mem_cons,List.not_mem_nil,or_false] at z
  exact z.elim (Nat.ne_of_lt lt) (Nat.ne_of_lt (Nat.lt_succ_of_lt lt))
end
end Sx
namespace Dm
noncomputable def d8:Dat→Option RV
 | .tup ds=>(match j5 ds with
  | some ns=>if (dedup ns).length≤17 then some (.new (.lst ((cG (fun a b=>decide (a<b)) (dedup ns)).map .int))) else none
  | none=>none)
 | _=>none
end Dm
namespace Br
open PySem PySem.Spec PyProof.Rows L2
noncomputable def E9 (w:World):List V→Hp→VK→Prop:=fun xs H Q=>∃ (q:Addr) (ns:List Int),xs=[.ref q]∧H q=some (.tup (ns.map V.int))∧(Dm.dedup ns).length≤17 ∧
 ∀ l,H l=none→Q (.ref l) (upd H l (.ext fun h=>Sx.lY w h l (Dm.dedup ns)))
noncomputable def AQ (w:World):List V→Hp→VK→Prop:=fun xs H Q=>∃ (q:Addr) (ns:List Int),xs=[.ref q]∧H q=some (.ext fun h=>Sx.lY w h q ns)∧ns.length≤63 ∧
 ∀ (ms:List Int) (l:Addr),ms.Perm ns→ms.Pairwise (·≤·)→H l=none→Q (.ref l) (upd H l (.lst (ms.map V.int)))
theorem gP (val:Nat→Int):∀ (k i:Nat),(firstMet val i).length≤(firstMet val (i+k)).length
 | 0,i=>Nat.le_refl _
 | k+1,i=>by
  refine Nat.le_trans (gP val k i) ?_
  rw [← Nat.add_assoc,firstMet_succ,step_length]
  split<;>omega
theorem yd {X:Cx} (hc:X.calm=true):b4 X (.type "set") (E9 X.w):=by
 intro pins s σ H xs us Q I r h
 obtain ⟨q,ns,rfl,hq,hb,k⟩:=h
 obtain ⟨u,rfl,rx⟩:=vals1 r
 cases rx
 obtain ⟨z,its,rv,pt⟩:=(show aX X.prog X.w H s.heap q (.tup (ns.map V.int)) from I.hok q _ hq)
 have hl:=rv.length
 rw [List.length_map] at hl
 have hz:its.toArray.size=ns.length:=by rw [List.size_toArray,← hl]
 refine Sx.l0 (ns:=ns) (I.ok.hd hc) pt (by simpa using intsAre_of rv) (fun i hi=>?_) fun h' tk hS hk=>?_
 ·have:=gP (fun i=>ns.getD i 0) (ns.length-i) i
  rw [show i+(ns.length-i)=ns.length by omega,dw] at this
  omega
 ·rw [hz,dw] at hS
  exact ⟨.ref s.heap.objs.size,_,I.laid (a:=s.heap.objs.size) (o:=.ext fun h=>Sx.lY X.w h s.heap.objs.size (Dm.dedup ns)) (t':=tk) (fun b u e=>hk b u (Heap.lt_size e) e) (Nat.le_refl _)
   (show aX X.prog X.w _ _ _ (.ext _) from ⟨hS,(let ⟨_,_,_,⟨o,ho,_⟩,_⟩:=hS;⟨o,ho⟩),fun h1 h2 x e=>x.at e⟩),rfl,k _ (I.hok.fresh (Nat.le_refl _))⟩
theorem ur {X:Cx} (hc:X.calm=true):b4 X (.builtin "sorted") (AQ X.w):=by
 intro pins s σ H xs us Q I r h
 obtain ⟨p,ns,rfl,hq,hl,k⟩:=h
 obtain ⟨u,rfl,rx⟩:=vals1 r
 cases rx
 obtain ⟨⟨es,ep,t,x1,g,sm,led,he,pm⟩,_⟩:=(show aX X.prog X.w H s.heap p (.ext _) from I.hok p _ hq)
 have hlen:es.size=ns.length:=by rw [← pm.length_eq,List.length_map,Array.length_toList]
 refine Calls.call_function_entry kind_sorted plain_sorted entry_sorted (args_sorted1 _) ?_
 unfold Builtin.«sorted»
 refine wpAny_bind (m:=checkCount "sorted" 1 1 _) (wpAny_pure ?_)
 refine wpAny_bind (PySem.W.kdu_collect (A:=X.A.in1) (Sx.DH (prog:=X.prog) (w:=X.w) (a:=p) (ep:=ep) g sm.le led) (I.ok.hd hc) x1 (by rw [hlen];exact Nat.le_trans hl (by decide)) fun h' tk acc hk hacc=>?_)
 have ew:acc.toList=Sx.cN X.w p es ep:=by
  apply List.ext_getElem?
  intro i
  by_cases hi:i<acc.toList.length
  ·rw [List.getElem?_eq_getElem hi]
   exact (hacc.2 i _ (by rw [← Array.getElem?_toList,List.getElem?_eq_getElem hi])).symm
  ·rw [List.getElem?_eq_none (by omega),List.getElem?_eq_none (by rw [Sx.f7,← hacc.1,← Array.length_toList];omega)]
 have wp:=Sx.oB X.w p es ep
 rw [← ew] at wp
 have hI:∃ ms:List Int,IntsAre acc.toList ms∧ms.Perm ns:=by
  have all:∀ v∈acc.toList,∃ tk,v=.int (Sx.ky v) tk:=fun v hv=>by
   obtain ⟨e,he',rfl⟩:=List.mem_map.mp (wp.mem_iff.mp hv)
   exact (he e he').2
  refine ⟨acc.toList.map Sx.ky,?_,?_⟩
  ·have:∀ l:List Value,(∀ v∈l,∃ tk,v=.int (Sx.ky v) tk)→IntsAre l (l.map Sx.ky):=fun l=>by
    induction l with
    | nil=>intro _;exact .nil
    | cons v l ih=>
     intro hv
     obtain ⟨tk,e⟩:=hv v List.mem_cons_self
     have e2:v::l=.int (Sx.ky v) tk::l:=by rw [← e]
     rw [List.map_cons,e2]
     exact .cons _ _ (ih fun y hy=>hv y (List.mem_cons_of_mem _ hy))
   exact this _ all
  ·refine (wp.map Sx.ky).trans ?_
   rw [List.map_map]
   exact pm
 obtain ⟨nz,hI,pz⟩:=hI
 have hn:acc.toList.length≤63:=by rw [Array.length_toList,hacc.1,hlen];exact hl
 refine wpAny_bind (wpAny_newList ?_ (Nat.le_trans hn (by decide)))
 have hL0:(h'.push (seqObj "list" acc.toList.toArray 0)).get? h'.objs.size=some (seqObj "list" acc.toList.toArray 0):=Heap.get?_push_size _ rfl
 have I1:=I.kept (t':=tk) hk
 refine wpAny_bind (wpAny_holding (wpAny_call_entry (s:={ s with heap:=h'.push (seqObj "list" acc.toList.toArray 0),toks:=tk }) slot_list_sort ⟨_,hL0,rfl⟩ entry_list_sort (list_sort_tree hL0 hI (by omega) fun out ms a1 a2 a3=>⟨_,rfl,?_⟩) (args_list_sort _)))
 obtain ⟨c,hc'⟩:=sortedHeap_at (out:=out) hL0
 have hz2:(ms.map V.int).length≤sizeLine:=by rw [List.length_map,a2.length_eq,pz.length_eq];exact Nat.le_trans hl (by decide)
 refine wpAny_pure ⟨_,rfl,.ref h'.objs.size,_,I1.laid (t':=tk) (fun b o e=>?_) (Nat.le_refl _) (show aX X.prog X.w _ _ _ (.lst (ms.map V.int)) from ⟨hz2,out.toList,c,cZ a1,by simpa using hc'⟩),rfl,k ms _ (a2.trans pz) a3 (I1.hok.fresh (Nat.le_refl _))⟩
 have lt:=Heap.lt_size e
 rw [sortedHeap_old (Nat.ne_of_lt lt) (by rw [size_push'];exact Nat.lt_succ_of_lt lt)]
 exact Heap.get?_push_of_some _ e
section
variable {X:Cx} {e:Expr} {f:Dm.FE} {p p0 pos lF:Pos}
theorem ye {w:World} {σ:L2.St} {H:Hp} {Q:VK} (h:tD (Dm.e1 Dm.d8 f) σ H Q):tCB (AQ w) (dg (tCB (E9 w) (dg (tD f) gD)) gD) σ H Q:=by
 obtain ⟨H0,ρ,x,ρ',st,e,k⟩:=h
 unfold Dm.e1 at e
 split at e
 ·cases e
 rename_i x1 ρ1 e1
 split at e
 ·cases e
 rename_i dx p1
 split at e
 ·cases e
 rename_i z gz
 cases e
 unfold Dm.d8 at gz
 split at gz
 ·rename_i ds
  split at gz
  ·rename_i ns en
   split at gz
   ·rename_i hb
    cases gz
    refine ⟨H0,ρ,x1,_,st,e1,fun v H1 Hb t1 r1=>?_⟩
    obtain ⟨a,xs,rfl,qa,ra⟩:=dX t1.st.same (r1.look t1.st p1)
    have ex:=lG ra en
    subst ex
    refine ⟨a,ns,rfl,qa,hb,fun l hl=>⟨l,Dm.dedup ns,rfl,au,by omega,fun ms p pm so hp=>?_⟩⟩
    have em:ms=Dm.cG (fun a b=>decide (a<b)) (Dm.dedup ns):=Dm.dN (lt:=fun a b=>decide (a<b)) (fun a b h1 h2=>by simp at h1 h2;omega) (pm.trans (Dm.cg _ _).symm) (so.imp fun {a b} h=>by simp;omega)
     (Dm.cV (fun a b c h1 h2=>by simp at *;omega) (fun a b h=>by simp at *;omega) _)
    subst em
    have g1:=aD.iX (o:=.ext fun h=>Sx.lY w h l (Dm.dedup ns)) t1.st.same hl
    have t2:=t1.trans (.grow t1.st g1)
    have g2:=aD.iX (o:=.lst ((Dm.cG (fun a b=>decide (a<b)) (Dm.dedup ns)).map V.int)) t2.st.same hp
    have t3:=t2.trans (.grow t2.st g2)
    refine k _ _ _ t3 ⟨p,rfl,t2.stp.gone hp,t2.st.aZ hp,t2.st.same.free hp,_,au,?_⟩
    exact jI _
   ·cases gz
  ·cases gz
 ·cases gz
theorem yf (hc:X.calm=true) (hgl:Gl X "sorted") (hml:X.mg "sorted" = none) (hg:Gl X "set") (hm:X.mg "set" = none) (h:DE X e f) (hs:starEach [e] X.env=[(false,eval e X.env)]:=by rfl)
  (hs0:starEach [.Call (.Name "set" p) [e] [] pos] X.env=[(false,eval (.Call (.Name "set" p) [e] [] pos) X.env)]:=by rfl) (hpl:(backTo pos (starEach [] X.env)).any (·.1)=false:=by rfl) (Hi:(backTo lF (starEach [] X.env)).any (·.1)=false:=by rfl) :
  DE X (.Call (.Name "sorted" p0) [.Call (.Name "set" p) [e] [] pos] [] lF) (Dm.e1 Dm.d8 f):=
 PE.weak (iQ (ur hc) hgl hml boot_sorted (bW (jz (yd hc) hg hm (by rfl) (bW h cJ hs) (he:=hs) (hpl:=hpl)) cJ hs0) (he:=hs0) (hpl:=Hi)) fun _ _ _=>ye
end
section
variable {X:Cx} {pins:List (Addr×Obj)} {σ:L2.St} {H:Hp} {s:Shared} {a:Addr} {kvs:List (Key×V)} {k:Key} {u:Value} {A:Around} {E:Value→Shared→Prop}
end
theorem aH.snoc {H0 H:Hp} {p:Addr} {xs:List V} {r:List Dm.Dat} (h1:H p=Option.some (.lst xs)) (h2:ay H0 xs r):∀ {ps:List Addr} {rs:List (List Dm.Dat)},aH H0 H ps rs→aH H0 H (ps++[p]) (rs++[r])
 | [],[],_=>⟨⟨xs,h1,h2⟩,trivial⟩
 | _::_,_::_,h=>⟨h.1,aH.snoc h1 h2 h.2⟩
section
variable {j:Nat} {σs:L2.St} {ρs:Dm.Env} {H0s Hs:Hp} {σ:L2.St} {ρ ρ':Dm.Env} {H0 H H0' H':Hp} {ks:List Int} {rows:List (List Dm.Dat)}
end
section
variable {D:Ends} {σ:L2.St} {H:Hp} {j kx vx:Nat}
end
section
variable {X:Cx} {rest:List Stmt} {j kx vx:Nat} {pos:Pos}
end
section
variable {X:Cx} {tg:Expr} {x:Str} {px ap cp:Pos} {j:Nat}
end
end Br
namespace Sx
open PySem PySem.SetTable
section
variable {prog:Program} {w:World} {A:Around} {E:Value→Shared→Prop} {s:Shared} {ks:List Int} {a:Addr}
end
section
variable {prog:Program} {w:World} {A:Around} {E:Value→Shared→Prop} {s:Shared} {ks:List Int} {a b:Addr} {es:Array (Int×Value)} {ep:Nat} {t:SetTable}
end
section
variable {prog:Program} {w:World} {A:Around} {E:Value→Shared→Prop} {s:Shared} {ks:List Int} {a b:Addr} {P:List (List Int×Addr)}
end
open PySem PySem.SetTable PySem.W PyProof.Rows
section
variable {prog:Program} {w:World} {A:Around} {E:Value→Shared→Prop} {s:Shared}
end
end Sx
namespace Br
open PySem PySem.Spec PyProof.Rows L2
end Br
namespace Dm
end Dm
namespace Br
open PySem PySem.Spec PyProof.Rows L2
section
variable {X:Cx} {e:Expr} {f:Dm.FE} {p p0 pos lF:Pos}
end
end Br
namespace Dm
end Dm
namespace Br
open PySem PySem.Spec PyProof.Rows L2
section
variable {X:Cx} {pos p2:Pos} {e:Expr} {f:Dm.FE}
end
section
variable {X:Cx} {pos p2:Pos} {e:Expr} {f:Dm.FE}
end
section
variable {X:Cx} {nm:List Str} {elt tg iter:Expr} {ifs:List Expr} {scope:Scope} {pos:Pos} {own:List Str} {wi:TI} {g:TG} {tt:TT} {te:TE}
end
section
variable {X:Cx} {elt:Expr} {ifs:List Expr} {scope:Scope} {pos px py:Pos} {t:Dm.FT} {f:Dm.FE} {x:Str}
end
end Br
namespace Dm
end Dm
namespace Br
open PySem PySem.Spec PyProof.Rows L2
section
variable {X:Cx} {pos:Pos}
end
end Br
namespace Dm
end Dm
namespace Br
open PySem PySem.Spec PyProof.Rows L2
section
variable {X:Cx} {e:Expr} {f:Dm.FE}
end
open PySem L2
structure bS (K:PySem.W.Frag) (x:Str) (st:Stmt) (a:Addr) (fd:FuncData):Prop where
 e:PySem.W.nsIn K mainGlobals x=some (some (.ref a))
 F:Fun K x x st a fd
variable {K:PySem.W.Frag} {x:Str} {st:Stmt} {a:Addr} {fd:FuncData} {hp:Heap} {mg:Str→Option Value}
theorem aN {oc:Value} {od an:Option Addr} {osl:Array (Option Value)} {kV doc pm cdv ct:Value} (e:PySem.W.nsIn K mainGlobals x=some (some (.ref a)))
  (l:K.lookup a=some ⟨oc,od,.func (PySem.W.fnOf x x (aI st) (aG st) (ai st) .none kV doc pm an cdv ct),osl⟩) (c:PySem.W.codeIn K cdv x=true) (k:PySem.W.keepIn K (.ref a)=true) :
  bS K x st a (PySem.W.fnOf x x (aI st) (aG st) (ai st) .none kV doc pm an cdv ct):=⟨e,GC l c k⟩
theorem mgo {v:Value} (X:K.In hp) (G:hp.Ns mainGlobals mg) (e:PySem.W.nsIn K mainGlobals x=some (some v)):mg x=some v:=PySem.W.mg_of X G e
theorem mno (X:K.In hp) (G:hp.Ns mainGlobals mg) (e:PySem.W.nsIn K mainGlobals x=some none):mg x=none:=PySem.W.mg_none_of X G e
theorem bS.m (h:bS K x st a fd) (X:K.In hp) (G:hp.Ns mainGlobals mg):mg x=some (.ref a):=PySem.W.mg_of X G h.e
theorem bS.L0 {y:Str} (h:bS K x st a fd) (hb:∀ (kV doc pm:Value) (an:Option Addr) (cdv ct v:Value),bindArgs (PySem.W.fnOf x x (aI st) (aG st) (ai st) .none kV doc pm an cdv ct) ⟨[v],[]⟩=pure [(y,v)]) (s:Shared) (v:Value):BindsTo s fd ⟨[v],[]⟩ [(y,v)]:=by
 obtain ⟨oc,od,kV,doc,pm,an,cdv,ct,osl,rfl,lk,hcd⟩:=h.F.ex
 exact .of_eq (hb kV doc pm an cdv ct v)
theorem hm {j k:Nat} {A:Around} (r:aU k A) (h:j≤k:=by decide):aU j A:=r.mono h
theorem fsc {N P:List Str} {sc:Scope} (h1:sc.kind=.function) (h2:sc.isCoroutine=false) (h3:sc.isGenerator=false) (h4:N.take P.length=P) (h:N.Nodup∧(∀ x∈P,sc.names.lookup x=some .local∨sc.names.lookup x=some .cell)∧∀ y∈sc.names,y.2≠.free):aE N P sc:=⟨h1,h2,h3,h.1,h4,h.2.1,h.2.2⟩
end Br
namespace Dm
end Dm
namespace Br
open PySem PySem.Spec PyProof.Rows L2
section
variable {X:Cx} {C:Addr} {E:L2.St→XK} {R S:Dm.Env→Option Dm.Env} {sts rest:List Stmt} {st:Stmt}
end
section
variable {X:Cx} {pins pn:List (Addr×Obj)} {σ:L2.St} {H:Hp} {s:Shared} {xe:Value→Shared→Prop}
end
section
variable {X:Cx} {C:Addr} {E:L2.St→XK} {k:Nat} {F:Addr} {fd:FuncData} {ps:List Str} {x:Str} {p pos:Pos} {e:Expr} {es:List Expr} {fs:List Dm.FE} {bad:List Dm.Dat→Bool} {c:Int} {tk:Tok}
end
section
variable {X:Cx} {C:Nat} {b:Bool} {cs:List Nat} {bs:List Bool} {e:Expr} {f:Dm.FE}
end
end Br
namespace Sx
open PySem PySem.SetTable PySem.W PyProof.Rows
section
variable {prog:Program} {w:World} {A:Around} {E:Value→Shared→Prop} {s:Shared}
end
end Sx
namespace Dm
end Dm
namespace Br
open PySem PySem.Spec PyProof.Rows L2
section
variable {X:Cx} {e:Expr} {f:Dm.FE} {p p0 pos lF:Pos}
end
end Br
namespace Dm
end Dm
namespace Br
open PySem PySem.Spec PyProof.Rows L2
section
variable {X:Cx} {rest:List Stmt} {pos:Pos}
end
end Br
namespace Dm
end Dm
namespace Br
open PySem PySem.Spec PyProof.Rows L2
section
variable {prog:Program} {w:World} {A:Around} {E:Value→Shared→Prop}
end
section
variable {X:Cx} {pos:Pos}
end
end Br
namespace Dm
end Dm
namespace Br
open PySem PySem.Spec PyProof.Rows L2
section
variable {X:Cx} {e:Expr} {fs:List Dm.FE} {p pos:Pos} {k:Nat}
end
end Br
namespace Dm
end Dm
namespace Br
open PySem PySem.Spec PyProof.Rows L2
section
variable {X:Cx}
end
section
variable {X:Cx} {e:Expr} {fs:List Dm.FE} {p pos:Pos}
end
end Br
namespace Dm
end Dm
namespace Br
open PySem PySem.Spec PyProof.Rows L2
section
variable {prog:Program} {w:World} {A:Around} {E:Value→Shared→Prop} {s:Shared}
end
section
variable {prog:Program} {w:World} {A:Around} {s:Shared}
end
section
variable {X:Cx}
end
section
variable {X:Cx} {e:Expr} {fs:List Dm.FE} {p pos:Pos} {k:Nat}
end
section
variable {X:Cx} {a b c d:Expr} {ta tb tc td:TE} {fa fb fc fd:Dm.FE} {pos:Pos}
end
end Br
namespace Dm
noncomputable def nEs (bd:FB) (u:FE):List Dat→Env→Option Env
 | [],ρ=>some ρ
 | d::q,ρ=>match bd d ρ with
  | none=>none
  | some ρ1=>match u ρ1 with
   | none=>none
   | some (_,ρ2)=>nEs bd u q ρ2
noncomputable def yg (j i:Nat) (e:FE) (bd:FB) (u:FE):FN:=fun ρ r=>if i=0∨i=j then none else match e ρ with
 | some (.new (.lst ds),ρ1)=>(match nEs bd u ds (ρ1.set i .un) with
  | none=>none
  | some ρ2=>if r.length<SZ then some (ρ2,r++[ds]) else none)
 | _=>none
noncomputable def oE (j:Nat) (loop:FN):FSP:=fun ρ=>if j=0 then none else match loop (ρ.set j .un) [] with
 | none=>none
 | some (_,r)=>some (.l (r.map fun row=>.l (row.map .s)))
inductive PT where
 | e (f:FE)
 | x (z:Nat)
noncomputable def jm (j:Nat) (ρ:Env) (p:Dp):Nat→List PT→Option (List Dp)
 | _,[]=>some []
 | lo,.e f::r=>(match f (see j ρ p) with
  | some (.val d,_)=>if dJ d then none else (match jm j ρ p lo r with
   | none=>none
   | some ps=>some (.s d::ps))
  | _=>none)
 | lo,.x z::r=>(match p with
  | .t xs=>if lo≤z then (match xs[z]? with
   | none=>none
   | some x=>(match jm j ρ p (z+1) r with
    | none=>none
    | some ps=>some (x::ps))) else none
  | _=>none)
noncomputable def l5 (j:Nat) (f:List Dat→Option Dp) (as:List FE) (ts:List PT):FSP:=fun ρ=>if j=0 then none else match eAs as ρ with
 | none=>none
 | some (xs,ρ1)=>match tks ρ1 xs with
  | none=>none
  | some (ds,ρ2)=>match f ds with
   | some (.t xs)=>(match jm j (ρ2.set j .un) (.t xs) 0 ts with
    | none=>none
    | some ps=>if ps.length≤SZ then some (.t ps) else none)
   | _=>none
noncomputable def DJ:Dp→Option (List Dat)
 | .l xs=>xs.foldr (fun x a=>match x,a with
  | .s d,some ds=>some (d::ds)
  | _,_=>none) (some [])
 | _=>none
noncomputable def oF:List Dp→Option (List (List Dat))
 | []=>some []
 | x::r=>match DJ x,oF r with
  | some a,some b=>some (a::b)
  | _,_=>none
noncomputable def j8 (j z i:Nat) (c:Int):FC:=fun ρ p=>if i=0∨i=j then none else match p with
 | .t xs=>(match xs[z]? with
  | some (.l rows)=>(match oF rows with
   | some rs=>if rs.all (fun r=>decide (r.length<SZ)) then some (.nx (ρ.set i .un) (.t (xs.set z (.l (rs.map fun r=>.l ((r++[.int c]).map .s)))))) else none
   | none=>none)
  | _=>none)
 | _=>none
end Dm
namespace Br
open PySem PySem.Spec PyProof.Rows L2
section
variable {D:Ends} {σ:L2.St} {H:Hp} {j:Nat}
theorem HN {K:PySem.W.Frag} {i:Nat} {f u:Dm.FE} {bd:Dm.FB} {g:TG} {is:List Nat} (hb:BD is g bd) (hj:j∉is) (hi:i∉is) (hil:i<σ.length) (h:tDN j (Dm.yg j i f bd u) D σ H) :
  gC (iN (tD f) (cE i)) (gC (yY (kX K (fB i)) g (iM (tD u))) (iM (tBM K "list" iR (fB j) (dg (fB i) gD)))) D σ H:=by
 obtain ⟨σs,ρs,H0s,Hs,H0,ρ,rows,ρ',rows',n,e,k⟩:=h
 unfold Dm.yg at e
 split at e
 ·cases e
 rename_i hij
 have hi0:i≠0:=fun z=>hij (.inl z)
 have hnj:i≠j:=fun z=>hij (.inr z)
 split at e
 case h_2=>cases e
 rename_i ds ρ1 e1
 split at e
 ·cases e
 rename_i ρ2 e2
 split at e
 case isFalse=>cases e
 rename_i hz
 cases e
 refine ⟨H0,ρ,_,ρ1,n.st,e1,fun v H0' H' t r=>?_⟩
 obtain ⟨a,ea,na,no,n0,xs,ha,rs⟩:=r
 subst ea
 have m:=n.est t
 obtain ⟨L,ps,y1,y2,y3,y4,y5,y6,y7,y8⟩:=n.ex
 obtain ⟨k1,k2,k3⟩:=t.bO y5 y3 y4
 obtain ⟨s1,s2⟩:=m.st.lR i (some (.ref a))
 have n1:=m.bind s1 s2 (List.getElem?_set_ne hnj) (List.getElem?_set_ne hi0)
 have nLa:L≠a:=fun z=>by rw [z,na] at y5;cases y5
 have nPa:a∉ps:=fun hp=>by
  obtain ⟨o,q⟩:=y8.some a hp
  rw [na] at q;cases q
 have hsa:Hs a=none:=n.stp.gone na
 refine ⟨_,List.getElem?_set_self hil,a,rfl,⟨xs,.inl (.inl ha)⟩,?_⟩
 have jw:=qU (K:=K) (a:=a) rs
 refine ⟨fun q m σ' H1=>∃ H0c ρc,NS j σs ρs H0s Hs σ' ρc H0c H1 rows∧aj H0' H0c∧m=ds.length-q∧q≤ds.length∧Dm.nEs bd u (ds.drop q) ρc=some ρ'∧(H1 a=some (.lst xs)∧H0c a=none∧¬ af σ' ρc a)∧σ'[i]?=some (some (.ref a))∧σ'[j]?=some (some (.ref L))∧(H1 L=some (.lst (ps.map V.ref))∧H0c L=none∧¬ af σ' ρc L),
  ⟨ds.length,H0',ρ1.set i .un,n1,aj.refl _,by simp,Nat.zero_le _,by simpa using e2,⟨ha,n0,fun z=>no (s2 a z)⟩,List.getElem?_set_self hil,(List.getElem?_set_ne hnj).trans y1,⟨k1,k2,fun z=>k3 (s2 L z)⟩⟩,?_⟩
 rintro q m' σ' H1 ⟨H0c,ρc,nc,s0c,rfl,hq,ec,fa,hsi,hsj,fL⟩
 obtain ⟨js,jg⟩:=jw H0c H1 s0c nc.st.same fun z ez=>by cases ez;exact fa.1
 by_cases hlt:q<ds.length
 ·have hd:ds[q]?=some ds[q]:=by simp [hlt]
  obtain ⟨g1,g2⟩:=jg q ds[q] hd
  rw [List.drop_eq_getElem_cons hlt] at ec
  unfold Dm.nEs at ec
  refine .inr ⟨g1,fun σ' H1=>∃ H0c ρc,NS j σs ρs H0s Hs σ' ρc H0c H1 rows∧aj H0' H0c∧Dm.nEs bd u (ds.drop (q+1)) ρc=some ρ'∧(H1 a=some (.lst xs)∧H0c a=none∧¬ af σ' ρc a)∧σ'[i]?=some (some (.ref a))∧σ'[j]?=some (some (.ref L))∧(H1 L=some (.lst (ps.map V.ref))∧H0c L=none∧¬ af σ' ρc L),?_,fun x H2 y=>?_⟩
  ·rintro σ2 H2 ⟨H0d,ρd,h1,h2,h3,h4⟩
   exact ⟨ds.length-(q+1),by omega,H0d,ρd,h1,h2,rfl,hlt,h3,h4⟩
  ·obtain ⟨H0d,gr,rx⟩:=g2 x H2 y
   split at ec
   ·cases ec
   rename_i ρ3 e3
   split at ec
   ·cases ec
   rename_i w ρ4 e4
   have t2:=ESt.grow nc.st gr
   refine hb H0d H2 σ' ρc ρ3 x ds[q] _ t2.st rx e3 fun σ3 st3 o3 kk3 d3 f3=>?_
   have n3:=(nc.est t2).bind st3 o3 (kk3 j hj) f3
   refine ⟨H0d,ρ3,w,ρ4,st3,e4,fun v4 H04 H4 t4 _=>?_⟩
   obtain ⟨p1,p2,p3⟩:=t2.bO fa.1 fa.2.1 fa.2.2
   obtain ⟨q1,q2,q3⟩:=t4.bO p1 p2 fun z=>p3 (o3 a z)
   obtain ⟨u1,u2,u3⟩:=t2.bO fL.1 fL.2.1 fL.2.2
   obtain ⟨w1,w2,w3⟩:=t4.bO u1 u2 fun z=>u3 (o3 L z)
   exact ⟨H04,ρ4,n3.est t4,(s0c.trans gr.s0).trans t4.stp.s0,ec,⟨q1,q2,q3⟩,(kk3 i hi).trans hsi,(kk3 j hj).trans hsj,⟨w1,w2,w3⟩⟩
 ·have e':q=ds.length:=by omega
  subst e'
  rw [List.drop_length] at ec
  cases ec
  refine .inl ⟨js _ (Nat.le_refl _),_,hsj,.inl ⟨rfl,ps.map V.ref,.inl (.inl fL.1)⟩,_,hsi,L,ps.map V.ref,.ref a,rfl,rfl,fL.1,?_,?_⟩
  ·rw [List.length_map,y8.len];exact Nat.lt_of_lt_of_le hz (by decide)
  ·obtain ⟨L',ps',v1,v2,v3,v4,v5,v6,v7,v8⟩:=nc.ex
   rw [hsj] at v1
   cases v1
   have ep:ps'=ps:=by
    rw [fL.1] at v5
    have:ps.map V.ref=ps'.map V.ref:=by injection v5 with z;injection z
    exact ((List.map_inj_right fun a b h=>by injection h).mp this).symm
   subst ep
   obtain ⟨nd1,nd2⟩:=List.nodup_cons.mp v6
   refine k σ' H0c _ ⟨nc.st.aside fL.2.1 fL.2.2,nc.stp.aside v2,nc.own,nc.fx,L,ps'++[a],hsj,v2,v3,v4,by rw [au,List.map_append];rfl,?_,fun p hp=>?_,?_⟩ (t.stp.s0.trans s0c)
   ·refine List.nodup_cons.mpr ⟨fun z=>?_,List.nodup_append.mpr ⟨nd2,by simp,fun b hb c hc z=>?_⟩⟩
    ·rcases List.mem_append.mp z with z | z
     ·exact nd1 z
     ·exact nLa (List.mem_singleton.mp z)
    ·rw [List.mem_singleton.mp hc] at z
     exact nPa (z▸hb)
   ·rcases List.mem_append.mp hp with hp | hp
    ·exact v7 p hp
    ·rw [List.mem_singleton.mp hp]
     exact ⟨hsa,fa.2⟩
   ·refine aH.snoc (xs:=xs) (by rw [aq (Ne.symm nLa)];exact fa.1) (rs.mono s0c) (v8.mono (aj.refl _) fun p hp=>?_)
    exact aq fun z=>nd1 (z▸hp)
theorem DK {loop:Dm.FN} (hj:j<σ.length) (h:tDP (Dm.oE j loop) D σ H):gC (iN (zd gD) (cE j)) (gC (tDN j loop) (yN (fB j))) D σ H:=by
 obtain ⟨H0,ρ,p,st,e,k⟩:=h
 unfold Dm.oE at e
 split at e
 ·cases e
 rename_i hj0
 split at e
 ·cases e
 rename_i ρ3 r3 e3
 cases e
 refine ⟨Nat.zero_le _,fun L hL=>?_⟩
 have gr:aD H0 H H0 (upd H L (.lst [])):=aD.iX st.same hL
 have t1:=ESt.grow st gr
 obtain ⟨st2,om⟩:=t1.st.lR j (some (.ref L))
 have nL:¬ af σ ρ L:=st.aZ hL
 have n:NS j σ ρ H0 H (σ.set j (some (.ref L))) (ρ.set j .un) H0 (upd H L (.lst [])) []:=
  ⟨st2,t1.stp,fun a z=>.inl (om a z),List.getElem?_set_ne hj0,L,[],List.getElem?_set_self hj,hL,st.same.free hL,fun z=>nL (om L z),au,by simp,fun p hp=>(by cases hp),trivial⟩
 refine ⟨σ,ρ,H0,H,H0,_,_,ρ3,r3,n,e3,fun σ4 H4 Hd n4 _=>?_⟩
 obtain ⟨L4,ps4,w1,w2,w3,w4,w5,w6,w7,w8⟩:=n4.ex
 refine ⟨_,w1,k σ4 ρ3 _ H4 Hd (L4::ps4) ⟨n4.st,n4.stp,n4.own,n4.fx⟩ (.l (.inl w2) w5 (w8.Kg fun p hp=>.inl (w7 p hp).1)) w6 fun a ha=>?_⟩
 rcases List.mem_cons.mp ha with rfl | ha
 ·exact w3
 ·exact (w7 a ha).2.1
end
theorem aC.AR {N:Addr→Prop} {H0 H:Hp}:∀ {vs:List V} {ps:List Dm.Dp} {fp:List Addr} {i:Nat} {p:Dm.Dp},aC N H0 H vs ps fp→ps[i]?=some p→∃ v f g,vs[i]?=some v∧bG N H0 H v p f∧aC N H0 H (vs.drop (i+1)) (ps.drop (i+1)) g∧(f++g).Sublist fp
 | _,_,_,_,_,.nil,e=>by simp at e
 | _,_,_,0,_,.cons h r,e=>by simp at e;subst e;exact ⟨_,_,_,rfl,h,r,List.Sublist.refl _⟩
 | _,_,_,i+1,_,.cons _ r,e=>by
  obtain ⟨v,f,g,h1,h2,h3,h4⟩:=aC.AR (i:=i) r (by simpa using e)
  exact ⟨v,f,g,by simpa using h1,h2,h3,h4.trans (List.sublist_append_right _ _)⟩
noncomputable def L1 (N:Addr→Prop) (H0 H:Hp) (σ:L2.St) (j:Nat) (p:Dm.Dp) (lo:Nat) (vs:List V) (ps:List Dm.Dp):Prop:=
 ∀ A us xs fp,p=.t xs→σ[j]?=some (some (.ref A))→H A=some (.tup us)→aC N H0 H (us.drop lo) (xs.drop lo) fp→∃ fq,aC N H0 H vs ps fq∧fq.Sublist fp
noncomputable def tPt (j lo:Nat) (ts:List Dm.PT):TA:=fun σ H Q=>∃ σs ρs H0s Hs H0 ρ p ps,MS j σs ρs H0s Hs σ ρ H0 H p∧Dm.jm j ρ p lo ts=some ps∧∀ vs H',aD H0 H H0 H'→L1 (fun a=>Hs a=none) H0 H' σ j p lo vs ps→Q vs H'
section
variable {D:Ends} {σ:L2.St} {H:Hp} {j lo:Nat} {Q:List V→Hp→Prop}
theorem Km (h:tPt j lo [] σ H Q):gD σ H Q:=by
 obtain ⟨σs,ρs,H0s,Hs,H0,ρ,p,ps,n,e,k⟩:=h
 unfold Dm.jm at e
 cases e
 exact k [] H (aD.refl n.st.same) fun A us xs fp _ _ _ _=>⟨[],.nil,List.nil_sublist _⟩
theorem Kn {f:Dm.FE} {ts:List Dm.PT} (h:tPt j lo (.e f::ts) σ H Q):dg (tD f) (tPt j lo ts) σ H Q:=by
 obtain ⟨σs,ρs,H0s,Hs,H0,ρ,p,ps,n,e,k⟩:=h
 unfold Dm.jm at e
 split at e
 case h_2=>cases e
 rename_i d ρ1 e1
 split at e
 ·cases e
 rename_i nb
 split at e
 ·cases e
 rename_i ps' e2
 cases e
 refine ⟨_,_,_,ρ1,n.see,e1,fun v H1 Hb t1 r1=>?_⟩
 have g1:=n.seen t1
 have rp:Rep H0 v d:=Rep.plain r1 (by simpa using nb)
 exact ⟨σs,ρs,H0s,Hs,H0,ρ,p,ps',n.grow g1,e2,fun vs H' g ok=>k (v::vs) H' (g1.trans g) fun A us xs fp h1 h2 h3 h4=>by
  obtain ⟨fq,q1,q2⟩:=ok A us xs fp h1 h2 h3 h4
  exact ⟨[]++fq,.cons (.s rp) q1,q2⟩⟩
theorem Ko {K:PySem.W.Frag} {z:Nat} {c:Int} (hc:c=(z:Int)) {ts:List Dm.PT} (h:tPt j lo (.x z::ts) σ H Q):dg (tOp (zg K) (fB j) (tC (.int c))) (tPt j (z+1) ts) σ H Q:=by
 subst hc
 obtain ⟨σs,ρs,H0s,Hs,H0,ρ,p,ps,n,e,k⟩:=h
 unfold Dm.jm at e
 split at e
 case h_2=>cases e
 rename_i xs
 split at e
 case isFalse=>cases e
 rename_i hlo
 split at e
 ·cases e
 rename_i x hx
 split at e
 ·cases e
 rename_i ps' e2
 cases e
 obtain ⟨v,fp,h1,h2,h3⟩:=n.ex
 cases h2 with
 | t hN ha rs=>
  rename_i A us
  obtain ⟨u,f,hu,ru,hf⟩:=rs.get hx
  have hlt:z<us.length:=(List.getElem?_eq_some_iff.mp hu).1
  refine ⟨_,h1,A,us,(z:Int),u,rfl,rfl,.of ha,?_,σs,ρs,H0s,Hs,H0,ρ,.t xs,ps',n,e2,fun vs H' g ok=>k (u::vs) H' g fun A' us' xs' fp' q1 q2 q3 q4=>?_⟩
  ·show (L2.ixN us.length (z:Int)).bind (fun j=>us[j]?)=_
   rw [← pH]
   have:Dm.ixN us.length (z:Int)=some z:=by
    unfold Dm.ixN
    rw [if_pos (by omega),if_pos (by omega)]
    rfl
   rw [this]
   exact hu
  ·cases q1
   rw [h1] at q2
   cases q2
   have:=g.s1 _ _ ha
   rw [q3] at this
   cases this
   have hx':(xs.drop lo)[z-lo]?=some x:=by rw [List.getElem?_drop];rw [show lo+(z-lo)=z from by omega];exact hx
   obtain ⟨v2,f2,g2,w1,w2,w3,w4⟩:=q4.AR hx'
   rw [List.getElem?_drop,show lo+(z-lo)=z from by omega,hu] at w1
   cases w1
   rw [List.drop_drop,List.drop_drop,show lo+(z-lo+1)=z+1 from by omega] at w3
   obtain ⟨fq,y1,y2⟩:=ok A us xs g2 rfl h1 q3 w3
   exact ⟨f2++fq,.cons w2 y1,(y2.append_left f2).trans w4⟩
theorem DL {f:List Dm.Dat→Option Dm.Dp} {fs:List Dm.FE} {ts:List Dm.PT} {E:XK} (hj:j<σ.length) (h:tDP (Dm.l5 j f fs ts) D σ H):gC (iN (fD (spP f) [] E (tDA fs)) (cE j)) (yN (CA (tPt j 0 ts))) D σ H:=by
 obtain ⟨H0,ρ,o,st,e,k⟩:=h
 unfold Dm.l5 at e
 split at e
 ·cases e
 rename_i hj0
 split at e
 ·cases e
 rename_i xs ρ1 e1
 split at e
 ·cases e
 rename_i ds ρ2 e2
 split at e
 case h_2=>cases e
 rename_i ys ep
 split at e
 ·cases e
 rename_i ps e3
 split at e
 case isFalse=>cases e
 rename_i hz
 cases e
 refine ⟨H0,ρ,xs,ρ1,st,e1,fun vs H1 Hb t1 r1=>?_⟩
 dsimp only
 rw [List.append_nil]
 obtain ⟨H2,t2,b2,r2⟩:=takes t1 (aj.refl _) r1 e2
 refine ⟨H2,ds,.t ys,t2.st.same,r2,ep,fun v H3 Hd fp g3 r3 nd n3=>?_⟩
 have t3:=t2.trans (.grow t2.st g3)
 obtain ⟨s1,s2⟩:=t3.st.lR j (some v)
 have n:MS j σ ρ H0 H (σ.set j (some v)) (ρ2.set j .un) H3 Hd (.t ys):=⟨s1,t3.stp,fun a z=>.inl (t3.own a (s2 a z)),List.getElem?_set_ne hj0,v,fp,List.getElem?_set_self hj,r3.mono (aj.refl _) (fun a n=>t2.stp.gone n) (fun _ _ _ h=>h) fun _ _=>rfl,nd,fun a ha=>⟨n3 a ha,fun z=>t2.st.aZ (r3.fpN a ha).1 (s2 a z)⟩⟩
 refine ⟨σ,ρ,H0,H,H3,_,.t ys,ps,n,e3,fun vs H' g ok=>?_⟩
 have n1:=n.grow g
 obtain ⟨v',fp',h1,h2,h3⟩:=n1.ex
 cases h2 with
 | t hN ha rs=>
  rename_i A us
  obtain ⟨fq,q1,q2⟩:=ok A us ys fp' rfl h1 ha (by simpa using rs)
  refine ⟨by rw [q1.length];exact Nat.le_trans hz (by decide),fun T hT=>?_⟩
  have n2:=n1.grow (aD.iX (o:=.tup vs) n1.st.same hT)
  have neT:∀ {a:Addr} {o:HO},H' a=some o→a≠T:=fun {a o} q z=>by rw [z,hT] at q;cases q
  refine k _ _ _ _ _ fq n2.sst (.t (.inl (n1.stp.gone hT)) au (q1.mono (aj.refl _) (fun a z=>.inl z) (fun a us' _ q=>by rw [aq (neT q)];exact q) fun a ha=>?_)) (h3.1.sublist q2) fun a ha=>(h3.2 a (q2.subset ha)).1
  obtain ⟨_,zs,hz'⟩:=q1.fpN a ha
  exact aq (neT hz')
end
section
variable {X:Cx} {e:Expr} {es:List Expr} {f:Dm.FE} {ts:List Dm.PT} {pos:Pos} {j lo:Nat}
theorem L3:PA X [] (tPt j lo []):=PA.weak cJ fun _ _ _=>Km
theorem L5 (he:DE X e f) (r:PA X es (tPt j lo ts)) (hs:starEach (e::es) X.env=(false,eval e X.env)::starEach es X.env:=by rfl):PA X (e::es) (tPt j lo (.e f::ts)):=PA.weak (bW he r hs) fun _ _ _=>Kn
theorem Kp (z:Nat) {c:Int} {x:Str} {px ip:Pos} {jc} (r:PA X es (tPt j (z+1) ts)) (hc:c=(z:Int):=by rfl) (hi:X.N[j]?=some x:=by rfl) (hv:Vis X.env.scope x:=by first | exact Or.inl rfl | exact Or.inr (Or.inl rfl) | exact Or.inr (Or.inr rfl)) (hd:(x == ("__debug__" : Str))=false:=by decide)
  (hcd:(x == ("__classdict__" : Str))=false:=by decide) (hpl:gk (.Constant (.int c) jc ip):=by intro _ _;rfl) (hs:starEach (.Subscript (.Name x px) (.Constant (.int c) jc ip) pos::es) X.env=(false,eval (.Subscript (.Name x px) (.Constant (.int c) jc ip) pos) X.env)::starEach es X.env:=by rfl) :
  PA X (.Subscript (.Name x px) (.Constant (.int c) jc ip) pos::es) (tPt j lo (.x z::ts)):=PA.weak (bW (qE o7 (bP hi hv hd hcd) kT hpl) r hs) fun _ _ _=>Ko hc
theorem HP (j:Nat) {k:Nat} {F:Addr} {fd:FuncData} {ps:List Str} {g:List Dm.Dat→Option Dm.Dp} {x y:Str} {as:List Dm.FE} {p pos' cpos rp tp:Pos} {es':List Expr} {x1} (hN:X.N.Nodup) (G:aR X.prog X.w X.K X.mg X.base CX0 k F fd ps (spP g)) (hr:aU k X.A) (hg:Gl X x) (hm:X.mg x=some (.ref F)) (hk:PySem.W.keepIn X.K (.ref F)=true) (hb:Binds X.K fd ps [])
  (ha:DA X (e::es) as) (ht:PA X es' (tPt j 0 ts)) (hi:X.N[j]?=some y:=by rfl) (hx:Loc X.env.scope y:=by first | exact Or.inl rfl | exact Or.inr rfl) (hs:swapsWith (.Call (.Name x p) (e::es) [] cpos) (some (.Name y pos')) pos.line X.env=pure false:=by rfl)
  (hf:X.fn y=true∨X.env.scope.names.lookup y=some .local:=by first | exact .inl rfl | exact .inr rfl | assumption) (hdb:(x == ("__debug__" : Str))=false:=by decide) (he:starEach (e::es) X.env=(false,eval e X.env)::starEach es X.env:=by rfl) (hpl:(backTo cpos (starEach es X.env)).any (·.1)=false:=by rfl) :
  DQs X [.Assign [.Name y pos'] (.Call (.Name x p) (e::es) [] cpos) pos,.Return (some (.Tuple es' x1 tp)) rp] (Dm.l5 j g as ts):=by
 have h:=bh (kW hN hi hx (cT G hr hg hm hk hb .nil (gH (X:=X)) ha hdb he hpl) hs hf) (dH (o5 (pos:=rp) (tw (pos:=tp) (x1:=x1) ht)))
 intro pins s σ H D I q
 exact h pins s σ H D I (DL (by rw [I.len];exact (List.getElem?_eq_some_iff.mp hi).1) q)
theorem L6 (j:Nat) (nm own:List Str) {tg iter elt:Expr} {ifs:List Expr} {scope:Scope} {is:List Nat} {bd:Dm.FB} {fi:Dm.FI} {t:Dm.FT} {y:Str} {py spos:Pos} (hN:X.N.Nodup) (hg:TGc X nm scope own tg is bd) (hi:DI X tg iter fi) (ht:∀ cl C s H fp,DTs (br X nm scope own cl C s H fp) ifs t) (he:∀ cl C s H fp,DE (br X nm scope own cl C s H fp) elt f)
  (hc:X.calm=true:=by rfl) (hk:scope.kind=.function:=by rfl) (hS:lE X.env.scope X.N nm scope=true:=by rfl) (hl:(is.all fun i=>decide (X.N.length≤i))=true:=by rfl) (hj:X.N[j]?=some y:=by rfl) (hy:Loc X.env.scope y:=by first | exact Or.inl rfl | exact Or.inr rfl)
  (hsw:swapsWith (.ListComp elt [⟨tg,iter,ifs,0⟩] scope pos) (some (.Name y py)) spos.line X.env=pure true:=by rfl) (hs:∀ x,foldedSetIterable iter X.env x=pure x:=by intro _;rfl)
  (hf:X.fn y=true∨X.env.scope.names.lookup y=some .local:=by first | exact .inl rfl | exact .inr rfl | assumption):PS X (.Assign [.Name y py] (.ListComp elt [⟨tg,iter,ifs,0⟩] scope pos) spos) (iN (tD (Dm.fF fi own.length bd t f)) (cE j)):=by
 obtain ⟨g,h1,h2⟩:=hg.ex
 intro pins s σ H D I h
 exact fN hN hj hy hc (di.of hS hk) hi h1 ht he hsw hs hf pins s σ H D I (tQ h2 (fun i hi=>by rw [I.len];exact qT hl i hi) h)
theorem Kq (i:Nat) {u:Dm.FE} {is:List Nat} {bd:Dm.FB} {A:Stmt} {tg b:Expr} {x y:Str} {py py2 ep Kr px ap cp:Pos} (hA:PS X A (iN (tD f) (cE i))) (hp:PassesOwn (model X.prog X.w) X.A X.env X.xe) (hc:X.calm=true) (hg:TG' X tg is bd) (hu:DE X b u)
  (hjs:decide (j∈is)=false:=by rfl) (his:decide (i∈is)=false:=by rfl) (hi:X.N[i]?=some y:=by rfl) (hj:X.N[j]?=some x:=by rfl) (hvy:Vis X.env.scope y:=by first | exact Or.inl rfl | exact Or.inr (Or.inl rfl) | exact Or.inr (Or.inr rfl)) (hvx:Vis X.env.scope x:=by first | exact Or.inl rfl | exact Or.inr (Or.inl rfl) | exact Or.inr (Or.inr rfl))
  (hdy:(y == ("__debug__" : Str))=false:=by decide) (hcy:(y == ("__classdict__" : Str))=false:=by decide) (hdx:(x == ("__debug__" : Str))=false:=by decide) (hcx:(x == ("__classdict__" : Str))=false:=by decide)
  (hs:∀ z,foldedSetIterable (.Name y py) X.env z=pure z:=by intro _;rfl) (hse:swapsWith b none ep.line X.env=pure false:=by rfl)
  (hbase:attributeBase (.Name x px) "append" X.env (eval (.Name x px) X.env)=eval (.Name x px) X.env:=by rfl)
  (hfew:((backTo cp (starEach [.Name y py2] X.env)).all (fun x=>!x.1)&&(backToKw cp (keywordEach [] X.env)).all (fun x=>x.1.isSome)
   && decide ([Expr.Name y py2].length+([]:List Keyword).length+(if ([]:List Keyword).isEmpty then 0 else 1)<30))=true:=by rfl)
  (hline:(ap.endLine == cp.line)=true:=by rfl) (hst:starEach [.Name y py2] X.env=(false,eval (.Name y py2) X.env)::starEach [] X.env:=by rfl) (hplain:(backTo cp (starEach [] X.env)).any (·.1)=false:=by rfl)
  (hsw:swapsWith (.Call (.Attribute (.Name x px) "append" ap) [.Name y py2] [] cp) none pos.line X.env=pure false:=by rfl) :
  DNs X j [A,.For tg (.Name y py) [.Expr b ep] [] Kr,.Expr (.Call (.Attribute (.Name x px) "append" ap) [.Name y py2] [] cp) pos] (Dm.yg j i f bd u):=by
 obtain ⟨g,h1,h2⟩:=hg.ex
 have h:=bh hA (bh (o6 hp hc (kI (bP (pos:=py) hi hvy hdy hcy)) h1 (dH (dI hu hse)) hs (pos:=Kr)) (dH (dI (nV PySem.F.plainAttrs_list PySem.F.slot_list_append PySem.F.type_list_append dQ (bP hj hvx hdx hcx) (bW (bP hi hvy hdy hcy) cJ hst) hbase hfew hline hst hplain) hsw)))
 intro pins s σ H D I q
 exact h pins s σ H D I (HN h2 (of_decide_eq_false hjs) (of_decide_eq_false his) (by rw [I.len];exact (List.getElem?_eq_some_iff.mp hi).1) q)
theorem HQ (j:Nat) {y:Str} {py spos t9 rp np:Pos} {loop:Dm.FN} {lst:Stmt} (hN:X.N.Nodup) (hlp:DN X j lst loop) (hj:X.N[j]?=some y:=by rfl) (hy:Loc X.env.scope y:=by first | exact Or.inl rfl | exact Or.inr rfl)
  (hs:swapsWith (.List [] t9) (some (.Name y py)) spos.line X.env=pure false:=by rfl)
  (hf:X.fn y=true∨X.env.scope.names.lookup y=some .local:=by first | exact .inl rfl | exact .inr rfl | assumption) (hv:Vis X.env.scope y:=by first | exact Or.inl rfl | exact Or.inr (Or.inl rfl) | exact Or.inr (Or.inr rfl)) (hd:(y == ("__debug__" : Str))=false:=by decide) (hcd:(y == ("__classdict__" : Str))=false:=by decide) :
  DQs X [.Assign [.Name y py] (.List [] t9) spos,lst,.Return (some (.Name y np)) rp] (Dm.oE j loop):=by
 have h:=bh (kW hN hj hy (tE (pos:=t9) cJ) hs hf) (bh hlp (dH (o5 (pos:=rp) (bP (pos:=np) hj hv hd hcd))))
 intro pins s σ H D I q
 exact h pins s σ H D I (DK (by rw [I.len];exact (List.getElem?_eq_some_iff.mp hj).1) q)
end
theorem DM {x:Dm.Dp} {r:List Dm.Dat} (h:Dm.DJ x=some r):x=.l (r.map .s):=by
 cases x with
 | s d=>cases h
 | t xs=>cases h
 | l xs=>
  have key:∀ (xs:List Dm.Dp) (r:List Dm.Dat),xs.foldr (fun x a=>match x,a with
    | Dm.Dp.s d,some ds=>some (d::ds)
    | _,_=>none) (some [])=some r→xs=r.map .s:=by
   intro xs
   induction xs with
   | nil=>intro r h;cases h;rfl
   | cons x q ih=>
    intro r h
    rw [List.foldr_cons] at h
    split at h
    ·rename_i d ds hd
     cases h
     rw [ih ds hd]
     rfl
    ·cases h
  rw [key xs r h]
theorem rF:∀ {xs:List Dm.Dp} {rs:List (List Dm.Dat)},Dm.oF xs=some rs→xs=rs.map fun r=>.l (r.map .s)
 | [],rs,h=>by cases h;rfl
 | x::q,rs,h=>by
  unfold Dm.oF at h
  split at h
  ·rename_i a b ha hb
   cases h
   rw [DM ha,rF hb]
   rfl
  ·cases h
noncomputable def grown (c:Int) (rs:List (List Dm.Dat)) (q:Nat):List Dm.Dp:=(rs.take q).map (fun r=>Dm.Dp.l ((r++[Dm.Dat.int c]).map Dm.Dp.s))++(rs.drop q).map (fun r=>Dm.Dp.l (r.map Dm.Dp.s))
theorem AS {c:Int} {rs:List (List Dm.Dat)} {q:Nat} (h:q<rs.length):(grown c rs q)[q]?=some (.l (rs[q].map .s)):=by
 unfold grown
 rw [List.getElem?_append_right (by simp;omega),List.length_map,List.length_take,Nat.min_eq_left (Nat.le_of_lt h),Nat.sub_self,List.drop_eq_getElem_cons h]
 rfl
theorem yh {c:Int} {rs:List (List Dm.Dat)} {q:Nat} (h:q<rs.length):(grown c rs q).set q (.l ((rs[q].map .s)++[.s (.int c)]))=grown c rs (q+1):=by
 unfold grown
 have l:((rs.take q).map (fun r=>Dm.Dp.l ((r++[Dm.Dat.int c]).map .s))).length=q:=by rw [List.length_map,List.length_take,Nat.min_eq_left (Nat.le_of_lt h)]
 rw [List.set_append_right _ _ (by rw [l];exact Nat.le_refl _),l,Nat.sub_self,List.drop_eq_getElem_cons h,List.take_succ_eq_append_getElem h,List.map_append,List.append_assoc,List.map_cons,List.set_cons_zero]
 have z:rs[q].map Dm.Dp.s++[Dm.Dp.s (Dm.Dat.int c)]=(rs[q]++[Dm.Dat.int c]).map Dm.Dp.s:=by rw [List.map_append];rfl
 rw [z]
 rfl
section
variable {D:Ends} {σ:L2.St} {H:Hp} {j:Nat}
theorem MS.put2 {σs:L2.St} {ρs:Dm.Env} {H0s Hs:Hp} {ρ:Dm.Env} {H0:Hp} {xs rows items:List Dm.Dp} {m0 m:Nat} (nx:MS j σs ρs H0s Hs σ ρ H0 H (.t xs)) (l6:xs[m0]?=some (.l rows)) (hi:rows[m]?=some (.l items)) :
  ∃ (A L q:Addr) (us vs ls:List V),σ[j]?=some (some (.ref A))∧H A=some (.tup us)∧us[m0]?=some (.ref L)∧H L=some (.lst vs)∧vs[m]?=some (.ref q)∧H q=some (.lst ls)∧ls.length=items.length∧L≠q∧A≠q ∧
   ∀ w d,Rep H0 w d→MS j σs ρs H0s Hs σ ρ H0 (upd H q (.lst (ls++[w]))) (.t (xs.set m0 (.l (rows.set m (.l (items++[.s d])))))):=by
 obtain ⟨v,fp,q1,q2,q3⟩:=nx.ex
 cases q2 with
 | t nA hA rs=>
  rename_i A us
  obtain ⟨v',f',c1,c2,c3,c4,c5⟩:=rs.change q3.1 l6
  cases c2 with
  | l nL hL rl=>
   rename_i L vs fl
   obtain ⟨q,ls,w1,w2,w3,w4,w5⟩:=rl.put (List.nodup_cons.mp c4).2 hi
   have qm:=List.mem_cons_of_mem L w2
   obtain ⟨z1,z2⟩:=q3.2 q (c3 q qm)
   have neL:L≠q:=fun y=>(List.nodup_cons.mp c4).1 (y▸w2)
   have neA:A≠q:=fun y=>by rw [y,w3] at hA;cases hA
   refine ⟨A,L,q,us,vs,ls,q1,hA,c1,hL,w1,w3,w4,neL,neA,fun w d rw=>?_⟩
   have t:=nx.wr (rl.fpN q w2).1 z1 z2 (.lst (ls++[w]))
   exact ⟨t.st,t.stp,t.own,t.fx,_,fp,q1,.t nA (by rw [aq neA];exact hA) (c5 q _ _ ls qm w3 (.l nL (by rw [aq neL];exact hL) (w5 w d rw))),q3⟩
theorem MS.list {σs:L2.St} {ρs:Dm.Env} {H0s Hs:Hp} {ρ:Dm.Env} {H0:Hp} {xs rows:List Dm.Dp} {m0:Nat} (nx:MS j σs ρs H0s Hs σ ρ H0 H (.t xs)) (l6:xs[m0]?=some (.l rows)) :
  ∃ (A L:Addr) (us vs:List V),σ[j]?=some (some (.ref A))∧H A=some (.tup us)∧us[m0]?=some (.ref L)∧H L=some (.lst vs)∧vs.length=rows.length:=by
 obtain ⟨v,fp,q1,q2,q3⟩:=nx.ex
 cases q2 with
 | t nA hA rs=>
  rename_i A us
  obtain ⟨u,f,hu,ru,_⟩:=rs.get l6
  cases ru with
  | l nL hL rl=>exact ⟨A,_,us,_,q1,hA,hu,hL,rl.length⟩
theorem DO {K:PySem.W.Frag} {z i:Nat} {c cz:Int} (hcz:cz=(z:Int)) (hil:i<σ.length) (h:tDC j (Dm.j8 j z i c) D σ H) :
  yY (kX K (tOp (zg K) (fB j) (tC (.int cz)))) (cE i) (iM (tBM K "list" iR (fB i) (dg (tC (.int c)) gD))) D σ H:=by
 subst hcz
 obtain ⟨σs,ρs,H0s,Hs,H0,ρ,p,o,n,e,k⟩:=h
 unfold Dm.j8 at e
 split at e
 ·cases e
 rename_i hij
 have hi0:i≠0:=fun z=>hij (.inl z)
 have hnj:i≠j:=fun z=>hij (.inr z)
 split at e
 case h_2=>cases e
 rename_i xs
 split at e
 case h_2=>cases e
 rename_i rows l6
 split at e
 case h_2=>cases e
 rename_i rs hrs
 split at e
 case isFalse=>cases e
 rename_i hall
 cases e
 have er:=rF hrs
 obtain ⟨A,L,us,vs,k1,k2,k3,k4,k5⟩:=n.list l6
 have hz:z<us.length:=(List.getElem?_eq_some_iff.mp k3).1
 have hzx:z<xs.length:=(List.getElem?_eq_some_iff.mp l6).1
 have hlen:vs.length=rs.length:=by rw [k5,er,List.length_map]
 refine ⟨_,k1,A,us,(z:Int),.ref L,rfl,rfl,.of k2,?_,L,rfl,⟨vs,.inl (.inl k4)⟩,?_⟩
 ·show (L2.ixN us.length (z:Int)).bind (fun j=>us[j]?)=_
  rw [← pH]
  have:Dm.ixN us.length (z:Int)=some z:=by
   unfold Dm.ixN
   rw [if_pos (by omega),if_pos (by omega)]
   rfl
  rw [this]
  exact k3
 have g0:grown c rs 0=rows:=by unfold grown;rw [List.take_zero,List.drop_zero,er];rfl
 have n0:MS j σs ρs H0s Hs σ (ρ.set i .un) H0 H (.t (xs.set z (.l (grown c rs 0)))):=by
  rw [g0]
  have:xs.set z (.l rows)=xs:=by
   obtain ⟨hh,hx⟩:=List.getElem?_eq_some_iff.mp l6
   rw [← hx,List.set_getElem_self]
  rw [this]
  exact n.bind (n.st.mask i) (fun a q=>HC q) rfl rfl
 refine ⟨fun q m σ' H'=>MS j σs ρs H0s Hs σ' (ρ.set i .un) H0 H' (.t (xs.set z (.l (grown c rs q))))∧m=rs.length-q∧q≤rs.length∧σ'[j]?=some (some (.ref A))∧H' A=some (.tup us)∧H' L=some (.lst vs)∧i<σ'.length,
  ⟨rs.length,n0,by simp,Nat.zero_le _,k1,k2,k4,hil⟩,?_⟩
 rintro q m σ' H' ⟨nq,rfl,hq,a1,a2,a3,a4⟩
 have sq:SqL K H' L vs:=.inl (.inl a3)
 by_cases hlt:q<rs.length
 ·have hv:q<vs.length:=by omega
  refine .inr ⟨⟨vs,vs[q],sq,by simp [hv]⟩,fun σ' H'=>MS j σs ρs H0s Hs σ' (ρ.set i .un) H0 H' (.t (xs.set z (.l (grown c rs (q+1)))))∧σ'[j]?=some (some (.ref A))∧H' A=some (.tup us)∧H' L=some (.lst vs)∧i<σ'.length,?_,fun x H2 y=>?_⟩
  ·rintro σ2 H2 ⟨h1,h2,h3,h4,h5⟩
   exact ⟨rs.length-(q+1),by omega,h1,rfl,hlt,h2,h3,h4,h5⟩
  ·obtain ⟨rfl,y2⟩:=y
   have yx:=y2 vs sq
   have s1:=nq.st.lR i (some x)
   have e2:(ρ.set i Dm.Cell.un).set i .un=ρ.set i .un:=List.set_set _
   rw [e2] at s1
   have n1:MS j σs ρs H0s Hs (σ'.set i (some x)) (ρ.set i .un) H0 H2 (.t (xs.set z (.l (grown c rs q)))):=nq.bind s1.1 s1.2 (List.getElem?_set_ne hnj) (List.getElem?_set_ne hi0)
   obtain ⟨A',L',b,us',vs',ls,w1,w2,w3,w4,w5,w6,w7,w8,w9,w10⟩:=n1.put2 (m0:=z) (List.getElem?_set_self hzx) (AS hlt)
   rw [List.getElem?_set_ne hnj,a1] at w1
   cases w1
   rw [a2] at w2
   cases w2
   rw [k3] at w3
   cases w3
   rw [a3] at w4
   cases w4
   rw [yx] at w5
   cases w5
   have hl:ls.length<sizeLine:=by
    rw [w7,List.length_map]
    have:=List.all_eq_true.mp hall rs[q] (List.getElem_mem hlt)
    exact Nat.lt_of_lt_of_le (of_decide_eq_true this) (by decide)
   refine ⟨_,List.getElem?_set_self a4,.inl ⟨rfl,ls,.inl (.inl w6)⟩,b,ls,.int c,rfl,rfl,w6,hl,?_⟩
   have nn:=w10 (.int c) (.int c) (.int c)
   rw [List.set_set,yh hlt] at nn
   exact ⟨nn,(List.getElem?_set_ne hnj).trans a1,by rw [aq w9];exact a2,by rw [aq w8];exact a3,by rw [List.length_set];exact a4⟩
 ·have e':q=rs.length:=by omega
  subst e'
  refine .inl ⟨⟨vs,sq,by omega⟩,?_⟩
  have:grown c rs rs.length=rs.map fun r=>Dm.Dp.l ((r++[Dm.Dat.int c]).map Dm.Dp.s):=by unfold grown;rw [List.take_length,List.drop_length];simp
  rw [this] at nq
  exact k σ' H0 H' nq (aj.refl _)
end
section
variable {X:Cx} {pos:Pos} {j:Nat}
theorem HR (z i:Nat) {c cz:Int} {x y:Str} {py px ip sp py2 ap cp ep c1:Pos} {jc jd} (hN:X.N.Nodup) (hp:PassesOwn (model X.prog X.w) X.A X.env X.xe) (hc:X.calm=true) (hcz:cz=(z:Int):=by rfl)
  (hi:X.N[i]?=some y:=by rfl) (hj:X.N[j]?=some x:=by rfl) (hy:Loc X.env.scope y:=by first | exact Or.inl rfl | exact Or.inr rfl) (hvy:Vis X.env.scope y:=by first | exact Or.inl rfl | exact Or.inr (Or.inl rfl) | exact Or.inr (Or.inr rfl)) (hvx:Vis X.env.scope x:=by first | exact Or.inl rfl | exact Or.inr (Or.inl rfl) | exact Or.inr (Or.inr rfl))
  (hdy:(y == ("__debug__" : Str))=false:=by decide) (hcy:(y == ("__classdict__" : Str))=false:=by decide) (hdx:(x == ("__debug__" : Str))=false:=by decide) (hcx:(x == ("__classdict__" : Str))=false:=by decide)
  (hpl:gk (.Constant (.int cz) jc ip):=by intro _ _;rfl)
  (hs:∀ q,foldedSetIterable (.Subscript (.Name x px) (.Constant (.int cz) jc ip) sp) X.env q=pure q:=by intro _;rfl)
  (hbase:attributeBase (.Name y py2) "append" X.env (eval (.Name y py2) X.env)=eval (.Name y py2) X.env:=by rfl)
  (hfew:((backTo cp (starEach [.Constant (.int c) jd c1] X.env)).all (fun x=>!x.1)&&(backToKw cp (keywordEach [] X.env)).all (fun x=>x.1.isSome)
   && decide ([Expr.Constant (.int c) jd c1].length+([]:List Keyword).length+(if ([]:List Keyword).isEmpty then 0 else 1)<30))=true:=by rfl)
  (hline:(ap.endLine == cp.line)=true:=by rfl) (hst:starEach [.Constant (.int c) jd c1] X.env=(false,eval (.Constant (.int c) jd c1) X.env)::starEach [] X.env:=by rfl) (hplain:(backTo cp (starEach [] X.env)).any (·.1)=false:=by rfl)
  (hsw:swapsWith (.Call (.Attribute (.Name y py2) "append" ap) [.Constant (.int c) jd c1] [] cp) none ep.line X.env=pure false:=by rfl)
  (hf:X.fn y=true∨X.env.scope.names.lookup y=some .local:=by first | exact .inl rfl | exact .inr rfl | assumption) :
  DC X j (.For (.Name y py) (.Subscript (.Name x px) (.Constant (.int cz) jc ip) sp) [.Expr (.Call (.Attribute (.Name y py2) "append" ap) [.Constant (.int c) jd c1] [] cp) ep] [] pos) (Dm.j8 j z i c):=by
 have h:=o6 hp hc (kI (tg:=.Name y py) (qE o7 (bP (pos:=px) hj hvx hdx hcx) kT hpl (pos:=sp))) (kH hN hi hy) (dH (dI (nV PySem.F.plainAttrs_list PySem.F.slot_list_append PySem.F.type_list_append dQ (bP (pos:=py2) hi hvy hdy hcy) (bW kT cJ hst) hbase hfew hline hst hplain) hsw)) hs (pos:=pos)
 intro pins s σ H D I q
 exact h pins s σ H D I (DO hcz (by rw [I.len];exact (List.getElem?_eq_some_iff.mp hi).1) q)
end
theorem rG {f:Dm.FE}:∀ {fs:List Dm.FE} {ρ ρ':Dm.Env} {xs:List Dm.Val},Dm.eAs (fs++[f]) ρ=some (xs,ρ')→∃ ys ρ1 y,Dm.eAs fs ρ=some (ys,ρ1)∧f ρ1=some (y,ρ')∧xs=ys++[y]∧ys.length=fs.length
 | [],ρ,ρ',xs,h=>by
  rw [List.nil_append] at h
  unfold Dm.eAs at h
  split at h
  ·cases h
  rename_i y ρ1 e1
  unfold Dm.eAs at h
  cases h
  exact ⟨[],ρ,y,rfl,e1,rfl,rfl⟩
 | g::fs,ρ,ρ',xs,h=>by
  rw [List.cons_append] at h
  unfold Dm.eAs at h
  split at h
  ·cases h
  rename_i z ρ1 e1
  split at h
  ·cases h
  rename_i zs ρ2 e2
  cases h
  obtain ⟨ys,ρ3,y,h1,h2,h3,h4⟩:=rG e2
  refine ⟨z::ys,ρ3,y,?_,h2,by rw [h3];rfl,by rw [List.length_cons,List.length_cons,h4]⟩
  unfold Dm.eAs
  rw [e1]
  dsimp only
  rw [h1]
theorem aY.E_ {Hs H0 H:Hp} {σ:L2.St} {ρ:Dm.Env} {v:V} {x:Dm.Val} (h:fm Hs H0 H σ ρ v x):∀ {vs:List V} {xs:List Dm.Val},aY Hs H0 H σ ρ vs xs→aY Hs H0 H σ ρ (vs++[v]) (xs++[x])
 | _,_,.nil=>.cons h .nil
 | _,_,.cons a r=>.cons a (aY.E_ h r)
theorem aY.Fb {Hs H0 H H0' H':Hp} {σ:L2.St} {ρ ρ':Dm.Env} (t:ESt σ ρ H0 H ρ' H0' H'):∀ {vs:List V} {xs:List Dm.Val},aY Hs H0 H σ ρ vs xs→aY Hs H0' H' σ ρ' vs xs
 | _,_,.nil=>.nil
 | _,_,.cons a r=>.cons (a.mono t) (aY.Fb t r)
theorem aY.length' {Hs H0 H:Hp} {σ:L2.St} {ρ:Dm.Env}:∀ {vs:List V} {xs:List Dm.Val},aY Hs H0 H σ ρ vs xs→vs.length=xs.length
 | _,_,.nil=>rfl
 | _,_,.cons _ r=>by rw [List.length_cons,List.length_cons,aY.length' r]
theorem AU {g:List Dm.Dat→Option Dm.RV} {E:XK} {σ:L2.St} {H:Hp} {Q:VK} {fs:List Dm.FE} {f:Dm.FE} (h:fD (spD g) [] E (tDA (fs++[f])) σ H Q):ze (spD g) (kw1 fs.length) E (tDA fs) (dg (tD f) gD) σ H Q:=by
 obtain ⟨H0,ρ,xs,ρ',st,e,k⟩:=h
 obtain ⟨ys,ρ1,y,e1,e2,rfl,hl⟩:=rG e
 refine ⟨H0,ρ,ys,ρ1,st,e1,fun vs H0' H' t r=>⟨H0',ρ1,y,ρ',t.st,e2,fun v zL H'' t2 r2=>?_⟩⟩
 have:=k (vs++[v]) zL H'' (t.trans t2) (aY.E_ (r2.early fun a z=>t.stp.gone z) (aY.Fb t2 r))
 dsimp only at this
 rw [List.append_nil] at this
 show spD g (kw1 fs.length vs [v]) H'' Q E
 unfold kw1
 rw [if_pos ⟨by rw [r.length',hl],rfl⟩]
 exact this
theorem DQ {K:PySem.W.Frag} {fd:FuncData} {p1 p2 p3 p4 p5 p6:Str} (h:∀ (s:Shared) (a b c d e f:Value),K.In s.heap→BindsTo s fd ⟨[a,b,c,d,e],[(p6,f)]⟩ [(p1,a),(p2,b),(p3,c),(p4,d),(p5,e),(p6,f)]):jy K fd [p1,p2,p3,p4,p5,p6] [p6] (kw1 5) (kw1 5):=by
 refine ⟨fun s us ws hIn hl=>?_,fun r q=>HA 5 r q⟩
 unfold kw1 at hl ⊢
 split at hl
 ·rename_i hh
  rw [if_pos hh]
  refine Dr (C:=fun us=>BindsTo s fd ⟨us,[p6].zip ws⟩ ([p1,p2,p3,p4,p5,p6].zip (us++ws))) hh.1 fun a b c d e=>?_
  exact Hy (C:=fun ws=>BindsTo s fd ⟨[a,b,c,d,e],[p6].zip ws⟩ ([p1,p2,p3,p4,p5,p6].zip ([a,b,c,d,e]++ws))) hh.2 fun f=>h s a b c d e f hIn
 ·cases hl
section
variable {X:Cx} {e e3:Expr} {es:List Expr} {fs:List Dm.FE} {f:Dm.FE} {p pos kpos:Pos}
theorem yi (kd:Nat) {k:Nat} {F:Addr} {fd:FuncData} {ps:List Str} {g:List Dm.Dat→Option Dm.RV} {x nm:Str} (n:Nat) (G:aR X.prog X.w X.K X.mg X.base CX0 k F fd ps (spD g)) (hr:aU k X.A) (hg:Gl X x) (hm:X.mg x=some (.ref F)) (hk:PySem.W.keepIn X.K (.ref F)=true) (hb:jy X.K fd ps [nm] (kw1 n) (kw1 n))
  (ha:DA X (e::es) fs) (h3:DE X e3 f) (hn:fs.length=n:=by rfl) (he:starEach (e::es) X.env=(false,eval e X.env)::starEach es X.env:=by rfl)
  (hall:(backToKw pos (keywordEach [⟨some nm,e3,kpos⟩] X.env)).all (·.1.isSome)=true:=by rfl) (hks:(backToKw pos (keywordEach [⟨some nm,e3,kpos⟩] X.env)).filterMap (·.1)=[nm]:=by rfl)
  (hdb:(x == ("__debug__" : Str))=false:=by decide) (hpl:((backTo pos (starEach (e::es) X.env)).any (·.1)||(backToKw pos (keywordEach [⟨some nm,e3,kpos⟩] X.env)).any (·.1.isNone))=false:=by rfl) :
  DE X (.Call (.Name x p) (e::es) [⟨some nm,e3,kpos⟩] pos) (Dm.eFk kd g (fs++[f])):=by
 subst hn
 exact PE.weak (zf G hr hg hm hk hb (gH (X:=X)) ha (CC h3 Gu) hall hks hdb he hpl) fun _ _ _ h=>AU (lP h)
end
end Br
namespace Dm
noncomputable def We (e:FE) (ρ:Env) (Q:Val→Env→Prop):Prop:=∃ v ρ',e ρ=some (v,ρ')∧Q v ρ'
noncomputable def Wt (t:FT) (ρ:Env) (Q:Bool→Env→Prop):Prop:=∃ v ρ',t ρ=some (v,ρ')∧Q v ρ'
noncomputable def Was (as:List FE) (ρ:Env) (Q:List Val→Env→Prop):Prop:=∃ v ρ',eAs as ρ=some (v,ρ')∧Q v ρ'
noncomputable def Wi (it:FI) (ρ:Env) (Q:List Dat→Env→Prop):Prop:=∃ v ρ',it ρ=some (v,ρ')∧Q v ρ'
noncomputable def KO (N:Env→Prop) (R:RV→Env→Prop) (B C:Env→Prop):Out→Prop
 | .nx ρ=>N ρ
 | .ret r ρ=>R r ρ
 | .bk ρ=>B ρ
 | .ct ρ=>C ρ
noncomputable def Ws (s:FS) (ρ:Env) (N:Env→Prop) (R:RV→Env→Prop) (B C:Env→Prop):Prop:=∃ o,s ρ=some o∧KO N R B C o
noncomputable def Wr (o:Option RV) (P:RV→Prop):Prop:=∃ r,o=some r∧P r
noncomputable def Wif (c:Bool) (X Y:Prop):Prop:=(c=true→X)∧(c=false→Y)
noncomputable def Wg1 (g:Dat→Option RV) (o:Option Dat) (K:RV→Prop):Prop:=∃ d v,o=some d∧g d=some v∧K v
noncomputable def Wg2 (g:Dat→Dat→Option RV) (o p:Option Dat) (K:RV→Prop):Prop:=∃ d e v,o=some d∧p=some e∧g d e=some v∧K v
noncomputable def WB (g:List Dat→Option RV) (o:Option (List Dat)) (K:RV→Prop):Prop:=∃ ds v,o=some ds∧g ds=some v∧K v
noncomputable def WT (o:Option (List Dat×Env)) (K:List Dat→Env→Prop):Prop:=∃ ds ρ,o=some (ds,ρ)∧ds.length≤SZ∧K ds ρ
noncomputable def WF (f:List Dat→Option RV) (ρ:Env) (xs:List Val) (Q:Val→Env→Prop):Prop:=∃ ds v,pks ρ xs=some ds∧f ds=some v∧(if dJ v.dat then ∃ ds' ρ2,tks ρ xs=some (ds',ρ2)∧Q v.bq ρ2 else Q v.bq ρ)
noncomputable def Wk (ρ:Env) (x:Val) (K:Dat→Env→Prop):Prop:=∃ d ρ',tk ρ x=some (d,ρ')∧K d ρ'
theorem Wif.t {X Y:Prop} (x:X):Wif true X Y:=⟨fun _=>x,fun h=>by cases h⟩
theorem Wif.f {X Y:Prop} (y:Y):Wif false X Y:=⟨fun h=>(by cases h),fun _=>y⟩
theorem Wif.yes {c:Bool} {X Y:Prop} (h:c=true) (x:X):Wif c X Y:=⟨fun _=>x,fun h'=>by rw [h] at h';cases h'⟩
theorem Wif.no {c:Bool} {X Y:Prop} (h:c=false) (y:Y):Wif c X Y:=⟨fun h'=>(by rw [h] at h';cases h'),fun _=>y⟩
theorem Wif.dec {p:Prop} [Decidable p] {X Y:Prop} (x:p→X) (y:¬ p→Y):Wif (decide p) X Y:=⟨fun h=>x (of_decide_eq_true h),fun h=>y (of_decide_eq_false h)⟩
theorem We.v {i:Nat} {ρ:Env} {d:Dat} {Q:Val→Env→Prop} (h:ρ[i]?=some (.sh d)) (q:Q (.val d) ρ):We (eV i) ρ Q:=⟨_,_,by unfold eV;rw [h],q⟩
theorem We.w {i:Nat} {ρ:Env} {d:Dat} {Q:Val→Env→Prop} (h:ρ[i]?=some (.ow d)) (q:Q (.slot i) ρ):We (eV i) ρ Q:=⟨_,_,by unfold eV;rw [h],q⟩
theorem We.c {d:Dat} {ρ:Env} {Q:Val→Env→Prop} (q:Q (.val d) ρ):We (eC d) ρ Q:=⟨_,_,rfl,q⟩
theorem We.e1 {g:Dat→Option RV} {a:FE} {ρ:Env} {Q:Val→Env→Prop} (h:We a ρ fun x ρ1=>Wg1 g (pk ρ1 x) fun v=>Q v.bq ρ1):We (e1 g a) ρ Q:=by
 obtain ⟨x,ρ1,h1,d,v,h2,h3,q⟩:=h
 exact ⟨_,_,by unfold Dm.e1;rw [h1];dsimp only;rw [h2];dsimp only;rw [h3],q⟩
theorem We.e2 {g:Dat→Dat→Option RV} {a b:FE} {ρ:Env} {Q:Val→Env→Prop} (h:We a ρ fun x ρ1=>We b ρ1 fun y ρ2=>Wg2 g (pk ρ2 x) (pk ρ2 y) fun v=>Q v.bq ρ2):We (e2 g a b) ρ Q:=by
 obtain ⟨x,ρ1,h1,y,ρ2,h2,d,e,v,h3,h4,h5,q⟩:=h
 exact ⟨_,_,by unfold Dm.e2;rw [h1];dsimp only;rw [h2];dsimp only;rw [h3];dsimp only;rw [h4];dsimp only;rw [h5],q⟩
theorem Was.nil {ρ:Env} {Q:List Val→Env→Prop} (q:Q [] ρ):Was [] ρ Q:=⟨_,_,rfl,q⟩
theorem Was.cons {a:FE} {r:List FE} {ρ:Env} {Q:List Val→Env→Prop} (h:We a ρ fun x ρ1=>Was r ρ1 fun xs ρ2=>Q (x::xs) ρ2):Was (a::r) ρ Q:=by
 obtain ⟨x,ρ1,h1,xs,ρ2,h2,q⟩:=h
 exact ⟨_,_,by unfold eAs;rw [h1];dsimp only;rw [h2],q⟩
theorem We.B {g:List Dat→Option RV} {as:List FE} {ρ:Env} {Q:Val→Env→Prop} (h:Was as ρ fun xs ρ1=>WB g (pks ρ1 xs) fun v=>Q v.bq ρ1):We (eB g as) ρ Q:=by
 obtain ⟨x,ρ1,h1,d,v,h2,h3,q⟩:=h
 exact ⟨_,_,by unfold eB;rw [h1];dsimp only;rw [h2];dsimp only;rw [h3],q⟩
theorem We.T {as:List FE} {ρ:Env} {Q:Val→Env→Prop} (h:Was as ρ fun xs ρ1=>WT (tks ρ1 xs) fun ds ρ2=>Q (.val (.tup ds)) ρ2):We (kD as) ρ Q:=by
 obtain ⟨x,ρ1,h1,ds,ρ2,h2,h3,q⟩:=h
 exact ⟨_,_,by unfold kD;rw [h1];dsimp only;rw [h2];dsimp only;rw [if_pos h3],q⟩
theorem We.L {as:List FE} {ρ:Env} {Q:Val→Env→Prop} (h:Was as ρ fun xs ρ1=>WT (tks ρ1 xs) fun ds ρ2=>Q (.new (.lst ds)) ρ2):We (cF as) ρ Q:=by
 obtain ⟨x,ρ1,h1,ds,ρ2,h2,h3,q⟩:=h
 exact ⟨_,_,by unfold cF;rw [h1];dsimp only;rw [h2];dsimp only;rw [if_pos h3],q⟩
theorem WT.mk {ρ:Env} {xs:List Val} {ds:List Dat} {ρ2 ρ3:Env} {K:List Dat→Env→Prop} (k:K ds ρ3) (h:tks ρ xs=some (ds,ρ2)) (hn:ρ2=ρ3) (hl:ds.length≤SZ):WT (tks ρ xs) K:=⟨_,_,hn▸h,hl,k⟩
theorem We.F {f:List Dat→Option RV} {as:List FE} {ρ:Env} {Q:Val→Env→Prop} (h:Was as ρ fun xs ρ1=>WF f ρ1 xs Q):We (eF f as) ρ Q:=by
 obtain ⟨x,ρ1,h1,ds,v,h2,h3,h4⟩:=h
 by_cases hb:dJ v.dat=true
 ·rw [if_pos hb] at h4
  obtain ⟨ds',ρ2,h5,q⟩:=h4
  exact ⟨_,_,by unfold eF;rw [h1];dsimp only;rw [h2];dsimp only;rw [h3];dsimp only;rw [if_pos hb,h5],q⟩
 ·rw [if_neg hb] at h4
  exact ⟨_,_,by unfold eF;rw [h1];dsimp only;rw [h2];dsimp only;rw [h3];dsimp only;rw [if_neg hb],h4⟩
theorem WF.box {f:List Dat→Option RV} {ρ ρ2 ρ3:Env} {xs:List Val} {ds ds':List Dat} {v:RV} {Q:Val→Env→Prop} (h2:f ds=some v) (q:Q v.bq ρ3) (h1:pks ρ xs=some ds) (h3:dJ v.dat=true) (h4:tks ρ xs=some (ds',ρ2)) (hn:ρ2=ρ3):WF f ρ xs Q:=
 ⟨_,_,h1,h2,by rw [if_pos h3];exact ⟨_,_,h4,hn▸q⟩⟩
theorem WF.val {f:List Dat→Option RV} {ρ:Env} {xs:List Val} {ds:List Dat} {v:RV} {Q:Val→Env→Prop} (h2:f ds=some v) (q:Q v.bq ρ) (h1:pks ρ xs=some ds) (h3:dJ v.dat=false):WF f ρ xs Q:=
 ⟨_,_,h1,h2,by rw [if_neg (by rw [h3];decide)];exact q⟩
noncomputable def Wb (v:Val) (K:Bool→Prop):Prop:=∃ c,v=.val (.bl c)∧K c
theorem Wb.mk {c:Bool} {K:Bool→Prop} (k:K c):Wb (.val (.bl c)) K:=⟨c,rfl,k⟩
theorem We.And {a b:FE} {ρ:Env} {Q:Val→Env→Prop} (h:We a ρ fun v ρ1=>Wb v fun c=>Wif c (We b ρ1 Q) (Q (.val (.bl false)) ρ1)):We (gE a b) ρ Q:=by
 obtain ⟨v,ρ1,h1,c,rfl,h2,h3⟩:=h
 cases c with
 | true=>obtain ⟨v,ρ2,h4,q⟩:=h2 rfl;exact ⟨_,_,by unfold gE;rw [h1];exact h4,q⟩
 | false=>exact ⟨_,_,by unfold gE;rw [h1],h3 rfl⟩
theorem We.Not {a:FE} {ρ:Env} {Q:Val→Env→Prop} (h:We a ρ fun v ρ1=>Wb v fun c=>Q (.val (.bl (!c))) ρ1):We (tK a) ρ Q:=by
 obtain ⟨v,ρ1,h1,c,rfl,h2⟩:=h
 exact ⟨_,_,by unfold tK;rw [h1],h2⟩
theorem Wt.V {a:FE} {ρ:Env} {Q:Bool→Env→Prop} (h:We a ρ fun v ρ1=>Wb v fun c=>Q c ρ1):Wt (tV a) ρ Q:=by
 obtain ⟨v,ρ1,h1,c,rfl,h2⟩:=h
 exact ⟨_,_,by unfold tV;rw [h1],h2⟩
theorem Wt.Not {t:FT} {ρ:Env} {Q:Bool→Env→Prop} (h:Wt t ρ fun c ρ1=>Q (!c) ρ1):Wt (b9 t) ρ Q:=by
 obtain ⟨v,ρ1,h1,h2⟩:=h
 exact ⟨_,_,by unfold b9;rw [h1],h2⟩
theorem Wt.And {t u:FT} {ρ:Env} {Q:Bool→Env→Prop} (h:Wt t ρ fun c ρ1=>Wif c (Wt u ρ1 Q) (Q false ρ1)):Wt (ku t u) ρ Q:=by
 obtain ⟨c,ρ1,h1,h2,h3⟩:=h
 cases c with
 | true=>obtain ⟨v,ρ2,h4,q⟩:=h2 rfl;exact ⟨_,_,by unfold ku;rw [h1];exact h4,q⟩
 | false=>exact ⟨_,_,by unfold ku;rw [h1],h3 rfl⟩
theorem Wt.Or {t u:FT} {ρ:Env} {Q:Bool→Env→Prop} (h:Wt t ρ fun c ρ1=>Wif c (Q true ρ1) (Wt u ρ1 Q)):Wt (tOr t u) ρ Q:=by
 obtain ⟨c,ρ1,h1,h2,h3⟩:=h
 cases c with
 | false=>obtain ⟨v,ρ2,h4,q⟩:=h3 rfl;exact ⟨_,_,by unfold tOr;rw [h1];exact h4,q⟩
 | true=>exact ⟨_,_,by unfold tOr;rw [h1],h2 rfl⟩
theorem Wt.Tr {a:FE} {ρ:Env} {Q:Bool→Env→Prop} (h:We a ρ fun x ρ1=>∃ d c,pk ρ1 x=some d∧truth d=some c∧Q c ρ1):Wt (tTr a) ρ Q:=by
 obtain ⟨x,ρ1,h1,d,c,h2,h3,q⟩:=h
 exact ⟨_,_,by unfold tTr;rw [h1];dsimp only;rw [h2];dsimp only;rw [h3],q⟩
theorem Wt.T {ρ:Env} {Q:Bool→Env→Prop} (q:Q true ρ):Wt gJ ρ Q:=⟨_,_,rfl,q⟩
theorem Wk.val {ρ:Env} {d:Dat} {K:Dat→Env→Prop} (k:K d ρ):Wk ρ (.val d) K:=⟨_,_,rfl,k⟩
theorem Wk.new {ρ:Env} {d:Dat} {K:Dat→Env→Prop} (k:K d ρ):Wk ρ (.new d) K:=⟨_,_,rfl,k⟩
theorem Wk.slot {ρ ρ':Env} {i:Nat} {d:Dat} {K:Dat→Env→Prop} (k:K d ρ') (h:ρ[i]?=some (.ow d)) (hs:ρ.set i (.sh d)=ρ'):Wk ρ (.slot i) K:=⟨_,_,by unfold tk;dsimp only;rw [h];dsimp only;rw [hs],k⟩
noncomputable def AV:Dat→Option (List Dat)
 | .lst ds=>some ds
 | .tup ds=>some ds
 | _=>none
theorem Wi.S {a:FE} {ρ:Env} {Q:List Dat→Env→Prop} (h:We a ρ fun x ρ1=>Wk ρ1 x fun d ρ2=>∃ ds,AV d=some ds∧Q ds ρ2):Wi (iS a) ρ Q:=by
 obtain ⟨x,ρ1,h1,d,ρ2,h2,ds,hd,q⟩:=h
 cases d with
 | lst xs=>cases hd;exact ⟨_,_,by unfold iS;rw [h1];dsimp only;rw [h2],q⟩
 | tup xs=>cases hd;exact ⟨_,_,by unfold iS;rw [h1];dsimp only;rw [h2],q⟩
 | _=>cases hd
noncomputable def fy (v:Val) (K:Int→Prop):Prop:=∃ i,v=.val (.int i)∧K i
theorem fy.mk {i:Int} {K:Int→Prop} (k:K i):fy (.val (.int i)) K:=⟨i,rfl,k⟩
theorem Wi.R1 {a:FE} {ρ:Env} {Q:List Dat→Env→Prop} (h:We a ρ fun v ρ1=>fy v fun j=>Q (ups 0 j.toNat) ρ1∧j≤BIG∧-BIG≤j):Wi (iR1 a) ρ Q:=by
 obtain ⟨v,ρ1,h1,j,rfl,q,h2⟩:=h
 exact ⟨_,_,by unfold iR1;rw [h1];dsimp only;rw [if_pos h2],q⟩
theorem Ws.nx {ρ:Env} {N:Env→Prop} {R:RV→Env→Prop} {B C:Env→Prop} (n:N ρ):Ws sNx ρ N R B C:=⟨_,rfl,n⟩
theorem Ws.seq {s u:FS} {ρ:Env} {N:Env→Prop} {R:RV→Env→Prop} {B C:Env→Prop} (h:Ws s ρ (fun ρ1=>Ws u ρ1 N R B C) R B C):Ws (av s u) ρ N R B C:=by
 obtain ⟨o,h1,h2⟩:=h
 cases o with
 | nx ρ1=>obtain ⟨o,h3,h4⟩:=h2;exact ⟨o,by unfold av;rw [h1];exact h3,h4⟩
 | ret r ρ1=>exact ⟨.ret r ρ1,by unfold av;rw [h1],h2⟩
 | bk ρ1=>exact ⟨.bk ρ1,by unfold av;rw [h1],h2⟩
 | ct ρ1=>exact ⟨.ct ρ1,by unfold av;rw [h1],h2⟩
noncomputable def WA (i:Nat) (v:Val) (ρ:Env) (N:Env→Prop):Prop:=match v with
 | .new d=>N (ρ.set i (.ow d))
 | x=>Wk ρ x fun d ρ2=>N (ρ2.set i (.sh d))
theorem Ws.A {i:Nat} {e:FE} {ρ:Env} {N:Env→Prop} {R:RV→Env→Prop} {B C:Env→Prop} (h:We e ρ fun v ρ1=>WA i v ρ1 N) (hi:i≠0):Ws (sA i e) ρ N R B C:=by
 obtain ⟨v,ρ1,h1,h2⟩:=h
 cases v with
 | new d=>exact ⟨.nx _,by unfold sA;rw [if_neg hi,h1],h2⟩
 | val d=>obtain ⟨d',ρ2,h3,h4⟩:=h2;exact ⟨.nx _,by unfold sA;rw [if_neg hi,h1];dsimp only;rw [h3],h4⟩
 | slot j=>obtain ⟨d',ρ2,h3,h4⟩:=h2;exact ⟨.nx _,by unfold sA;rw [if_neg hi,h1];dsimp only;rw [h3],h4⟩
theorem WA.new {i:Nat} {d:Dat} {ρ ρ2:Env} {N:Env→Prop} (n:N ρ2) (hs:ρ.set i (.ow d)=ρ2):WA i (.new d) ρ N:=by unfold WA;dsimp only;rw [hs];exact n
theorem WA.val {i:Nat} {d:Dat} {ρ ρ2:Env} {N:Env→Prop} (n:N ρ2) (hs:ρ.set i (.sh d)=ρ2):WA i (.val d) ρ N:=⟨_,_,rfl,by show N _;rw [hs];exact n⟩
theorem Ws.U {is:List Nat} {e:FE} {ρ:Env} {N:Env→Prop} {R:RV→Env→Prop} {B C:Env→Prop} (h:We e ρ fun x ρ1=>Wk ρ1 x fun d ρ2=>∃ ds ρ3,d=.tup ds∧sets is ds ρ2=some ρ3∧N ρ3):Ws (sU is e) ρ N R B C:=by
 obtain ⟨x,ρ1,h1,d,ρ2,h2,ds,ρ3,rfl,h3,n⟩:=h
 exact ⟨.nx _,by unfold sU;rw [h1];dsimp only;rw [h2];dsimp only;rw [h3],n⟩
theorem Ws.E {e:FE} {ρ:Env} {N:Env→Prop} {R:RV→Env→Prop} {B C:Env→Prop} (h:We e ρ fun _ ρ1=>N ρ1):Ws (sE e) ρ N R B C:=by
 obtain ⟨x,ρ1,h1,n⟩:=h
 exact ⟨.nx _,by unfold sE;rw [h1],n⟩
noncomputable def WR (v:Val) (ρ:Env) (R:RV→Env→Prop):Prop:=match v with
 | .new d=>R (.new d) ρ
 | .val d=>R (.val d) ρ
 | .slot i=>(∃ d,ρ[i]?=some (.ow d)∧R (.new d) (ρ.set i .un))
theorem Ws.R {e:FE} {ρ:Env} {N:Env→Prop} {R:RV→Env→Prop} {B C:Env→Prop} (h:We e ρ fun v ρ1=>WR v ρ1 R):Ws (sR e) ρ N R B C:=by
 obtain ⟨v,ρ1,h1,h2⟩:=h
 cases v with
 | new d=>exact ⟨.ret _ _,by unfold sR;rw [h1],h2⟩
 | val d=>exact ⟨.ret _ _,by unfold sR;rw [h1],h2⟩
 | slot i=>obtain ⟨d,h3,h4⟩:=h2;exact ⟨.ret _ _,by unfold sR;rw [h1];dsimp only;rw [h3],h4⟩
theorem WR.new {d:Dat} {ρ:Env} {R:RV→Env→Prop} (r:R (.new d) ρ):WR (.new d) ρ R:=r
theorem WR.val {d:Dat} {ρ:Env} {R:RV→Env→Prop} (r:R (.val d) ρ):WR (.val d) ρ R:=r
theorem WR.slot {d:Dat} {ρ:Env} {i:Nat} {R:RV→Env→Prop} (r:R (.new d) (ρ.set i .un)) (h:ρ[i]?=some (.ow d)):WR (.slot i) ρ R:=⟨d,h,r⟩
theorem Ws.If {t:FT} {a b:FS} {ρ:Env} {N:Env→Prop} {R:RV→Env→Prop} {B C:Env→Prop} (h:Wt t ρ fun c ρ1=>Wif c (Ws a ρ1 N R B C) (Ws b ρ1 N R B C)):Ws (sIf t a b) ρ N R B C:=by
 obtain ⟨c,ρ1,h1,h2,h3⟩:=h
 cases c with
 | true=>obtain ⟨o,h4,q⟩:=h2 rfl;exact ⟨_,by unfold sIf;rw [h1];exact h4,q⟩
 | false=>obtain ⟨o,h4,q⟩:=h3 rfl;exact ⟨_,by unfold sIf;rw [h1];exact h4,q⟩
theorem Ws.App {i:Nat} {e:FE} {ρ:Env} {N:Env→Prop} {R:RV→Env→Prop} {B C:Env→Prop} {ds0:List Dat} (h:We e ρ fun x ρ1=>Wk ρ1 x fun d ρ2=>∃ ds ρ3,ρ2[i]?=some (.ow (.lst ds))∧ρ2.set i (.ow (.lst (ds++[d])))=ρ3∧N ρ3∧ds.length<SZ) (h0:ρ[i]?=some (.ow (.lst ds0))):Ws (qL i e) ρ N R B C:=by
 obtain ⟨x,ρ1,h1,d,ρ2,h2,ds,ρ3,h3,h5,n,h4⟩:=h
 exact ⟨.nx _,by unfold qL;rw [h0];dsimp only;rw [h1];dsimp only;rw [h2];dsimp only;rw [h3];dsimp only;rw [if_pos h4,h5],n⟩
theorem p8 {i:Nat} {d:Dat} {ds:List Dat} {ρ2 ρ3:Env} {N:Env→Prop} (n:N ρ3) (h:ρ2[i]?=some (.ow (.lst ds))) (hs:ρ2.set i (.ow (.lst (ds++[d])))=ρ3) (hl:ds.length<SZ):∃ ds ρ3,ρ2[i]?=some (.ow (.lst ds))∧ρ2.set i (.ow (.lst (ds++[d])))=ρ3∧N ρ3∧ds.length<SZ:=⟨_,_,h,hs,n,hl⟩
theorem Ws.Set {i:Nat} {j e:FE} {ρ:Env} {N:Env→Prop} {R:RV→Env→Prop} {B C:Env→Prop} (h:We e ρ fun x ρ1=>Wk ρ1 x fun d ρ2=>(∃ d0,ρ2[i]?=some (.ow d0))∧We j ρ2 fun y ρ3=>fy y fun k=>∃ ds m ρ4,ρ3[i]?=some (.ow (.lst ds))∧ixN ds.length k=some m∧ρ3.set i (.ow (.lst (ds.set m d)))=ρ4∧N ρ4):Ws (xD i j e) ρ N R B C:=by
 obtain ⟨x,ρ1,h1,d,ρ2,h2,⟨d0,h0⟩,y,ρ3,h3,k,rfl,ds,m,ρ4,h4,h5,h6,n⟩:=h
 exact ⟨.nx _,by unfold xD;rw [h1];dsimp only;rw [h2];dsimp only;rw [h0];dsimp only;rw [h3];dsimp only;rw [h4];dsimp only;rw [h5];dsimp only;rw [h6],n⟩
theorem Ws.DR {i:Nat} {j e:FE} {ρ:Env} {N:Env→Prop} {R:RV→Env→Prop} {B C:Env→Prop} (h:We e ρ fun x ρ1=>Wk ρ1 x fun d ρ2=>(∃ d0,ρ2[i]?=some (.ow d0))∧We j ρ2 fun y ρ3=>fy y fun k=>∃ ks vs ρ4,ρ3[i]?=some (.ow (.dct ks vs))∧ρ3.set i (.ow (.dct (i_ ks k) (jb ks vs k d)))=ρ4∧N ρ4∧ks.length<SZ):Ws (j4 i j e) ρ N R B C:=by
 obtain ⟨x,ρ1,h1,d,ρ2,h2,⟨d0,h0⟩,y,ρ3,h3,k,rfl,ks,vs,ρ4,h4,h5,n,h6⟩:=h
 exact ⟨.nx _,by unfold j4;rw [h1];dsimp only;rw [h2];dsimp only;rw [h0];dsimp only;rw [h3];dsimp only;rw [h4];dsimp only;rw [if_pos h6,h5],n⟩
theorem kM {i:Nat} {k:Int} {d:Dat} {ks:List Int} {vs:List Dat} {ρ3 ρ4:Env} {N:Env→Prop} (n:N ρ4) (h:ρ3[i]?=some (.ow (.dct ks vs))) (hs:ρ3.set i (.ow (.dct (i_ ks k) (jb ks vs k d)))=ρ4) (hl:ks.length<SZ):∃ ks vs ρ4,ρ3[i]?=some (.ow (.dct ks vs))∧ρ3.set i (.ow (.dct (i_ ks k) (jb ks vs k d)))=ρ4∧N ρ4∧ks.length<SZ:=⟨_,_,_,h,hs,n,hl⟩
theorem Ws.For {it:FI} {bd:FB} {body:FS} {ρ:Env} {N:Env→Prop} {R:RV→Env→Prop} {B C:Env→Prop} (h:Wi it ρ fun ds ρ1=>Ws (jC bd body ds) ρ1 N R B C):Ws (gU it bd body) ρ N R B C:=by
 obtain ⟨ds,ρ1,h1,o,h2,h3⟩:=h
 exact ⟨o,by unfold gU;rw [h1];exact h2,h3⟩
theorem Ws.inv {α:Type} (enc:α→Dat) (bd:FB) (body:FS) (xs:List α) (ρ:Env) (N:Env→Prop) (R:RV→Env→Prop) (B C:Env→Prop) (I:List α→List α→Env→Prop)
  (h0:I [] xs ρ) (hs:∀ p x q ρ,xs=p++x::q→I p (x::q) ρ→∃ ρ1,bd (enc x) ρ=some ρ1∧Ws body ρ1 (fun ρ2=>I (p++[x]) q ρ2) R N (fun ρ2=>I (p++[x]) q ρ2)) (he:∀ ρ,I xs [] ρ→N ρ):Ws (jC bd body (xs.map enc)) ρ N R B C:=by
 have go:∀ (q p:List α) (ρ:Env),xs=p++q→I p q ρ→Ws (jC bd body (q.map enc)) ρ N R B C:=fun q=>by
  induction q with
  | nil=>intro p ρ e i;rw [List.append_nil] at e;exact ⟨.nx _,rfl,he ρ (e▸i)⟩
  | cons x q ih=>
   intro p ρ e i
   obtain ⟨ρ1,h1,o,h2,h3⟩:=hs p x q ρ e i
   have e':xs=(p++[x])++q:=by rw [List.append_assoc];exact e
   cases o with
   | nx ρ2=>obtain ⟨o,h4,h5⟩:=ih _ _ e' h3;exact ⟨o,by rw [List.map_cons,jC,h1];dsimp only;rw [h2];exact h4,h5⟩
   | ct ρ2=>obtain ⟨o,h4,h5⟩:=ih _ _ e' h3;exact ⟨o,by rw [List.map_cons,jC,h1];dsimp only;rw [h2];exact h4,h5⟩
   | bk ρ2=>exact ⟨.nx _,by rw [List.map_cons,jC,h1];dsimp only;rw [h2],h3⟩
   | ret r ρ2=>exact ⟨.ret _ _,by rw [List.map_cons,jC,h1];dsimp only;rw [h2],h3⟩
 exact go xs [] ρ rfl h0
theorem Wr.fn {n m:Nat} {body:FS} {ds:List Dat} {ρ:Env} {P:RV→Prop} (b:Ws body ρ (fun _=>P (.val .non)) (fun r _=>P r) (fun _=>False) (fun _=>False)) (hρ:ds.map Cell.sh++List.replicate m .un=ρ) (h:ds.length=n):Wr (fn n m body ds) P:=by
 obtain ⟨o,h1,h2⟩:=b
 cases o with
 | nx ρ1=>exact ⟨_,by unfold Dm.fn;rw [if_pos h,hρ,h1],h2⟩
 | ret r ρ1=>exact ⟨_,by unfold Dm.fn;rw [if_pos h,hρ,h1],h2⟩
 | bk ρ1=>exact h2.elim
 | ct ρ1=>exact h2.elim
theorem Wr.eq {o:Option RV} {r:RV} (h:Wr o fun x=>x=r):o=some r:=by obtain ⟨x,h1,rfl⟩:=h;exact h1
theorem vX {α:Type} (enc:α→Dat) (p:α→Bool) (v:α→Dat) (bd:FB) (t:FT) (el:FE) (mk:Cell→Env) (hb:∀ d c,bd d (mk c)=some (mk (.sh d))):∀ (xs:List α) (c:Cell) (acc:List Dat),
  (∀ x∈xs,t (mk (.sh (enc x)))=some (p x,mk (.sh (enc x))))→(∀ x∈xs,p x=true→We el (mk (.sh (enc x))) fun w ρ'=>Wk ρ' w fun d ρ''=>d=v x∧ρ''=mk (.sh (enc x))) →
  ∃ c',eY bd t el (xs.map enc) (mk c) acc=some (acc++(xs.filter p).map v,mk c')
 | [],c,acc,_,_=>⟨c,by simp [eY]⟩
 | x::xs,c,acc,ht,he=>by
  rw [List.map_cons,eY,hb]
  dsimp only
  rw [ht x List.mem_cons_self]
  have ht':=fun y hy=>ht y (List.mem_cons_of_mem _ hy)
  have he':=fun y hy=>he y (List.mem_cons_of_mem _ hy)
  by_cases h:p x=true
  ·obtain ⟨w,ρ',h1,d,ρ'',h2,rfl,rfl⟩:=he x List.mem_cons_self h
   rw [h]
   dsimp only
   rw [h1]
   dsimp only
   rw [h2]
   obtain ⟨c',e⟩:=vX enc p v bd t el mk hb xs (.sh (enc x)) (acc++[v x]) ht' he'
   exact ⟨c',by dsimp only;rw [e,List.filter_cons_of_pos h];simp⟩
  ·rw [Bool.not_eq_true] at h
   rw [h]
   obtain ⟨c',e⟩:=vX enc p v bd t el mk hb xs (.sh (enc x)) acc ht' he'
   exact ⟨c',by dsimp only;rw [e,List.filter_cons_of_neg (by rw [h];decide)]⟩
theorem Wt.get {t:FT} {ρ:Env} {c:Bool} (h:Wt t ρ fun c' ρ'=>c'=c∧ρ'=ρ):t ρ=some (c,ρ):=by
 obtain ⟨_,_,h1,rfl,rfl⟩:=h;exact h1
theorem We.Comp {α:Type} (enc:α→Dat) (xs:List α) (p:α→Bool) (v:α→Dat) {it:FI} {k:Nat} {t:FT} {el:FE} {ρ ρ1:Env} {Q:Val→Env→Prop}
  (q:Q (.new (.lst ((xs.filter p).map v))) ρ1) (hit:it ρ=some (xs.map enc,ρ1)) (hk:ρ1.length=k) (hk0:k≠0) (hl:xs.length≤SZ)
  (ht:∀ x∈xs,Wt t (ρ1++[.sh (enc x)]) fun c ρ'=>c=p x∧ρ'=ρ1++[.sh (enc x)])
  (he:∀ x∈xs,p x=true→We el (ρ1++[.sh (enc x)]) fun w ρ'=>Wk ρ' w fun d ρ''=>d=v x∧ρ''=ρ1++[.sh (enc x)]):We (fF it 1 (bN k) t el) ρ Q:=by
 have bd:∀ (d:Dat) (c:Cell),bN k d (ρ1++[c])=some (ρ1++[.sh d]):=fun d c=>by
  unfold bN
  rw [if_neg hk0,List.set_append_right _ _ (by omega)]
  simp [hk]
 obtain ⟨c',e⟩:=vX enc p v (bN k) t el (fun c=>ρ1++[c]) bd xs .un [] (fun x hx=>Wt.get (ht x hx)) he
 refine ⟨_,_,?_,q⟩
 unfold fF
 rw [hit]
 dsimp only
 rw [if_pos (by rw [List.length_map];exact hl)]
 show (match eY _ _ _ _ (ρ1++[.un]) [] with | none=>none | some (ys,ρ2)=>some (Val.new (.lst ys),ρ2.take ρ1.length))=_
 rw [e]
 dsimp only
 rw [List.nil_append,List.take_left]
theorem We.AW {α:Type} (enc:α→Dat) (xs:List α) (p:α→Bool) (v:α→Dat) {i:Nat} {k:Nat} {t:FT} {el:FE} {ρ:Env} {Q:Val→Env→Prop} {d:Dat}
  (q:Q (.new (.lst ((xs.filter p).map v))) ρ) (hi:ρ[i]?=some (.sh d)) (hd:AV d=some (xs.map enc)) (hk:ρ.length=k) (hk0:k≠0) (hl:xs.length≤SZ)
  (ht:∀ x∈xs,Wt t (ρ++[.sh (enc x)]) fun c ρ'=>c=p x∧ρ'=ρ++[.sh (enc x)])
  (he:∀ x∈xs,p x=true→We el (ρ++[.sh (enc x)]) fun w ρ'=>Wk ρ' w fun d ρ''=>d=v x∧ρ''=ρ++[.sh (enc x)]):We (a_ i 1 (bN k) t el) ρ Q:=by
 have hit:iS (eV i) ρ=some (xs.map enc,ρ):=by
  unfold iS eV
  rw [hi]
  cases d with
  | lst ys=>cases hd;rfl
  | tup ys=>cases hd;rfl
  | _=>cases hd
 obtain ⟨a,ρ',h1,h2⟩:=We.Comp enc xs p v (Q:=Q) q hit hk hk0 hl ht he
 refine ⟨a,ρ',?_,h2⟩
 unfold a_
 rw [hi]
 exact h1
theorem We.Ks {α:Type} (enc:α→Dat) (xs:List α) (p:α→Bool) (v:α→Dat) {i:Nat} {k:Nat} {t:FT} {el:FE} {ρ ρ1:Env} {Q:Val→Env→Prop}
  (q:Q (.new (.lst ((xs.filter p).map v))) ρ) (hi:ρ[i]?=some (.ow (.lst (xs.map enc)))) (h1:ρ.set i .un=ρ1) (hk:ρ.length=k) (hk0:k≠0) (hl:xs.length≤SZ)
  (ht:∀ x∈xs,Wt t (ρ1++[.sh (enc x)]) fun c ρ'=>c=p x∧ρ'=ρ1++[.sh (enc x)])
  (he:∀ x∈xs,p x=true→We el (ρ1++[.sh (enc x)]) fun w ρ'=>Wk ρ' w fun d ρ''=>d=v x∧ρ''=ρ1++[.sh (enc x)]):We (a_ i 1 (bN k) t el) ρ Q:=by
 have hlen:ρ1.length=ρ.length:=by rw [← h1,List.length_set]
 have hil:i<ρ.length:=(List.getElem?_eq_some_iff.mp hi).1
 have bd:∀ (d:Dat) (c:Cell),bN k d (ρ1++[c])=some (ρ1++[.sh d]):=fun d c=>by
  unfold bN
  rw [if_neg hk0,List.set_append_right _ _ (by omega)]
  simp [hk,hlen]
 obtain ⟨c',e⟩:=vX enc p v (bN k) t el (fun c=>ρ1++[c]) bd xs .un [] (fun x hx=>Wt.get (ht x hx)) he
 refine ⟨_,_,?_,q⟩
 unfold a_
 rw [hi]
 dsimp only
 rw [if_pos (by rw [List.length_map];exact hl),h1]
 show (match eY _ _ _ _ (ρ1++[.un]) [] with | none=>none | some (ys,ρ2)=>some (Val.new (.lst ys),(ρ2.take ρ.length).set i (.ow (.lst (xs.map enc)))))=_
 rw [e]
 dsimp only
 rw [List.nil_append,← hlen,List.take_left,← h1,List.set_set]
 congr 2
 apply List.ext_getElem?
 intro j
 by_cases h:i=j
 ·subst h;rw [List.getElem?_set_self hil,hi]
 ·rw [List.getElem?_set_ne h]
theorem We.Map {α β:Type} (enc:α→Dat) (xs:List α) (f:α→β) (l7:β→Dat) {it:FI} {k:Nat} {el:FE} {ρ ρ1:Env} {Q:Val→Env→Prop}
  (q:Q (.new (.lst ((xs.map f).map l7))) ρ1) (hit:it ρ=some (xs.map enc,ρ1)) (hk:ρ1.length=k) (hk0:k≠0) (hl:xs.length≤SZ)
  (he:∀ x∈xs,We el (ρ1++[.sh (enc x)]) fun w ρ'=>Wk ρ' w fun d ρ''=>d=l7 (f x)∧ρ''=ρ1++[.sh (enc x)]):We (fF it 1 (bN k) gJ el) ρ Q:=
 We.Comp enc xs (fun _=>true) (fun x=>l7 (f x)) (by rw [List.filter_eq_self.mpr (fun _ _=>rfl)];rw [List.map_map] at q;exact q) hit hk hk0 hl (fun _ _=>Wt.T ⟨rfl,rfl⟩) fun x hx _=>he x hx
theorem We.AX {α β:Type} (enc:α→Dat) (xs:List α) (f:α→β) (l7:β→Dat) {i:Nat} {k:Nat} {el:FE} {ρ:Env} {Q:Val→Env→Prop} {d:Dat}
  (q:Q (.new (.lst ((xs.map f).map l7))) ρ) (hi:ρ[i]?=some (.sh d)) (hd:AV d=some (xs.map enc)) (hk:ρ.length=k) (hk0:k≠0) (hl:xs.length≤SZ)
  (he:∀ x∈xs,We el (ρ++[.sh (enc x)]) fun w ρ'=>Wk ρ' w fun d ρ''=>d=l7 (f x)∧ρ''=ρ++[.sh (enc x)]):We (a_ i 1 (bN k) gJ el) ρ Q:=
 We.AW enc xs (fun _=>true) (fun x=>l7 (f x)) (by rw [List.filter_eq_self.mpr (fun _ _=>rfl)];rw [List.map_map] at q;exact q) hi hd hk hk0 hl (fun _ _=>Wt.T ⟨rfl,rfl⟩) fun x hx _=>he x hx
theorem We.Ku {α β:Type} (enc:α→Dat) (xs:List α) (p:α→Bool) (f:α→β) (l7:β→Dat) {i:Nat} {k:Nat} {t:FT} {el:FE} {ρ:Env} {Q:Val→Env→Prop} {d:Dat}
  (q:Q (.new (.lst (((xs.filter p).map f).map l7))) ρ) (hi:ρ[i]?=some (.sh d)) (hd:AV d=some (xs.map enc)) (hk:ρ.length=k) (hk0:k≠0) (hl:xs.length≤SZ)
  (ht:∀ x∈xs,Wt t (ρ++[.sh (enc x)]) fun c ρ'=>c=p x∧ρ'=ρ++[.sh (enc x)])
  (he:∀ x∈xs,p x=true→We el (ρ++[.sh (enc x)]) fun w ρ'=>Wk ρ' w fun d ρ''=>d=l7 (f x)∧ρ''=ρ++[.sh (enc x)]):We (a_ i 1 (bN k) t el) ρ Q:=
 We.AW enc xs p (fun x=>l7 (f x)) (by rw [List.map_map] at q;exact q) hi hd hk hk0 hl ht he
theorem vY (i j:Int):gEq (.int i) (.int j)=vB (decide (i=j)):=by
 have:(i == j)=decide (i=j):=by by_cases h:i=j<;>simp [h]
 show vB (i == j)=_
 rw [this]
theorem p9 (i j:Int):gNe (.int i) (.int j)=vB (!decide (i=j)):=by
 have:(i == j)=decide (i=j):=by by_cases h:i=j<;>simp [h]
 show vB (!(i == j))=_
 rw [this]
theorem Wg2.eq {i j:Int} {o p:Option Dat} {K:RV→Prop} (k:K (.val (.bl (decide (i=j))))) (ho:o=some (.int i)) (hp:p=some (.int j)):Wg2 gEq o p K:=⟨_,_,_,ho,hp,vY i j,k⟩
theorem Wg2.ne {i j:Int} {o p:Option Dat} {K:RV→Prop} (k:K (.val (.bl (!decide (i=j))))) (ho:o=some (.int i)) (hp:p=some (.int j)):Wg2 gNe o p K:=⟨_,_,_,ho,hp,p9 i j,k⟩
theorem Wg2.neb {i j:Bool} {o p:Option Dat} {K:RV→Prop} (k:K (.val (.bl (!(i == j))))) (ho:o=some (.bl i)) (hp:p=some (.bl j)):Wg2 gNe o p K:=⟨_,_,_,ho,hp,rfl,k⟩
theorem Wg2.lt {i j:Int} {o p:Option Dat} {K:RV→Prop} (k:K (.val (.bl (decide (i<j))))) (ho:o=some (.int i)) (hp:p=some (.int j)):Wg2 gLt o p K:=⟨_,_,_,ho,hp,rfl,k⟩
theorem Wg2.gt {i j:Int} {o p:Option Dat} {K:RV→Prop} (k:K (.val (.bl (decide (j<i))))) (ho:o=some (.int i)) (hp:p=some (.int j)):Wg2 gGt o p K:=⟨_,_,_,ho,hp,rfl,k⟩
theorem Wg2.ge {i j:Int} {o p:Option Dat} {K:RV→Prop} (k:K (.val (.bl (decide (j≤i))))) (ho:o=some (.int i)) (hp:p=some (.int j)):Wg2 gGe o p K:=⟨_,_,_,ho,hp,rfl,k⟩
theorem Wg2.add {i j:Int} {o p:Option Dat} {K:RV→Prop} (k:K (.val (.int (i+j)))) (ho:o=some (.int i)) (hp:p=some (.int j)):Wg2 bL o p K:=⟨_,_,_,ho,hp,rfl,k⟩
theorem Wg2.Kv {xs ys:List Dat} {o p:Option Dat} {K:RV→Prop} (k:K (.new (.lst (xs++ys)))) (ho:o=some (.lst xs)) (hp:p=some (.lst ys)) (h:xs.length+ys.length≤SZ):Wg2 bL o p K:=⟨_,_,_,ho,hp,by unfold bL;dsimp only;rw [if_pos h],k⟩
theorem Wg2.sub {i j:Int} {o p:Option Dat} {K:RV→Prop} (k:K (.val (.int (i-j)))) (ho:o=some (.int i)) (hp:p=some (.int j)):Wg2 kB o p K:=⟨_,_,_,ho,hp,rfl,k⟩
theorem Wg2.mul {i j:Int} {o p:Option Dat} {K:RV→Prop} (k:K (.val (.int (i*j)))) (ho:o=some (.int i)) (hp:p=some (.int j)) (h:(-B64<i∧i<B64)∨(-B64<j∧j<B64)):Wg2 gW o p K:=⟨_,_,_,ho,hp,by unfold gW;dsimp only;rw [if_pos h],k⟩
theorem Wg2.div {i j:Int} {o p:Option Dat} {K:RV→Prop} (k:K (.val (.int (i / j)))) (ho:o=some (.int i)) (hp:p=some (.int j)) (h:0<j∧j<fG):Wg2 xE o p K:=⟨_,_,_,ho,hp,by unfold xE;dsimp only;rw [if_pos h],k⟩
theorem Wg2.mod {i j:Int} {o p:Option Dat} {K:RV→Prop} (k:K (.val (.int (i % j)))) (ho:o=some (.int i)) (hp:p=some (.int j)) (h:0<j):Wg2 fH o p K:=⟨_,_,_,ho,hp,by unfold fH;dsimp only;rw [if_pos h],k⟩
theorem Wg2.pow {i j z:Int} {o p:Option Dat} {K:RV→Prop} (k:K (.val (.int z))) (ho:o=some (.int i)) (hp:p=some (.int j)) (h:0≤j∧j≤1000000∧i.natAbs<1000000) (hz:i ^ j.toNat=z):Wg2 gF o p K:=⟨_,_,_,ho,hp,by unfold gF;dsimp only;rw [if_pos h,hz],k⟩
theorem Wg2.ix {d e:Dat} {v:Dat} {o p:Option Dat} {K:RV→Prop} (k:K (.val v)) (ho:o=some d) (hp:p=some e) (h:gIx d e=some (.val v)):Wg2 gIx o p K:=⟨_,_,_,ho,hp,h,k⟩
theorem p_ {α:Type} (enc:α→Dat) (xs:List α) (i:Int) (h0:0≤i) (h1:i<xs.length):atI (xs.map enc) i=some (enc (xs[i.toNat]'(by omega))):=by
 unfold atI ixN
 rw [List.length_map,if_pos h0,if_pos h1]
 show (xs.map enc)[i.toNat]?=_
 rw [List.getElem?_map,List.getElem?_eq_getElem (by omega)]
 rfl
theorem vZ (i:Int) (xs:List Int):inD (.int i) (xs.map Dat.int)=decide (i∈xs):=by
 induction xs with
 | nil=>rfl
 | cons x xs ih=>
  have ih':(xs.map Dat.int).any (fun y=>eqD y (.int i))=decide (i∈xs):=ih
  unfold inD
  rw [List.map_cons,List.any_cons,ih']
  show ((x == i)||_)=_
  by_cases h:x=i
  ·simp [h]
  ·have h':¬ i=x:=fun z=>h z.symm
   simp [h,h']
theorem AY (xs:List Int):(xs.map Dat.int).all (okD 7)=true:=by
 rw [List.all_eq_true]
 intro d hd
 obtain ⟨x,_,rfl⟩:=List.mem_map.mp hd
 rfl
theorem Wg2.inT {i:Int} {xs:List Int} {o p:Option Dat} {K:RV→Prop} (k:K (.val (.bl (decide (i∈xs))))) (ho:o=some (.int i)) (hp:p=some (.tup (xs.map Dat.int))):Wg2 gIn o p K:=
 ⟨_,_,_,ho,hp,by unfold gIn;dsimp only;rw [show okD 8 (.int i)=true from rfl,AY,vZ];rfl,k⟩
theorem Wg2.Kw {i:Int} {xs:List Int} {o p:Option Dat} {K:RV→Prop} (k:K (.val (.bl (!decide (i∈xs))))) (ho:o=some (.int i)) (hp:p=some (.tup (xs.map Dat.int))):Wg2 eG o p K:=
 ⟨_,_,_,ho,hp,by unfold eG;dsimp only;rw [show okD 8 (.int i)=true from rfl,AY,vZ];rfl,k⟩
theorem Wg2.Ky {i a b:Int} {o p:Option Dat} {K:RV→Prop} (k:K (.val (.bl (!decide (i=a∨i=b))))) (ho:o=some (.int i)) (hp:p=some (.tup [.int a,.int b])):Wg2 eG o p K:=
 Wg2.Kw (xs:=[a,b]) (by have:(i∈[a,b])=(i=a∨i=b):=(by simp);simp only [this];exact k) ho hp
theorem Wg2.din {i:Int} {ks:List Int} {vs:List Dat} {o p:Option Dat} {K:RV→Prop} (k:K (.val (.bl (bz ks vs i).isSome))) (ho:o=some (.int i)) (hp:p=some (.dct ks vs)):Wg2 xP o p K:=⟨_,_,_,ho,hp,rfl,k⟩
theorem Wg2.HS {i:Int} {ks:List Int} {vs:List Dat} {o p:Option Dat} {K:RV→Prop} (k:K (.val (.bl (!(bz ks vs i).isSome)))) (ho:o=some (.int i)) (hp:p=some (.dct ks vs)):Wg2 n9 o p K:=⟨_,_,_,ho,hp,rfl,k⟩
theorem Wg2.dx {i:Int} {ks:List Int} {vs:List Dat} {d:Dat} {o p:Option Dat} {K:RV→Prop} (h:bz ks vs i=some d) (k:K (.val d)) (ho:o=some (.dct ks vs)) (hp:p=some (.int i)):Wg2 gDx o p K:=⟨_,_,_,ho,hp,by unfold gDx;dsimp only;rw [h];rfl,k⟩
theorem WB.min2 {i j:Int} {o:Option (List Dat)} {K:RV→Prop} (k:K (.val (.int (if j<i then j else i)))) (ho:o=some [.int i,.int j]):WB k_ o K:=⟨_,_,ho,rfl,k⟩
theorem WB.max2 {i j:Int} {o:Option (List Dat)} {K:RV→Prop} (k:K (.val (.int (if j>i then j else i)))) (ho:o=some [.int i,.int j]):WB jY o K:=⟨_,_,ho,rfl,k⟩
theorem WB.list {xs:List Dat} {o:Option (List Dat)} {K:RV→Prop} (k:K (.new (.lst xs))) (ho:o=some [.lst xs]):WB fJ o K:=⟨_,_,ho,rfl,k⟩
theorem WB.int {b:Bool} {o:Option (List Dat)} {K:RV→Prop} (k:K (.val (.int (b2i b)))) (ho:o=some [.bl b]):WB tM o K:=⟨_,_,ho,rfl,k⟩
theorem WB.sum2 {a b:Int} {o:Option (List Dat)} {K:RV→Prop} (k:K (.val (.int (a+b)))) (ho:o=some [.tup [.int a,.int b]]) (h:-1000000≤a∧a≤1000000∧-1000000≤b∧b≤1000000):WB n_ o K:=⟨_,_,ho,by unfold n_;dsimp only;rw [if_pos h],k⟩
theorem Wg1.mk {g:Dat→Option RV} {d:Dat} {v:RV} {o:Option Dat} {K:RV→Prop} (k:K v) (ho:o=some d) (h:g d=some v):Wg1 g o K:=⟨_,_,ho,h,k⟩
theorem cW {xs:List Dat} {Q:List Dat→Prop} (q:Q xs):∃ ds,AV (.lst xs)=some ds∧Q ds:=⟨_,rfl,q⟩
theorem ndT {p:Prop} [Decidable p] (h:(!decide p)=true):¬ p:=by intro z;rw [decide_eq_true z] at h;cases h
theorem ndF {p:Prop} [Decidable p] (h:(!decide p)=false):p:=Decidable.byContradiction fun z=>by rw [decide_eq_false z] at h;cases h
theorem DU (xs:List Dat) (h:okD 8 (.lst xs)=true):gEq (.lst xs) (.lst [])=vB xs.isEmpty:=by
 unfold gEq
 rw [h]
 cases xs<;>rfl
theorem DV (xs:List Dat) (h:okD 8 (.lst xs)=true):gNe (.lst xs) (.lst [])=vB (!xs.isEmpty):=by
 unfold gNe
 rw [h]
 cases xs<;>rfl
theorem Fc {α:Type} (enc:α→Dat) (xs:List α) (h:∀ x,okD 7 (enc x)=true):okD 8 (.lst (xs.map enc))=true:=by
 unfold okD
 rw [List.all_eq_true]
 intro d hd
 obtain ⟨x,_,rfl⟩:=List.mem_map.mp hd
 exact h x
theorem Wg2.Fe {xs:List Dat} {o p:Option Dat} {K:RV→Prop} (k:K (.val (.bl xs.isEmpty))) (ho:o=some (.lst xs)) (hp:p=some (.lst [])) (h:okD 8 (.lst xs)=true):Wg2 gEq o p K:=⟨_,_,_,ho,hp,DU xs h,k⟩
theorem Wg2.AZ {xs:List Dat} {o p:Option Dat} {K:RV→Prop} (k:K (.val (.bl (!xs.isEmpty)))) (ho:o=some (.lst xs)) (hp:p=some (.lst [])) (h:okD 8 (.lst xs)=true):Wg2 gNe o p K:=⟨_,_,_,ho,hp,DV xs h,k⟩
theorem WB.qc {α:Type} {enc:α→Dat} {xs:List α} {o:Option (List Dat)} {K:RV→Prop} (k:K (.val (.int xs.length))) (ho:o=some [.lst (xs.map enc)]):WB dS o K:=⟨_,_,ho,by unfold dS;dsimp only;rw [List.length_map],k⟩
theorem Ws.mono {s:FS} {ρ:Env} {N N':Env→Prop} {R:RV→Env→Prop} {B C:Env→Prop} (h:Ws s ρ N' R B C) (k:∀ ρ',N' ρ'→N ρ'):Ws s ρ N R B C:=by
 obtain ⟨o,h1,h2⟩:=h
 cases o with
 | nx ρ1=>exact ⟨.nx ρ1,h1,k _ h2⟩
 | ret r ρ1=>exact ⟨.ret r ρ1,h1,h2⟩
 | bk ρ1=>exact ⟨.bk ρ1,h1,h2⟩
 | ct ρ1=>exact ⟨.ct ρ1,h1,h2⟩
theorem uu {ρ:Env} {i:Nat} {d:Dat} {W:Prop} (h:ρ[i]?=some (.ow d)) (w:W):(∃ d0,ρ[i]?=some (.ow d0))∧W:=⟨⟨d,h⟩,w⟩
theorem We.Dn {ρ:Env} {Q:Val→Env→Prop} (q:Q (.new (.dct [] [])) ρ):We eDn ρ Q:=⟨_,_,rfl,q⟩
theorem We.D1 {a b:FE} {ρ:Env} {Q:Val→Env→Prop} (h:We a ρ fun v ρ1=>fy v fun i=>We b ρ1 fun x ρ2=>Wk ρ2 x fun d ρ3=>Q (.new (.dct [i] [d])) ρ3):We (eD1 a b) ρ Q:=by
 obtain ⟨v,ρ1,h1,i,rfl,x,ρ2,h2,d,ρ3,h3,q⟩:=h
 exact ⟨_,_,by unfold eD1;rw [h1];dsimp only;rw [h2];dsimp only;rw [h3],q⟩
theorem cD {bd:FB} {d:Dat} {ρ ρ1 ρ2:Env} {W:Env→Prop} (h:bd d ρ=some ρ1) (hn:ρ1=ρ2) (w:W ρ2):∃ ρ1,bd d ρ=some ρ1∧W ρ1:=⟨ρ1,h,hn▸w⟩
theorem WB.tuple {xs:List Dat} {o:Option (List Dat)} {K:RV→Prop} (k:K (.val (.tup xs))) (ho:o=some [.lst xs]):WB lg o K:=⟨_,_,ho,rfl,k⟩
noncomputable def ltI (a b:Int):Bool:=decide (a<b)
theorem gQ (ns:List Int):(cG ltI ns).Pairwise (fun a b=>ltI b a=false):=cV (fun a b c h1 h2=>by simp [ltI] at *;omega) (fun a b h=>by simp [ltI] at *;omega) ns
theorem rH {l m:List Int} (h:l.Perm m) (hs:l.Pairwise (·≤·)):cG ltI m=l:=
 dN (lt:=ltI) (fun a b h1 h2=>by simp [ltI] at *;omega) ((cg _ m).trans h.symm) (gQ m) (hs.imp fun h=>by simp [ltI];omega)
theorem A1 (N M:List Int):gNe (.lst (N.map Dat.int)) (.lst (M.map Dat.int))=vB (!decide (N=M)):=by
 have ok:∀ ns:List Int,okD 8 (.lst (ns.map Dat.int))=true:=fun ns=>Fc Dat.int ns fun _=>rfl
 have eq:∀ N M:List Int,cK (N.map Dat.int) (M.map Dat.int)=decide (N=M):=fun N=>by
  induction N with
  | nil=>intro M;cases M<;>rfl
  | cons n N ih=>
   intro M
   cases M with
   | nil=>rfl
   | cons m M=>
    rw [List.map_cons,List.map_cons,cK,ih M]
    show ((n == m)&&_)=_
    rw [Bool.eq_iff_iff]
    simp
 unfold gNe
 rw [ok,ok]
 show vB (!cK _ _)=_
 rw [eq]
theorem Wg2.neI {N M:List Int} {o p:Option Dat} {K:RV→Prop} (k:K (.val (.bl (!decide (N=M))))) (ho:o=some (.lst (N.map Dat.int))) (hp:p=some (.lst (M.map Dat.int))):Wg2 gNe o p K:=⟨_,_,_,ho,hp,A1 N M,k⟩
theorem Ws.Ext {i:Nat} {e:FE} {ρ:Env} {N:Env→Prop} {R:RV→Env→Prop} {B C:Env→Prop} {ds0:List Dat} (h:We e ρ fun x ρ1=>∃ es ds ρ3,pk ρ1 x=some (.lst es)∧ρ1[i]?=some (.ow (.lst ds))∧ρ1.set i (.ow (.lst (ds++es)))=ρ3∧N ρ3∧ds.length+es.length≤SZ) (h0:ρ[i]?=some (.ow (.lst ds0))):Ws (xT i e) ρ N R B C:=by
 obtain ⟨x,ρ1,h1,es,ds,ρ3,h2,h3,h5,n,h4⟩:=h
 exact ⟨.nx _,by unfold xT;rw [h0];dsimp only;rw [h1];dsimp only;rw [h2];dsimp only;rw [h3];dsimp only;rw [if_pos h4,h5],n⟩
theorem Ws.wh {t:FT} {body:FS} {N:Env→Prop} {R:RV→Env→Prop} {B C:Env→Prop} (I:Nat→Env→Prop)
  (hs:∀ k ρ,I k ρ→Wt t ρ fun c ρ1=>Wif c (Ws body ρ1 (fun ρ2=>∃ k',k'<k∧I k' ρ2) R N (fun ρ2=>∃ k',k'<k∧I k' ρ2)) (N ρ1)):∀ (n k:Nat) (ρ:Env),k<n→I k ρ→Ws (whD t body n) ρ N R B C
 | 0,k,_,h,_=>absurd h (Nat.not_lt_zero k)
 | n+1,k,ρ,h,i=>by
  obtain ⟨c,ρ1,h1,h2,h3⟩:=hs k ρ i
  cases c with
  | false=>exact ⟨.nx _,by rw [whD,h1],h3 rfl⟩
  | true=>
   obtain ⟨o,h4,h5⟩:=h2 rfl
   cases o with
   | nx ρ2=>
    obtain ⟨k',hk,i'⟩:=h5
    obtain ⟨o,h6,h7⟩:=Ws.wh (N:=N) (R:=R) (B:=B) (C:=C) I hs n k' ρ2 (by omega) i'
    exact ⟨o,by rw [whD,h1];dsimp only;rw [h4];exact h6,h7⟩
   | ct ρ2=>
    obtain ⟨k',hk,i'⟩:=h5
    obtain ⟨o,h6,h7⟩:=Ws.wh (N:=N) (R:=R) (B:=B) (C:=C) I hs n k' ρ2 (by omega) i'
    exact ⟨o,by rw [whD,h1];dsimp only;rw [h4];exact h6,h7⟩
   | bk ρ2=>exact ⟨.nx _,by rw [whD,h1];dsimp only;rw [h4],h5⟩
   | ret r ρ2=>exact ⟨.ret _ _,by rw [whD,h1];dsimp only;rw [h4],h5⟩
theorem yj {α:Type} (p:α→Bool) (xs:List α):bools (xs.map fun x=>Dat.bl (p x))=some (xs.map p):=by
 induction xs with
 | nil=>rfl
 | cons x xs ih=>rw [List.map_cons,bools,ih];rfl
theorem WB.all {α:Type} (p:α→Bool) {xs:List α} {o:Option (List Dat)} {K:RV→Prop} (k:K (.val (.bl (xs.all p)))) (ho:o=some [.lst (xs.map fun x=>Dat.bl (p x))]):WB tL o K:=⟨_,_,ho,by
 unfold tL
 dsimp only
 rw [yj]
 have:(xs.map p).all id=xs.all p:=by rw [List.all_map];rfl
 dsimp only
 rw [this],k⟩
theorem We.L7 {a b:FE} {ρ:Env} {Q:Val→Env→Prop} (h:We a ρ fun x ρ1=>(∃ ks vs,pk ρ1 x=some (.dct ks vs))∧We b ρ1 fun y ρ2=>∃ ks vs i,pk ρ2 x=some (.dct ks vs)∧pk ρ2 y=some (.int i)∧Q (.val ((bz ks vs i).getD .non)) ρ2):We (j3 a b) ρ Q:=by
 obtain ⟨x,ρ1,h1,⟨ks,vs,h2⟩,y,ρ2,h3,ks',vs',i,h4,h5,q⟩:=h
 exact ⟨_,_,by unfold j3;rw [h1];dsimp only;rw [h2];dsimp only;rw [h3];dsimp only;rw [h4];dsimp only;rw [h5],q⟩
theorem Wg2.isN {d:Dat} {o p:Option Dat} {K:RV→Prop} (k:K (.val (.bl (Dm.isN d)))) (ho:o=some d) (hp:p=some .non):Wg2 qX o p K:=⟨_,_,_,ho,hp,by cases d<;>rfl,k⟩
theorem Ws.cut {s u:FS} {ρ:Env} {N:Env→Prop} {R:RV→Env→Prop} {B C:Env→Prop} (J:Env→Prop) (h1:Ws s ρ J R B C) (h2:∀ ρ',J ρ'→Ws u ρ' N R B C):Ws (av s u) ρ N R B C:=Ws.seq (Ws.mono h1 h2)
noncomputable def WrM (o:Option (RV×Dat)) (P:RV→Dat→Prop):Prop:=∃ z d,o=some (z,d)∧P z d
theorem WrM.fn {n m:Nat} {body:FS} {d:Dat} {r:List Dat} {ρ:Env} {P:RV→Dat→Prop} (b:Ws body ρ (fun ρ'=>∃ d',ρ'[0]?=some (.ow d')∧P (.val .non) d') (fun z ρ'=>∃ d',ρ'[0]?=some (.ow d')∧P z d') (fun _=>False) (fun _=>False)) (hρ:Cell.ow d::(r.map Cell.sh++List.replicate m .un)=ρ) (h:(d::r).length=n):WrM (fnM n m body (d::r)) P:=by
 obtain ⟨o,h1,h2⟩:=b
 cases o with
 | nx ρ1=>obtain ⟨d',h3,h4⟩:=h2;exact ⟨_,_,by unfold fnM;rw [if_pos h];dsimp only;rw [hρ,h1];dsimp only;rw [h3],h4⟩
 | ret z ρ1=>obtain ⟨d',h3,h4⟩:=h2;exact ⟨_,_,by unfold fnM;rw [if_pos h];dsimp only;rw [hρ,h1];dsimp only;rw [h3],h4⟩
 | bk ρ1=>exact h2.elim
 | ct ρ1=>exact h2.elim
noncomputable def WFm (f:List Dat→Option (RV×Dat)) (j:Nat) (ρ1:Env) (xs:List Val) (Q:Val→Env→Prop):Prop:=
 ∃ d1 ds ρ2 d v d',ρ1[j]?=some (.ow d1)∧tks ρ1 xs=some (ds,ρ2)∧ρ2[j]?=some (.ow d)∧f (d::ds)=some (v,d')∧(if (flat v.dat&&pL d')=true then Q v.bq (ρ1.set j (.ow d')) else Q v.bq (ρ2.set j (.ow d')))
theorem We.Fm {f:List Dat→Option (RV×Dat)} {j:Nat} {as:List FE} {ρ:Env} {d0:Dat} {Q:Val→Env→Prop} (h:Was as ρ fun xs ρ1=>WFm f j ρ1 xs Q) (h0:ρ[j]?=some (.ow d0)):We (eFm f j as) ρ Q:=by
 obtain ⟨xs,ρ1,h1,d1,ds,ρ2,d,v,d',h2,h3,h4,h5,q⟩:=h
 by_cases c:(flat v.dat&&pL d')=true
 ·rw [if_pos c] at q
  exact ⟨_,_,by unfold eFm;rw [h0];dsimp only;rw [h1];dsimp only;rw [h2];dsimp only;rw [h3];dsimp only;rw [h4];dsimp only;rw [h5];dsimp only;rw [if_pos c],q⟩
 ·rw [if_neg c] at q
  exact ⟨_,_,by unfold eFm;rw [h0];dsimp only;rw [h1];dsimp only;rw [h2];dsimp only;rw [h3];dsimp only;rw [h4];dsimp only;rw [h5];dsimp only;rw [if_neg c],q⟩
theorem WFm.flat {f:List Dat→Option (RV×Dat)} {j:Nat} {ρ1 ρ2 ρ3:Env} {xs:List Val} {d1 d d':Dat} {ds:List Dat} {v:RV} {Q:Val→Env→Prop} (h5:f (d::ds)=some (v,d')) (q:Q v.bq ρ3) (h2:ρ1[j]?=some (.ow d1)) (h3:tks ρ1 xs=some (ds,ρ2)) (h4:ρ2[j]?=some (.ow d)) (hf:(Dm.flat v.dat&&pL d')=true) (hn:ρ1.set j (.ow d')=ρ3):WFm f j ρ1 xs Q:=
 ⟨_,_,_,_,_,_,h2,h3,h4,h5,by rw [if_pos hf,hn];exact q⟩
theorem WFm.any {f:List Dat→Option (RV×Dat)} {j:Nat} {ρ1 ρ3:Env} {xs:List Val} {d d':Dat} {ds:List Dat} {v:RV} {Q:Val→Env→Prop} (h5:f (d::ds)=some (v,d')) (q:Q v.bq ρ3) (h2:ρ1[j]?=some (.ow d)) (h3:tks ρ1 xs=some (ds,ρ1)) (hn:ρ1.set j (.ow d')=ρ3):WFm f j ρ1 xs Q:=
 ⟨_,_,_,_,_,_,h2,h3,h2,h5,by rw [hn];split<;>exact q⟩
theorem We.Fd {f:List Dat→Option RV} {as:List FE} {ρ:Env} {Q:Val→Env→Prop} (h:Was as ρ fun xs ρ1=>∃ ds ρ2 v,t8 ρ1 xs=some (ds,ρ2)∧f ds=some v∧bJ v.dat=true∧Q v.bq ρ2):We (eFd f as) ρ Q:=by
 obtain ⟨xs,ρ1,h1,ds,ρ2,v,h2,h3,h4,q⟩:=h
 exact ⟨_,_,by unfold eFd;rw [h1];dsimp only;rw [h2];dsimp only;rw [h3];dsimp only;rw [if_pos h4],q⟩
theorem jN:∀ (xs:List Dat),(∀ x∈xs,bJ x=true)→fS xs=true
 | [],_=>by unfold fS;rfl
 | x::xs,h=>by
  unfold fS
  rw [h x List.mem_cons_self,jN xs fun y hy=>h y (List.mem_cons_of_mem _ hy)]
  rfl
theorem gv {α:Type} (enc:α→Dat) (xs:List α) (h:∀ x,bJ (enc x)=true):bJ (.lst (xs.map enc))=true:=by
 unfold bJ
 exact jN _ fun d hd=>by obtain ⟨x,_,rfl⟩:=List.mem_map.mp hd;exact h x
theorem oG (i:Int):bJ (.int i)=true:=by unfold bJ;rfl
theorem uv (xs:List Int):bJ (.lst (xs.map Dat.int))=true:=gv _ _ oG
theorem WB.dict {ks:List Int} {vs:List Dat} {o:Option (List Dat)} {K:RV→Prop} (k:K (.new (.dct ks vs))) (ho:o=some [.dct ks vs]):WB oh o K:=⟨_,_,ho,rfl,k⟩
theorem WB.Kz {ks:List Int} {vs:List Dat} {o:Option (List Dat)} {K:RV→Prop} (k:K (.new (.lst ((cG ltI ks).map Dat.int)))) (ho:o=some [.dct ks vs]) (h:ks.length≤63):WB jJ o K:=⟨_,_,ho,by
 unfold jJ
 dsimp only
 rw [if_pos h]
 rfl,k⟩
theorem We.HU {i:Nat} {e:FE} {ρ ρ2:Env} {k:Int} {ks:List Int} {vs:List Dat} {d:Dat} {Q:Val→Env→Prop} (hl:bz ks vs k=some d) (q:Q (.val d) ρ2) (h:ρ[i]?=some (.ow (.dct ks vs))) (he:e ρ=some (.val (.int k),ρ)) (hs:ρ.set i (.ow (.dct (eS ks vs k) (eT ks vs k)))=ρ2):We (je i e) ρ Q:=⟨_,_,by
 unfold je
 rw [h]
 dsimp only
 rw [he]
 dsimp only
 rw [h]
 dsimp only
 rw [hl]
 dsimp only
 rw [hs],q⟩
theorem Wi.get {it:FI} {ρ ρ1:Env} {ds:List Dat} (h:Wi it ρ fun x y=>x=ds∧y=ρ1):it ρ=some (ds,ρ1):=by
 obtain ⟨_,_,h1,rfl,rfl⟩:=h;exact h1
theorem Wi.Rs {a b c:FE} {ρ:Env} {i j k:Int} {Q:List Dat→Env→Prop} (ha:a ρ=some (.val (.int i),ρ)) (hb:b ρ=some (.val (.int j),ρ)) (hc:c ρ=some (.val (.int k),ρ)) (hk:(0<k∧k≤1000)∧j≤BIG∧-BIG≤j∧i≤BIG∧-BIG≤i) (q:Q (gZ i k (cj i j k)) ρ):Wi (iRs a b c) ρ Q:=⟨_,_,by
 unfold iRs
 rw [ha]
 dsimp only
 rw [hb]
 dsimp only
 rw [hc]
 dsimp only
 rw [if_pos hk],q⟩
theorem We.get {e:FE} {ρ ρ':Env} {v:Val} (h:We e ρ fun x y=>x=v∧y=ρ'):e ρ=some (v,ρ'):=by
 obtain ⟨_,_,h1,rfl,rfl⟩:=h;exact h1
theorem We.Fn {f:List Dat→Option (RV×Dat)} {e0:FE} {as:List FE} {ρ:Env} {Q:Val→Env→Prop} (h:Was (e0::as) ρ fun xs ρ1=>∃ d ys ds v d',xs=.new d::ys∧jK ys=some ds∧f (d::ds)=some (v,d')∧Q v.bq ρ1):We (eFn f e0 as) ρ Q:=by
 obtain ⟨xs,ρ1,h1,d,ys,ds,v,d',rfl,h2,h3,q⟩:=h
 refine ⟨_,_,?_,q⟩
 unfold eFn
 rw [h1]
 dsimp only
 rw [h2]
 dsimp only
 rw [h3]
theorem We.Fk {k:Nat} {f:List Dat→Option RV} {as:List FE} {ρ:Env} {Q:Val→Env→Prop} (h:Was as ρ fun xs ρ1=>∃ ds ρ2 v,ug k ρ1 xs=some (ds,ρ2)∧f ds=some v∧dB k v.dat=true∧Q v.bq ρ2):We (eFk k f as) ρ Q:=by
 obtain ⟨xs,ρ1,e1,ds,ρ2,v,e2,e3,e4,q⟩:=h
 exact ⟨_,_,by unfold eFk;rw [e1];dsimp only;rw [e2];dsimp only;rw [e3];dsimp only;rw [if_pos e4],q⟩
noncomputable def Wm (g:FM) (ρ:Env) (p:Dp) (N:Env→Prop) (R:RV→Env→Prop) (B C:Env→Prop):Prop:=∃ o,g ρ p=some o∧KO N R B C o
section
variable {N:Env→Prop} {R:RV→Env→Prop} {B C:Env→Prop} {ρ:Env} {p:Dp}
theorem Wm.no {j:Nat} {t:FT} {fs:FS} {g:FM} {ρ':Env} (h:Wt t ρ' fun c _=>c=false) (k:Wm g ρ p N R B C) (e:see j ρ p=ρ'):Wm (mIf j t fs g) ρ p N R B C:=by
 obtain ⟨c,ρ1,h1,rfl⟩:=h
 obtain ⟨o,h3,h4⟩:=k
 exact ⟨o,by unfold mIf;rw [e,h1];exact h3,h4⟩
theorem Wm.clr {z:Int} {gs:FS} {xs ys:List Dp} {m:Nat} (k:Ws gs ρ N R B C) (h1:ixN xs.length z=some m) (h2:xs[m]?=some (.l ys)):Wm (rm z gs) ρ (.t xs) N R B C:=by
 obtain ⟨o,h3,h4⟩:=k
 exact ⟨o,by unfold rm;dsimp only;rw [h1];dsimp only;rw [h2];exact h3,h4⟩
end
noncomputable def Wq (g:FSP) (ρ:Env) (P:Dp→Prop):Prop:=∃ p,g ρ=some p∧P p
noncomputable def Wp' (f:FP) (ρ:Env) (Q:Dp→Env→Prop):Prop:=∃ p ρ',f ρ=some (p,ρ')∧Q p ρ'
noncomputable def Wpa (fs:List FP) (ρ:Env) (Q:List Dp→Env→Prop):Prop:=∃ p ρ',pAs fs ρ=some (p,ρ')∧Q p ρ'
section
variable {ρ:Env} {P:Dp→Prop}
theorem Wq.fn {n m:Nat} {g:FSP} {ds:List Dat} {ρ:Env} (h:Wq g ρ P) (hl:ds.length=n) (e:ds.map Cell.sh++List.replicate m .un=ρ):∃ p,fnP n m g ds=some p∧P p:=by
 obtain ⟨p,h1,h2⟩:=h
 exact ⟨p,by unfold fnP;rw [if_pos hl,e];exact h1,h2⟩
theorem Wq.seq {s:FS} {g:FSP} (h:Ws s ρ (fun ρ1=>Wq g ρ1 P) (fun _ _=>False) (fun _=>False) (fun _=>False)):Wq (fu s g) ρ P:=by
 obtain ⟨o,h1,h2⟩:=h
 cases o with
 | nx ρ1=>
  obtain ⟨p,h3,h4⟩:=h2
  exact ⟨p,by unfold fu;rw [h1];exact h3,h4⟩
 | ret _ _=>exact h2.elim
 | bk _=>exact h2.elim
 | ct _=>exact h2.elim
theorem Wq.ret {f:FP} (h:Wp' f ρ fun p _=>P p):Wq (qR f) ρ P:=by
 obtain ⟨p,ρ',h1,h2⟩:=h
 exact ⟨p,by unfold qR;rw [h1],h2⟩
theorem Wp'.val {f:FE} {d:Dat} {Q:Dp→Env→Prop} (h:We f ρ fun v ρ1=>v=.val d∧Q (.s d) ρ1):Wp' (pO f) ρ Q:=by
 obtain ⟨v,ρ1,h1,rfl,h2⟩:=h
 exact ⟨_,_,by unfold pO;rw [h1],h2⟩
theorem Wp'.new {f:FE} {ds:List Dat} {Q:Dp→Env→Prop} (h:We f ρ fun v ρ1=>v=.new (.lst ds)∧Q (.l (ds.map .s)) ρ1):Wp' (pO f) ρ Q:=by
 obtain ⟨v,ρ1,h1,rfl,h2⟩:=h
 exact ⟨_,_,by unfold pO;rw [h1],h2⟩
theorem Wpa.nil {Q:List Dp→Env→Prop} (q:Q [] ρ):Wpa [] ρ Q:=⟨_,_,rfl,q⟩
theorem Wpa.cons {f:FP} {fs:List FP} {Q:List Dp→Env→Prop} (h:Wp' f ρ fun p ρ1=>Wpa fs ρ1 fun ps ρ2=>Q (p::ps) ρ2):Wpa (f::fs) ρ Q:=by
 obtain ⟨x,ρ1,h1,xs,ρ2,h2,q⟩:=h
 exact ⟨_,_,by unfold pAs;rw [h1];dsimp only;rw [h2],q⟩
theorem Wp'.T {fs:List FP} {Q:Dp→Env→Prop} (h:Wpa fs ρ fun ps ρ1=>ps.length≤SZ∧Q (.t ps) ρ1):Wp' (pT fs) ρ Q:=by
 obtain ⟨x,ρ1,h1,h2,q⟩:=h
 exact ⟨_,_,by unfold pT;rw [h1];dsimp only;rw [if_pos h2],q⟩
end
noncomputable def KM (N:Env→Dp→Prop) (R:Dat→Env→Prop):OM→Prop
 | .nx ρ p=>N ρ p
 | .rt d ρ=>R d ρ
noncomputable def Wc (g:FC) (ρ:Env) (p:Dp) (N:Env→Dp→Prop) (R:Dat→Env→Prop):Prop:=∃ o,g ρ p=some o∧KM N R o
section
variable {N:Env→Dp→Prop} {R:Dat→Env→Prop} {ρ ρ':Env} {p:Dp}
theorem Wm.seq {s:FC} {g:FM} {N:Env→Prop} {R:RV→Env→Prop} {B C:Env→Prop} (h:Wc s ρ p (fun ρ1 p1=>Wm g ρ1 p1 N R B C) (fun d ρ1=>R (.val d) ρ1)):Wm (kF s g) ρ p N R B C:=by
 obtain ⟨o,h1,h2⟩:=h
 cases o with
 | nx ρ1 p1=>
  obtain ⟨o,h3,h4⟩:=h2
  exact ⟨o,by unfold kF;rw [h1];exact h3,h4⟩
 | rt d ρ1=>exact ⟨.ret (.val d) ρ1,by unfold kF;rw [h1],h2⟩
theorem Wc.L8 {j i:Nat} {f:FP} {q:Dp} {D:Dat} {ρ2:Env} (h:Wp' f ρ' fun q' _=>q'=q) (k:N ρ2 p) (e:see j ρ p=ρ') (hb:aW q=true) (hd:q.dat=D) (hn:ρ.set i (.sh D)=ρ2) (hi:¬ (i=0∨i=j)):Wc (j6 j i f) ρ p N R:=by
 obtain ⟨v,ρ1,h1,rfl⟩:=h
 exact ⟨.nx ρ2 p,by unfold j6;rw [if_neg hi,e,h1];dsimp only;rw [if_pos hb,hd,hn],k⟩
theorem A2 {α:Type} (enc:α→Dat) (v:α→Dp) (bd:FB) (el:FP) (I:Env→Prop):∀ (xs:List α) (acc:List Dp) (ρ:Env),I ρ →
  (∀ x∈xs,∀ ρ,I ρ→∃ ρ1,bd (enc x) ρ=some ρ1∧Wp' el ρ1 fun q ρ2=>q=v x∧I ρ2)→∃ ρ',fW bd el (xs.map enc) ρ acc=some (acc++xs.map v,ρ')∧I ρ'
 | [],acc,ρ,i,_=>⟨ρ,by simp [fW],i⟩
 | x::xs,acc,ρ,i,h=>by
  obtain ⟨ρ1,h1,q,ρ2,h2,rfl,i2⟩:=h x List.mem_cons_self ρ i
  obtain ⟨ρ3,h3,i3⟩:=A2 enc v bd el I xs (acc++[v x]) ρ2 i2 fun y hy=>h y (List.mem_cons_of_mem _ hy)
  exact ⟨ρ3,by rw [List.map_cons,fW,h1];dsimp only;rw [h2];dsimp only;rw [h3];simp,i3⟩
theorem Wp'.Comp {α:Type} (enc:α→Dat) (xs:List α) (v:α→Dp) (I:Env→Prop) {it:FI} {own:Nat} {bd:FB} {el:FP} {ρ ρ1:Env} {Q:Dp→Env→Prop} (hit:it ρ=some (xs.map enc,ρ1)) (hl:xs.length≤SZ) (h0:I (ρ1++List.replicate own .un))
  (hs:∀ x∈xs,∀ ρ,I ρ→∃ ρ1,bd (enc x) ρ=some ρ1∧Wp' el ρ1 fun q ρ2=>q=v x∧I ρ2) (q:∀ ρ2,I ρ2→Q (.l (xs.map v)) (ρ2.take ρ1.length)):Wp' (jl it own bd el) ρ Q:=by
 obtain ⟨ρ2,h1,i⟩:=A2 enc v bd el I xs [] _ h0 hs
 exact ⟨_,_,by unfold jl;rw [hit];dsimp only;rw [if_pos (by simpa using hl),h1];rfl,q ρ2 i⟩
end
theorem l8 (i:Int):kE (.int i)=true:=by unfold kE;rfl
theorem jn:∀ ns:List Int,bu ((ns.map Dat.int).map Dp.s)=true
 | []=>by unfold bu;rfl
 | i::r=>by
  rw [List.map_cons,List.map_cons,bu,jn r,aW,l8]
  rfl
section
variable {N:Env→Prop} {R:RV→Env→Prop} {B C:Env→Prop} {ρ:Env} {p:Dp}
theorem Ws.KA {j:Nat} {f:List Dat→Option Dp} {as:List FE} {g:FM} (h:Was as ρ fun xs ρ1=>∃ ds p ρ3,f ds=some p∧Wm g ρ3 p N R B C∧pks ρ1 xs=some ds∧aW p=true∧ρ1.set j .un=ρ3) (hj:j≠0):Ws (fY j f as g) ρ N R B C:=by
 obtain ⟨xs,ρ1,h1,ds,p,ρ3,h2,⟨o,h3,h4⟩,h5,h6,rfl⟩:=h
 exact ⟨o,by unfold fY;rw [if_neg hj,h1];dsimp only;rw [h5];dsimp only;rw [h2];dsimp only;rw [if_pos h6];exact h3,h4⟩
end
section
variable {N:Env→Dp→Prop} {R:Dat→Env→Prop} {ρ ρ':Env} {p:Dp}
end
section
variable {ρ:Env} {P:Dp→Prop} {Q:Dp→Env→Prop}
theorem Wp'.Call {f:List Dat→Option Dp} {as:List FE} (h:Was as ρ fun xs ρ1=>∃ ds p ρ2,f ds=some p∧Q p ρ2∧tks ρ1 xs=some (ds,ρ2)):Wp' (lU f as) ρ Q:=by
 obtain ⟨xs,ρ1,h1,ds,p,ρ2,h2,q,h3⟩:=h
 exact ⟨_,_,by unfold lU;rw [h1];dsimp only;rw [h3];dsimp only;rw [h2],q⟩
end
end Dm
namespace Fl
structure Tie where
 m:Int
 a:Int
 b:Int
deriving Inhabited
noncomputable def one (b:Bool):Int:=if b then 1 else 0
noncomputable def Ends (t:Tie) (p q:Int):Prop:=t.a≠t.b∧((t.a=p∧t.b=q)∨(t.b=p∧t.a=q))
theorem Ends.symm {t:Tie} {p q:Int} (h:Ends t p q):Ends t q p:=⟨h.1,h.2.symm.imp (fun x=>⟨x.2,x.1⟩) (fun x=>⟨x.2,x.1⟩)⟩
noncomputable abbrev Hd:=Int→Option Int
noncomputable def val (o:Option Int) (t:Tie) (S:Int→Bool):Int:=
 if t.a=t.b then 0 else if o=some t.b then one (S t.a)-one (S t.b) else if o=some t.a then one (S t.b)-one (S t.a) else 0
noncomputable def cI (r:List Tie) (H:Hd) (S:Int→Bool):Int:=match r with
 | []=>0
 | t::r=>val (H t.m) t S+cI r H S
noncomputable def put (H:Hd) (m:Int) (o:Option Int):Hd:=fun x=>if x=m then o else H x
theorem yk {r:List Tie} {H H':Hd} {S:Int→Bool} (h:∀ t∈r,H t.m=H' t.m):cI r H S=cI r H' S:=by
 induction r with
 | nil=>rfl
 | cons t r ih=>rw [cI,cI,h t List.mem_cons_self,ih fun u hu=>h u (List.mem_cons_of_mem _ hu)]
theorem rJ {r:List Tie} (nd:(r.map (·.m)).Nodup) {t:Tie} (ht:t∈r) (H:Hd) (o:Option Int) (S:Int→Bool):cI r (put H t.m o) S=cI r H S-val (H t.m) t S+val o t S:=by
 induction r with
 | nil=>cases ht
 | cons u r ih=>
  rw [List.map_cons,List.nodup_cons] at nd
  rcases List.mem_cons.mp ht with rfl | ht'
  ·rw [cI,cI]
   have e1:put H t.m o t.m=o:=by unfold put;rw [if_pos rfl]
   rw [e1,yk (H:=put H t.m o) (H':=H) fun v hv=>?_]
   ·omega
   ·unfold put
    rw [if_neg fun e=>?_]
    exact nd.1 (List.mem_map.mpr ⟨v,hv,e⟩)
  ·have hne:u.m≠t.m:=fun e=>nd.1 (List.mem_map.mpr ⟨t,ht',e.symm⟩)
   rw [cI,cI,ih nd.2 ht']
   have e1:put H t.m o u.m=H u.m:=by unfold put;rw [if_neg hne]
   rw [e1]
   omega
theorem gw {t:Tie} {p q:Int} (h:Ends t p q) (S:Int→Bool):val (some q) t S=one (S p)-one (S q):=by
 obtain ⟨h1,h2⟩:=h
 unfold val
 rw [if_neg h1]
 rcases h2 with ⟨rfl,rfl⟩ | ⟨rfl,rfl⟩
 ·rw [if_pos rfl]
 ·rw [if_neg (by intro e;injection e with e;exact h1 e),if_pos rfl]
theorem f_ (t:Tie) (S:Int→Bool):val none t S=0:=by
 unfold val
 split
 ·rfl
 ·simp
noncomputable def Ok (r:List Tie) (H:Hd):Prop:=∀ t∈r,∀ x,H t.m=some x→x=t.a∨x=t.b
noncomputable def gb (H:Hd) (m q:Int):Hd:=put H m (if (H m).isSome then none else some q)
theorem uw {r:List Tie} (nd:(r.map (·.m)).Nodup) {H:Hd} (ok:Ok r H) {t:Tie} (ht:t∈r) {p q:Int} (he:Ends t p q) (hf:H t.m≠some q) (S:Int→Bool) :
  cI r (gb H t.m q) S=cI r H S+one (S p)-one (S q):=by
 unfold gb
 rw [rJ nd ht]
 cases e:H t.m with
 | none=>
  simp only [Option.isSome_none,Bool.false_eq_true,if_false]
  rw [f_,gw he]
  omega
 | some x=>
  have hx:=ok t ht x e
  have:x=p:=by
   rw [e] at hf
   have hxq:x≠q:=fun z=>hf (by rw [z])
   obtain ⟨_,h2⟩:=he
   omega
  subst this
  simp only [Option.isSome_some,if_true]
  rw [f_,gw he.symm]
  omega
theorem uniq {r:List Tie} (nd:(r.map (·.m)).Nodup) {u t:Tie} (hu:u∈r) (ht:t∈r) (e:u.m=t.m):u=t:=by
 induction r with
 | nil=>cases hu
 | cons v r ih=>
  rw [List.map_cons,List.nodup_cons] at nd
  rcases List.mem_cons.mp hu with rfl | h1
  ·rcases List.mem_cons.mp ht with rfl | h2
   ·rfl
   ·exact absurd (List.mem_map.mpr ⟨t,h2,e.symm⟩) nd.1
  ·rcases List.mem_cons.mp ht with rfl | h2
   ·exact absurd (List.mem_map.mpr ⟨u,h1,e⟩) nd.1
   ·exact ih nd.2 h1 h2
theorem A3 {r:List Tie} (nd:(r.map (·.m)).Nodup) {H:Hd} (ok:Ok r H) {t:Tie} (ht:t∈r) {p q:Int} (he:Ends t p q):Ok r (gb H t.m q):=by
 intro u hu x hx
 unfold gb put at hx
 by_cases e:u.m=t.m
 ·rw [if_pos e] at hx
  have:u=t:=uniq nd hu ht e
  subst this
  split at hx
  ·cases hx
  ·injection hx with hx
   obtain ⟨_,h2⟩:=he
   omega
 ·rw [if_neg e] at hx
  exact ok u hu x hx
noncomputable abbrev Step:=Int×Int
noncomputable def Way (R:Int→Step→Prop):Int→List Step→Int→Prop
 | x,[],y=>x=y
 | x,s::w,y=>R x s∧Way R s.2 w y
theorem Way.snoc {R:Int→Step→Prop}:∀ {w:List Step} {x y:Int} {s:Step},Way R x w y→R y s→Way R x (w++[s]) s.2
 | [],_,_,_,h,k=>by cases h;exact ⟨k,rfl⟩
 | _::_,_,_,_,h,k=>⟨h.1,Way.snoc h.2 k⟩
theorem Way.mono {R R':Int→Step→Prop} (h:∀ p s,R p s→R' p s):∀ {w:List Step} {x y:Int},Way R x w y→Way R' x w y
 | [],_,_,k=>k
 | _::_,_,_,k=>⟨h _ _ k.1,Way.mono h k.2⟩
noncomputable def gf (r:List Tie) (p:Int) (s:Step):Prop:=∃ t∈r,t.m=s.1∧Ends t p s.2
noncomputable def dD (r:List Tie) (H:Hd) (p:Int) (s:Step):Prop:=gf r p s∧H s.1≠some s.2
noncomputable def Led (r:List Tie) (H:Hd) (p:Int) (s:Step):Prop:=gf r p s∧H s.1=some s.2
theorem jO {r:List Tie} (nd:(r.map (·.m)).Nodup) {R:Int→Step→Prop} (hR:∀ p s,R p s→gf r p s) {x y:Int} {s:Step} {w:List Step} (h:Way R x (s::w) y) (hn:(x::(s::w).map (·.2)).Nodup):∀ u∈w,u.1≠s.1:=by
 obtain ⟨h1,h2⟩:=h
 obtain ⟨t,ht,hm,he⟩:=hR _ _ h1
 have main:∀ (w:List Step) (z:Int),Way R z w y→(∀ u∈w,u.2≠x∧u.2≠s.2)→∀ u∈w,u.1≠s.1:=fun w=>by
  induction w with
  | nil=>intro z _ _ u hu;cases hu
  | cons v w ih=>
   intro z hw hd u hu
   rcases List.mem_cons.mp hu with rfl | hu
   ·intro e
    obtain ⟨t',ht',hm',he'⟩:=hR _ _ hw.1
    have:=uniq nd ht' ht (by rw [hm',e,hm])
    subst this
    obtain ⟨d1,d2⟩:=hd u List.mem_cons_self
    obtain ⟨_,he⟩:=he
    obtain ⟨_,he'⟩:=he'
    omega
   ·exact ih v.2 hw.2 (fun u hu=>hd u (List.mem_cons_of_mem _ hu)) u hu
 rw [List.map_cons,List.nodup_cons,List.nodup_cons] at hn
 refine main w s.2 h2 fun u hu=>⟨fun e=>hn.1 ?_,fun e=>hn.2.1 ?_⟩
 ·exact List.mem_cons_of_mem _ (List.mem_map.mpr ⟨u,hu,e⟩)
 ·exact List.mem_map.mpr ⟨u,hu,e⟩
theorem j9 {r:List Tie} (nd:(r.map (·.m)).Nodup) {R:Int→Step→Prop} (hR:∀ p s,R p s→gf r p s) {y:Int}:∀ {w:List Step} {x:Int},Way R x w y→(x::w.map (·.2)).Nodup→(w.map (·.1)).Nodup
 | [],_,_,_=>by simp
 | s::w,x,h,hn=>by
  rw [List.map_cons,List.nodup_cons]
  refine ⟨fun e=>?_,j9 nd hR h.2 (by rw [List.map_cons,List.nodup_cons] at hn;exact hn.2)⟩
  obtain ⟨u,hu,e⟩:=List.mem_map.mp e
  exact jO nd hR h hn u hu e
noncomputable def j_ (H:Hd):List Step→Hd
 | []=>H
 | s::w=>j_ (gb H s.1 s.2) w
theorem rK {H:Hd} {m q x:Int} (h:x≠m):gb H m q x=H x:=by unfold gb put;rw [if_neg h]
theorem g8 {r:List Tie} (nd:(r.map (·.m)).Nodup) (S:Int→Bool):∀ {w:List Step} {x y:Int} {H:Hd},Ok r H→Way (dD r H) x w y→(x::w.map (·.2)).Nodup →
  Ok r (j_ H w)∧cI r (j_ H w) S=cI r H S+one (S x)-one (S y)
 | [],x,y,H,ok,h,_=>by
  cases h
  exact ⟨ok,by rw [j_];omega⟩
 | s::w,x,y,H,ok,h,hn=>by
  have hfr:=jO nd (fun p s h=>h.1) h hn
  obtain ⟨⟨⟨t,ht,hm,he⟩,hf⟩,h2⟩:=h
  have ok1:=A3 nd ok ht he
  have f1:=uw nd ok ht he (by rw [hm];exact hf) S
  rw [hm] at ok1 f1
  have h3:Way (dD r (gb H s.1 s.2)) s.2 w y:=by
   have main:∀ (w:List Step) (z:Int),(∀ u∈w,u.1≠s.1)→Way (dD r H) z w y→Way (dD r (gb H s.1 s.2)) z w y:=fun w=>by
    induction w with
    | nil=>intro _ _ h;exact h
    | cons u w ih=>
     intro z hu hw
     exact ⟨⟨hw.1.1,by rw [rK (hu u List.mem_cons_self)];exact hw.1.2⟩,ih u.2 (fun v hv=>hu v (List.mem_cons_of_mem _ hv)) hw.2⟩
   exact main w s.2 hfr h2
  obtain ⟨k1,k2⟩:=g8 nd S ok1 h3 (by rw [List.map_cons,List.nodup_cons] at hn;exact hn.2)
  rw [j_]
  exact ⟨k1,by rw [k2,f1];omega⟩
noncomputable def ff (H:Hd):List Step→Hd
 | []=>H
 | s::w=>ff (put H s.1 none) w
theorem gg:∀ {w:List Step} {H:Hd} {x:Int},(∀ u∈w,u.1≠x)→ff H w x=H x
 | [],_,_,_=>rfl
 | s::w,H,x,h=>by
  rw [ff,gg fun u hu=>h u (List.mem_cons_of_mem _ hu)]
  unfold put
  rw [if_neg fun e=>h s List.mem_cons_self e.symm]
theorem g9:∀ {w:List Step} {H:Hd} {x:Int},x∈w.map (·.1)→ff H w x=none
 | [],_,_,h=>by cases h
 | s::w,H,x,h=>by
  rw [ff]
  by_cases e:x∈w.map (·.1)
  ·exact g9 e
  ·rw [gg fun u hu z=>e (List.mem_map.mpr ⟨u,hu,z⟩)]
   rw [List.map_cons] at h
   rcases List.mem_cons.mp h with rfl | h
   ·unfold put;rw [if_pos rfl]
   ·exact absurd h e
theorem g_ {r:List Tie} (nd:(r.map (·.m)).Nodup) (S:Int→Bool):∀ {w:List Step} {x y:Int} {H:Hd},Ok r H→Way (Led r H) x w y→(x::w.map (·.2)).Nodup →
  Ok r (ff H w)∧cI r (ff H w) S=cI r H S-one (S x)+one (S y)
 | [],x,y,H,ok,h,_=>by
  cases h
  exact ⟨ok,by rw [ff];omega⟩
 | s::w,x,y,H,ok,h,hn=>by
  have hfr:=jO nd (fun p s h=>h.1) h hn
  obtain ⟨⟨⟨t,ht,hm,he⟩,hf⟩,h2⟩:=h
  have ok1:Ok r (put H s.1 none):=fun u hu z hz=>by
   unfold put at hz
   split at hz
   ·cases hz
   ·exact ok u hu z hz
  have f1:=rJ nd ht H none S
  rw [f_,hm,hf,gw he] at f1
  have h3:Way (Led r (put H s.1 none)) s.2 w y:=by
   have main:∀ (w:List Step) (z:Int),(∀ u∈w,u.1≠s.1)→Way (Led r H) z w y→Way (Led r (put H s.1 none)) z w y:=fun w=>by
    induction w with
    | nil=>intro _ _ h;exact h
    | cons u w ih=>
     intro z hu hw
     exact ⟨⟨hw.1.1,by unfold put;rw [if_neg (hu u List.mem_cons_self)];exact hw.1.2⟩,ih u.2 (fun v hv=>hu v (List.mem_cons_of_mem _ hv)) hw.2⟩
   exact main w s.2 hfr h2
  obtain ⟨k1,k2⟩:=g_ nd S ok1 h3 (by rw [List.map_cons,List.nodup_cons] at hn;exact hn.2)
  rw [ff]
  exact ⟨k1,by rw [k2,f1];omega⟩
noncomputable def over (S:Int→Bool) (t:Tie):Bool:=S t.a != S t.b
theorem A4 {r:List Tie} {H:Hd} {S:Int→Bool} (hc:∀ p s,S p=true→dD r H p s→S s.2=true):cI r H S=((r.filter (over S)).length:Nat):=by
 have main:∀ (q:List Tie),(∀ t∈q,t∈r)→cI q H S=((q.filter (over S)).length:Nat):=fun q=>by
  induction q with
  | nil=>intro _;rfl
  | cons t q ih=>
   intro hq
   rw [cI,ih fun u hu=>hq u (List.mem_cons_of_mem _ hu)]
   by_cases ho:over S t=true
   ·rw [List.filter_cons_of_pos ho]
    have hne:t.a≠t.b:=fun e=>by unfold over at ho;rw [e] at ho;simp at ho
    have hv:val (H t.m) t S=1:=by
     unfold over at ho
     cases ha:S t.a with
     | true=>
      have hb:S t.b=false:=by rw [ha] at ho;simpa using ho
      have he:Ends t t.a t.b:=⟨hne,.inl ⟨rfl,rfl⟩⟩
      have:H t.m=some t.b:=Decidable.byContradiction fun e=>by
       have:=hc t.a (t.m,t.b) ha ⟨⟨t,hq t List.mem_cons_self,rfl,he⟩,e⟩
       rw [hb] at this
       cases this
      rw [this,gw he,ha,hb]
      rfl
     | false=>
      have hb:S t.b=true:=by rw [ha] at ho;simpa using ho
      have he:Ends t t.b t.a:=⟨hne,.inr ⟨rfl,rfl⟩⟩
      have:H t.m=some t.a:=Decidable.byContradiction fun e=>by
       have:=hc t.b (t.m,t.a) hb ⟨⟨t,hq t List.mem_cons_self,rfl,he⟩,e⟩
       rw [ha] at this
       cases this
      rw [this,gw he,ha,hb]
      rfl
    rw [hv,List.length_cons]
    omega
   ·rw [List.filter_cons_of_neg ho]
    have hv:val (H t.m) t S=0:=by
     unfold over at ho
     have:S t.a=S t.b:=by simpa using ho
     unfold val
     rw [this]
     split
     ·rfl
     ·split
      ·omega
      ·split<;>omega
    rw [hv]
    omega
 exact main r fun _ h=>h
theorem A5 {r:List Tie} {H:Hd} {S:Int→Bool} (ok:Ok r H) (hc:∀ p s,S p=true→Led r H p s→S s.2=true):cI r H S≤0:=by
 have main:∀ (q:List Tie),(∀ t∈q,t∈r)→cI q H S≤0:=fun q=>by
  induction q with
  | nil=>intro _;exact Int.le_refl _
  | cons t q ih=>
   intro hq
   rw [cI]
   have h1:=ih fun u hu=>hq u (List.mem_cons_of_mem _ hu)
   have hv:val (H t.m) t S≤0:=by
    by_cases hne:t.a=t.b
    ·unfold val;rw [if_pos hne];exact Int.le_refl _
    cases e:H t.m with
    | none=>rw [f_];exact Int.le_refl _
    | some x=>
     have key:∀ p,Ends t p x→val (some x) t S≤0:=fun p he=>by
      rw [gw he]
      cases hp:S p with
      | false=>cases S x<;>decide
      | true=>
       have:=hc p (t.m,x) hp ⟨⟨t,hq t List.mem_cons_self,rfl,he⟩,e⟩
       rw [this]
       decide
     rcases ok t (hq t List.mem_cons_self) x e with rfl | rfl
     ·exact key t.b ⟨hne,.inr ⟨rfl,rfl⟩⟩
     ·exact key t.a ⟨hne,.inl ⟨rfl,rfl⟩⟩
   omega
 exact main r fun _ h=>h
structure Flow (r:List Tie) (H:Hd) (a b:Int) (k:Nat):Prop where
 ok:Ok r H
 eq:∀ S,cI r H S=(k:Int)*(one (S a)-one (S b))
theorem Flow.zero (r:List Tie) (a b:Int):Flow r (fun _=>none) a b 0:=⟨fun _ _ _ h=>(by cases h),fun S=>by
 induction r with
 | nil=>simp [cI]
 | cons t r ih=>rw [cI,f_,ih];simp⟩
theorem Flow.more {r:List Tie} (nd:(r.map (·.m)).Nodup) {H:Hd} {a b:Int} {k:Nat} (f:Flow r H a b k) {w:List Step} (h:Way (dD r H) a w b) (hn:(a::w.map (·.2)).Nodup):Flow r (j_ H w) a b (k+1):=
 ⟨(g8 nd (fun _=>true) f.ok h hn).1,fun S=>by
  rw [(g8 nd S f.ok h hn).2,f.eq S]
  have:((k+1:Nat):Int)=(k:Int)+1:=by omega
  rw [this,Int.add_mul]
  omega⟩
theorem Flow.less {r:List Tie} (nd:(r.map (·.m)).Nodup) {H:Hd} {a b:Int} {k:Nat} (f:Flow r H a b (k+1)) {w:List Step} (h:Way (Led r H) a w b) (hn:(a::w.map (·.2)).Nodup):Flow r (ff H w) a b k:=
 ⟨(g_ nd (fun _=>true) f.ok h hn).1,fun S=>by
  rw [(g_ nd S f.ok h hn).2,f.eq S]
  have:((k+1:Nat):Int)=(k:Int)+1:=by omega
  rw [this,Int.add_mul]
  omega⟩
theorem Flow.cut {r:List Tie} {H:Hd} {a b:Int} {k:Nat} (f:Flow r H a b k) {S:Int→Bool} (ha:S a=true) (hb:S b=false) (hc:∀ p s,S p=true→dD r H p s→S s.2=true):(r.filter (over S)).length=k:=by
 have h1:=A4 hc
 rw [f.eq S,ha,hb] at h1
 simp [one] at h1
 omega
theorem Flow.reach {r:List Tie} {H:Hd} {a b:Int} {k:Nat} (f:Flow r H a b (k+1)) {S:Int→Bool} (ha:S a=true) (hc:∀ p s,S p=true→Led r H p s→S s.2=true):S b=true:=by
 cases hb:S b with
 | true=>rfl
 | false=>
  have h1:=A5 f.ok hc
  rw [f.eq S,ha,hb] at h1
  simp [one] at h1
  omega
end Fl
namespace Dm
noncomputable def Wn (f:FN) (ρ:Env) (r:List (List Dat)) (Q:Env→List (List Dat)→Prop):Prop:=∃ ρ' r',f ρ r=some (ρ',r')∧Q ρ' r'
section
variable {ρ:Env} {r:List (List Dat)} {Q:Env→List (List Dat)→Prop}
theorem Wn.For {it:FI} {bd:FB} {body:FN} (h:Wi it ρ fun ds ρ1=>Wn (fR bd body ds) ρ1 r Q):Wn (nJ it bd body) ρ r Q:=by
 obtain ⟨ds,ρ1,e1,ρ2,r2,e2,q⟩:=h
 exact ⟨ρ2,r2,by unfold nJ;rw [e1];exact e2,q⟩
end
theorem Wn.inv {α:Type} (enc:α→Dat) (bd:FB) (body:FN) (Q:Env→List (List Dat)→Prop) (I:List α→List α→Env→List (List Dat)→Prop):∀ (q p:List α) (ρ:Env) (r:List (List Dat)),I p q ρ r →
  (∀ p x q ρ r,I p (x::q) ρ r→∃ ρ1,bd (enc x) ρ=some ρ1∧Wn body ρ1 r (I (p++[x]) q))→(∀ p ρ r,I p [] ρ r→Q ρ r)→Wn (fR bd body (q.map enc)) ρ r Q
 | [],p,ρ,r,h,_,k=>⟨ρ,r,rfl,k p ρ r h⟩
 | x::q,p,ρ,r,h,s,k=>by
  obtain ⟨ρ1,e1,ρ2,r2,e2,h2⟩:=s p x q ρ r h
  obtain ⟨ρ3,r3,e3,h3⟩:=Wn.inv enc bd body Q I q (p++[x]) ρ2 r2 h2 s k
  refine ⟨ρ3,r3,?_,h3⟩
  rw [List.map_cons]
  unfold fR
  rw [e1]
  dsimp only
  rw [e2]
  exact e3
theorem v9 {α:Type} (enc:α→Dat) (bd:FB) (u:FE) (I:List α→List α→Env→Prop):∀ (q p:List α) (ρ:Env),I p q ρ →
  (∀ p x q ρ,I p (x::q) ρ→∃ ρ1,bd (enc x) ρ=some ρ1∧We u ρ1 fun _ ρ2=>I (p++[x]) q ρ2)→∃ ρ2 p',nEs bd u (q.map enc) ρ=some ρ2∧p'=p++q∧I p' [] ρ2
 | [],p,ρ,h,_=>⟨ρ,p,rfl,by simp,h⟩
 | x::q,p,ρ,h,s=>by
  obtain ⟨ρ1,e1,v,ρ2,e2,h2⟩:=s p x q ρ h
  obtain ⟨ρ3,p',e3,h3,h4⟩:=v9 enc bd u I q (p++[x]) ρ2 h2 s
  refine ⟨ρ3,p',?_,by rw [h3];simp,h4⟩
  rw [List.map_cons]
  unfold nEs
  rw [e1]
  dsimp only
  rw [e2]
  exact e3
theorem Wn.Row {j i:Nat} {e u:FE} {bd:FB} {ρ:Env} {r:List (List Dat)} {Q:Env→List (List Dat)→Prop} (h:We e ρ fun v ρ1=>∃ ds ρ2,v=.new (.lst ds)∧nEs bd u ds (ρ1.set i .un)=some ρ2∧Q ρ2 (r++[ds])) (hi:¬ (i=0∨i=j)) (hl:r.length<SZ):Wn (yg j i e bd u) ρ r Q:=by
 obtain ⟨v,ρ1,e1,ds,ρ2,rfl,e2,q⟩:=h
 refine ⟨ρ2,r++[ds],?_,q⟩
 unfold yg
 rw [if_neg hi,e1]
 dsimp only
 rw [e2]
 dsimp only
 rw [if_pos hl]
theorem Wq.aD {j:Nat} {loop:FN} {ρ ρ1:Env} {P:Dp→Prop} (h:Wn loop ρ1 [] fun _ r=>P (.l (r.map fun row=>.l (row.map .s)))) (h0:j≠0) (h1:ρ.set j .un=ρ1):Wq (oE j loop) ρ P:=by
 obtain ⟨ρ2,r2,e,q⟩:=h
 refine ⟨_,?_,q⟩
 unfold oE
 rw [if_neg h0,h1,e]
theorem Wq.Tree {j:Nat} {f:List Dat→Option Dp} {as:List FE} {ts:List PT} {ρ:Env} {P:Dp→Prop} (h:Was as ρ fun xs ρ1=>∃ ds ρ2 ys ps,tks ρ1 xs=some (ds,ρ2)∧f ds=some (.t ys)∧jm j (ρ2.set j .un) (.t ys) 0 ts=some ps∧ps.length≤SZ∧P (.t ps)) (h0:j≠0):Wq (l5 j f as ts) ρ P:=by
 obtain ⟨xs,ρ1,e1,ds,ρ2,ys,ps,e2,e3,e4,e5,q⟩:=h
 refine ⟨_,?_,q⟩
 unfold l5
 rw [if_neg h0,e1]
 dsimp only
 rw [e2]
 dsimp only
 rw [e3]
 dsimp only
 rw [e4]
 dsimp only
 rw [if_pos e5]
theorem HV {j lo:Nat} {ρ ρ':Env} {p:Dp} {f:FE} {r:List PT} {d:Dat} {ps:List Dp} (h:We f ρ' fun v _=>v=.val d) (e:see j ρ p=ρ') (hb:dJ d=false) (k:jm j ρ p lo r=some ps):jm j ρ p lo (.e f::r)=some (.s d::ps):=by
 obtain ⟨v,ρ1,e1,rfl⟩:=h
 rw [← e] at e1
 unfold jm
 rw [e1]
 dsimp only
 rw [if_neg (by rw [hb];exact Bool.false_ne_true),k]
theorem A6 {j lo z:Nat} {ρ:Env} {xs:List Dp} {r:List PT} {x:Dp} {ps:List Dp} (h:xs[z]?=some x) (hl:lo≤z) (k:jm j ρ (.t xs) (z+1) r=some ps):jm j ρ (.t xs) lo (.x z::r)=some (x::ps):=by
 unfold jm
 dsimp only
 rw [if_pos hl,h]
 dsimp only
 rw [k]
theorem A7 (r:List Dat):DJ (.l (r.map .s))=some r:=by
 unfold DJ
 dsimp only
 induction r with
 | nil=>rfl
 | cons x q ih=>rw [List.map_cons,List.foldr_cons,ih]
theorem yl (rs:List (List Dat)):oF (rs.map fun r=>.l (r.map .s))=some rs:=by
 induction rs with
 | nil=>rfl
 | cons x q ih=>
  rw [List.map_cons]
  unfold oF
  rw [A7,ih]
theorem Wc.L_ {j z i:Nat} {c:Int} {ρ ρ2:Env} {xs:List Dp} {rs:List (List Dat)} {N:Env→Dp→Prop} {R:Dat→Env→Prop} (q:N ρ2 (.t (xs.set z (.l (rs.map fun r=>.l ((r++[.int c]).map .s)))))) (hx:xs[z]?=some (.l (rs.map fun r=>.l (r.map .s)))) (hr:∀ r∈rs,r.length<SZ) (hi:¬ (i=0∨i=j)) (hn:ρ.set i .un=ρ2):Wc (j8 j z i c) ρ (.t xs) N R:=by
 refine ⟨.nx ρ2 _,?_,q⟩
 unfold j8
 rw [if_neg hi]
 dsimp only
 rw [hx]
 dsimp only
 rw [yl]
 dsimp only
 rw [if_pos (List.all_eq_true.mpr fun r h=>decide_eq_true (hr r h)),hn]
end Dm
namespace P
open Dm
noncomputable def jo:FN:=
  (nIf (tV (e2 gNe (eV 4) (eV 5))) (xU (t7 (eV 4) (kD [(eV 3),(eV 5)]))
  (t7 (eV 5) (kD [(eV 3),(eV 4)]))) nNx)
noncomputable def ym:List Dat→Option RV:=fn 2 4
  (av (lK 2 (iR1 (eV 0)) 1 (bN 6) (nJ (iS (eV 1)) (bT [3,4,5])
  jo))
  (sR (eV 2)))
noncomputable def A8:List Dat→Option RV:=fn 2 0
  (sR (a_ 0 1 (bN 2) gJ (a_ 2 1 (bN 3) (tV (e2 gNe (j3 (eV 1) (e2 gIx (eV 3) (eC (.int 0)))) (e2 gIx (eV 3) (eC (.int 1))))) (eV 3))))
noncomputable def yo:List Dat→Option RV:=fn 2 0
  (sR (a_ 0 1 (bN 2) gJ (a_ 2 1 (bN 3) (tV (e2 gEq (j3 (eV 1) (e2 gIx (eV 3) (eC (.int 0)))) (e2 gIx (eV 3) (eC (.int 1))))) (eV 3))))
noncomputable def Ff:FS:=
  (sIf (tV (e2 n9 (e2 gIx (eV 5) (eC (.int 1))) (eV 2))) (av (j4 2 (e2 gIx (eV 5) (eC (.int 1))) (e2 bL (e2 gDx (eV 2) (eV 4)) (cF [(eV 5)])))
  (qL 3 (e2 gIx (eV 5) (eC (.int 1))))) sNx)
noncomputable def Fg:FS:=
  (av (sA 4 (cL 3 (eC (.int 0))))
  (gU (iS (e2 gIx (eV 0) (eV 4))) (bN 5)
  Ff))
noncomputable def qd:List Dat→Option RV:=fn 2 4
  (av (sA 2 (eD1 (eV 1) (cF [])))
  (av (sA 3 (cF [(eV 1)]))
  (av (whD (tTr (eV 3))
  Fg 100)
  (sR (eV 2)))))
noncomputable def Fi:FS:=
  (sIf (tV (e2 xP (eV 2) (eV 0))) (sE (je 0 (eV 2))) (j4 0 (eV 2) (eV 3)))
noncomputable def A9:List Dat→Option (RV×Dat):=fnM 2 2
  (gU (iS (eV 1)) (bT [2,3])
  Fi)
noncomputable def Fj:FS:=
  (sE (je 5 (eV 9)))
noncomputable def Fo:FS:=
  (av (sA 8 (fF (iS (e2 gDx (eF qd [(eFd yo [(eV 0),(eV 5)]),(eV 2)]) (eV 3))) 1 (bN 10) gJ (e2 gIx (eV 10) (eC (.int 0)))))
  (av (gU (iS (eV 8)) (bN 9)
  Fj)
  (qL 6 (eV 8))))
noncomputable def Fp:FN:=
  (yg 6 8 (fF (iS (e2 gDx (eF qd [(eFd yo [(eV 0),(eV 5)]),(eV 2)]) (eV 3))) 1 (bN 10) gJ (e2 gIx (eV 10) (eC (.int 0)))) (bN 9) (je 5 (eV 9)))
noncomputable def ux:List Dat→Option RV:=fn 5 5
  (av (sA 5 (eB oh [(eV 1)]))
  (av (sA 6 (cF []))
  (av (gU (iR1 (eV 4)) (bN 7)
  Fo)
  (sR (eV 6)))))
noncomputable def cu:List Dat→Option Dp:=fnP 5 5
  (fu (sA 5 (eB oh [(eV 1)]))
  (oE 6 (nJ (iR1 (eV 4)) (bN 7)
  Fp)))
noncomputable def v_:FS:=
  (av (sA 9 (eF qd [(eFd A8 [(eV 5),(eV 6)]),(eV 2)]))
  (sIf (tV (e2 xP (eV 3) (eV 9))) (av (sE (eFm A9 6 [(e2 gDx (eV 9) (eV 3))]))
  (sA 8 (e2 bL (eV 8) (eC (.int 1))))) (sA 7 (eB lg [(eB jJ [(eV 9)])]))))
noncomputable def DX:List Dat→Option RV:=fn 5 5
  (av (sA 5 (eF ym [(eV 0),(eV 1)]))
  (av (sA 6 eDn)
  (av (sA 7 (eC .non))
  (av (sA 8 (eC (.int 0)))
  (av (whD (ku (tV (e2 gLt (eV 8) (eV 4))) (tV (e2 qX (eV 7) (eC .non))))
  v_ 100)
  (sR (kD [(eFd ux [(eV 5),(eV 6),(eV 2),(eV 3),(eV 8)]),(eV 7)])))))))
noncomputable def bU:List Dat→Option Dp:=fnP 5 5
  (fu (sA 5 (eF ym [(eV 0),(eV 1)]))
  (fu (sA 6 eDn)
  (fu (sA 7 (eC .non))
  (fu (sA 8 (eC (.int 0)))
  (fu (whD (ku (tV (e2 gLt (eV 8) (eV 4))) (tV (e2 qX (eV 7) (eC .non))))
  v_ 100)
  (qR (pT [(lU cu [(eV 5),(eV 6),(eV 2),(eV 3),(eV 8)]),(pO (eV 7))])))))))
noncomputable def DY:List Dat→Option RV:=fn 1 0
  (sR (gE (e1 (k9 isI) (eV 0)) (tK (e1 (k9 isB) (eV 0)))))
noncomputable def DZ:List Dat→Option RV:=fn 3 0
  (sR (gE (eF DY [(eV 0)]) (fK gLe gLe (eV 1) (eV 0) (eV 2))))
noncomputable def A_:List Dat→Option RV:=fn 2 0
  (sR (eF DZ [(eV 1),(eC (.int 0)),(e2 kB (eV 0) (eC (.int 1)))]))
noncomputable def wc:List Dat→Option RV:=fn 3 0
  (sR (gE (eF A_ [(eV 0),(eV 1)]) (gE (eF A_ [(eV 0),(eV 2)]) (e2 gNe (eV 1) (eV 2)))))
noncomputable def oH:List Dat→Option RV:=fn 3 0
  (sIf (b9 (tV (eF wc [(eV 0),(eV 1),(eV 2)]))) (fun _=>none) sNx)
noncomputable def oJ:List Dat→Option RV:=fn 2 0
  (sR (a_ 0 1 (bN 2) (tV (e2 gGe (e2 gIx (eV 2) (eC (.int 0))) (eV 1))) (eV 2)))
noncomputable def dF:List Dat→Option RV:=fn 6 1
  (av (sE (eF oH [(eV 0),(eV 2),(eV 3)]))
  (av (sA 6 (eF DX [(eV 0),(eF oJ [(eV 1),(eV 5)]),(eV 2),(eV 3),(eV 4)]))
  (sR (kD [(eB dS [(e2 gIx (eV 6) (eC (.int 0)))]),(e2 gIx (eV 6) (eC (.int 0))),(e2 gIx (eV 6) (eC (.int 1)))]))))
noncomputable def cy:List Dat→Option Dp:=fnP 6 1
  (fu (sE (eF oH [(eV 0),(eV 2),(eV 3)]))
  (l5 6 bU [(eV 0),(eF oJ [(eV 1),(eV 5)]),(eV 2),(eV 3),(eV 4)] [.e (eB dS [(e2 gIx (eV 6) (eC (.int 0)))]),.x 0,.x 1]))
noncomputable def Ba:FS:=
  (av (sA 3 (e2 fH (e2 bL (e2 bL (e2 gW (eV 3) (eC (.int 48271))) (e2 gW (eC (.int 7919)) (eV 5))) (eC (.int 3))) (eC (.int 2147483629))))
  (av (sA 3 (e2 fH (e2 gW (eV 3) (eV 3)) (eC (.int 2147483587))))
  (sA 4 (e2 bL (e2 gW (eV 4) (eC (.int 2147483587))) (e2 fH (e2 bL (e2 gW (eV 3) (eC (.int 69621))) (eV 1)) (eC (.int 2147483587)))))))
noncomputable def jq:List Dat→Option RV:=fn 2 4
  (av (sA 2 (eC (.int 0)))
  (av (sIf (tV (e2 gLt (eV 1) (eB dS [(eV 0)]))) (sA 2 (e2 gIx (eV 0) (eV 1))) sNx)
  (av (sIf (tV (e2 gGe (eV 2) (e2 gF (eC (.int 10)) (eC (.int 18))))) (sR (cF [(e2 fH (eV 2) (e2 jf (e2 jf (e2 jf (e2 jf (e2 gF (eC (.int 10)) (eC (.int 60))) (e2 gF (eC (.int 10)) (eC (.int 60)))) (e2 gF (eC (.int 10)) (eC (.int 60)))) (e2 gF (eC (.int 10)) (eC (.int 60)))) (e2 gF (eC (.int 10)) (eC (.int 60)))))])) sNx)
  (av (sA 3 (e2 fH (e2 bL (e2 bL (e2 bL (eV 2) (e2 gW (e2 gW (eC (.int 104729)) (eV 1)) (eV 1))) (e2 gW (eC (.int 7)) (eV 1))) (eC (.int 11))) (eC (.int 2147483647))))
  (av (sA 4 (eC (.int 0)))
  (av (gU (iR1 (eC (.int 40))) (bN 5)
  Ba)
  (sR (cF [(eV 4)]))))))))
noncomputable def aT:List Dat→Option (RV×Dat):=fnM 2 1
  (av (sA 2 (e2 fH (e2 gIx (eV 0) (eC (.int 0))) (eV 1)))
  (av (xD 0 (eC (.int 0)) (e2 xE (e2 gIx (eV 0) (eC (.int 0))) (eV 1)))
  (sR (eV 2))))
noncomputable def rL:List Dat→Option (RV×Dat):=fnM 1 0
  (sR (e2 gIx (cF [(eC (.int 1)),(eC (.int 2)),(eC (.int 3)),(eC (.int 4)),(eC (.int 5)),(eC (.int 6)),(eC (.int 4)),(eC (.int 10))]) (eFm aT 0 [(eC (.int 8))])))
noncomputable def Bb:FS:=
  (av (sA 11 (eFm aT 0 [(eV 1)]))
  (av (sA 12 (eFm aT 0 [(eV 1)]))
  (av (sIf (tV (e2 gEq (eV 7) (eC (.int 1)))) (sA 12 (e2 fH (e2 bL (eV 11) (eC (.int 1))) (eV 1))) sNx)
  (av (sIf (tV (e2 gEq (eV 7) (eC (.int 2)))) (sA 12 (e2 fH (e2 fH (e2 bL (e2 bL (eV 11) (e2 fH (eV 12) (eC (.int 2)))) (eC (.int 1))) (eB k_ [(eV 1),(eC (.int 3))])) (eV 1))) sNx)
  (av (qL 9 (kD [(eV 8),(eB k_ [(eV 11),(eV 12)]),(eB jY [(eV 11),(eV 12)])]))
  (sA 8 (e2 bL (e2 bL (eV 8) (eC (.int 1))) (e2 gW (eFm aT 0 [(eV 5)]) (eV 6)))))))))
noncomputable def oK:List Dat→Option (RV×Dat):=fnM 3 10
  (av (sA 3 (eFm aT 0 [(e2 bL (eV 2) (eC (.int 1)))]))
  (av (sA 4 (eFm aT 0 [(eC (.int 4))]))
  (av (sA 5 (e2 gIx (cF [(eC (.int 1)),(eC (.int 3)),(e2 gF (eC (.int 10)) (eC (.int 6))),(eC (.int 1000))]) (eV 4)))
  (av (sA 6 (e2 gIx (cF [(eC (.int 1)),(e2 gF (eC (.int 10)) (eC (.int 25)))]) (eB tM [(e2 gEq (eV 4) (eC (.int 3)))])))
  (av (sA 7 (eFm aT 0 [(eC (.int 4))]))
  (av (sA 8 (e2 gW (eFm aT 0 [(eV 5)]) (eV 6)))
  (av (sA 9 (cF []))
  (av (gU (iR1 (eV 3)) (bN 10)
  Bb)
  (sR (eV 9))))))))))
noncomputable def oM:List Dat→Option (RV×Dat):=fnM 2 1
  (av (sIf (tV (e2 gEq (eV 1) (cF []))) (sR (eFm aT 0 [(eC (.int 3))])) sNx)
  (av (sA 2 (e2 gIx (e2 gIx (eV 1) (eFm aT 0 [(eB dS [(eV 1)])])) (eC (.int 0))))
  (sR (e2 gIx (cF [(eC (.int 0)),(eV 2),(e2 bL (eV 2) (eC (.int 1))),(eB jY [(eC (.int 0)),(e2 kB (eV 2) (eC (.int 1)))]),(e2 bL (e2 gIx (e2 gIx (eV 1) (e1 CN (eC (.int 1)))) (eC (.int 0))) (eC (.int 1))),(eV 2)]) (eFm aT 0 [(eC (.int 6))])))))
noncomputable def jr:List Dat→Option RV:=fn 2 0
  (sR (a_ 0 1 (bN 2) (tV (e2 gGe (e2 gIx (eV 2) (eC (.int 0))) (eV 1))) (eV 2)))
noncomputable def we:List Dat→Option RV:=fn 1 0
  (sR (gE (e1 (k9 isI) (eV 0)) (tK (e1 (k9 isB) (eV 0)))))
noncomputable def l9:List Dat→Option RV:=fn 1 0
  (sR (eB tL [(a_ 0 1 (bN 1) gJ (eF we [(eV 1)]))]))
noncomputable def wg:List Dat→Option RV:=fn 2 0
  (sR (a_ 0 1 (bN 2) (tV (e2 gNe (e2 gIn (e2 gIx (eV 2) (eC (.int 1))) (eV 1)) (e2 gIn (e2 gIx (eV 2) (eC (.int 2))) (eV 1)))) (e2 gIx (eV 2) (eC (.int 0)))))
noncomputable def Bc:FS:=
  (j4 4 (e2 gIx (eV 5) (eC (.int 0))) (kD [(e2 gIx (eV 5) (eC (.int 1))),(e2 gIx (eV 5) (eC (.int 2)))]))
noncomputable def Bd:FS:=
  (av (sIf (tOr (tV (e2 n9 (eV 7) (eV 4))) (tOr (tV (e2 eG (eV 6) (e2 gDx (eV 4) (eV 7)))) (tV (e2 gEq (e2 gIx (e2 gDx (eV 4) (eV 7)) (eC (.int 0))) (e2 gIx (e2 gDx (eV 4) (eV 7)) (eC (.int 1))))))) (sR (eC (.bl false))) sNx)
  (sA 6 (e2 kB (eB n_ [(e2 gDx (eV 4) (eV 7))]) (eV 6))))
noncomputable def wj:List Dat→Option RV:=fn 4 4
  (av (sIf (tOr (b9 (tV (e1 (k9 isL) (eV 3)))) (tOr (b9 (tV (eF l9 [(eV 3)]))) (tV (e2 gNe (e1 eO (eV 3)) (eB dS [(eV 3)]))))) (sR (eC (.bl false))) sNx)
  (av (sA 4 eDn)
  (av (gU (iS (eV 0)) (bN 5)
  Bc)
  (av (sA 6 (eV 1))
  (av (gU (iS (eV 3)) (bN 7)
  Bd)
  (sR (e2 gEq (eV 6) (eV 2))))))))
noncomputable def Be:FS:=
  (av (sIf (b9 (tV (eF wj [(eV 0),(eV 1),(eV 2),(eV 5)]))) (sR (eC (.bl false))) sNx)
  (xT 4 (eV 5)))
noncomputable def wk:List Dat→Option RV:=fn 4 2
  (av (sIf (b9 (tV (e1 (k9 isL) (eV 3)))) (sR (eC (.bl false))) sNx)
  (av (sA 4 (cF []))
  (av (gU (iS (eV 3)) (bN 5)
  Be)
  (sR (e2 gEq (e1 eO (eV 4)) (eB dS [(eV 4)]))))))
noncomputable def wo:List Dat→Option RV:=fn 4 0
  (av (sIf (tOr (b9 (tV (e1 (k9 isT) (eV 1)))) (tOr (b9 (tV (eF l9 [(eV 1)]))) (tV (e2 gNe (eB fJ [(eV 1)]) (e1 d8 (eV 1)))))) (sR (eC (.bl false))) sNx)
  (sR (gE (eB tL [(a_ 1 1 (bN 4) gJ (fK gLe gLt (eC (.int 0)) (eV 4) (eV 0)))]) (gE (e2 gIn (eV 2) (eV 1)) (e2 eG (eV 3) (eV 1))))))
noncomputable def d9:List Dat→Option RV:=fn 6 3
  (av (sIf (tOr (b9 (tV (e1 (k9 isT) (eV 5)))) (tOr (tV (e2 gNe (eB dS [(eV 5)]) (eC (.int 3)))) (b9 (tV (eF we [(e2 gIx (eV 5) (eC (.int 0)))]))))) (sR (eC (.bl false))) sNx)
  (av (sU [6,7,8] (eV 5))
  (av (sIf (tOr (tV (e2 gGt (eV 6) (eV 4))) (tOr (b9 (tV (eF wk [(eV 1),(eV 2),(eV 3),(eV 7)]))) (tV (e2 gNe (eB dS [(eV 7)]) (eV 6))))) (sR (eC (.bl false))) sNx)
  (av (sIf (tV (e2 qX (eV 8) (eC .non))) (sR (e2 gEq (eV 6) (eV 4))) sNx)
  (sR (gE (e2 gLt (eV 6) (eV 4)) (gE (eF wo [(eV 0),(eV 8),(eV 2),(eV 3)]) (e2 gEq (eB dS [(eF wg [(eV 1),(eV 8)])]) (eV 6)))))))))
noncomputable def uy:FS:=
  (av (sA 2 (eF jq [(eV 0),(eV 1)]))
  (av (sA 3 (eB jY [(eC (.int 2)),(eFm rL 2 [])]))
  (av (sA 4 (eC (.int 14)))
  (av (sIf (tV (e2 gEq (eFm aT 2 [(eC (.int 5))]) (eC (.int 0)))) (av (sA 3 (e2 bL (eC (.int 2)) (eFm aT 2 [(eC (.int 3))])))
  (sA 4 (eC (.int 60)))) sNx)
  (av (sA 5 (eFn oK (eF jq [(eV 0),(e2 bL (eV 1) (eC (.int 1)))]) [(eV 3),(eV 4)]))
  (av (sA 2 (eF jq [(eV 0),(e2 bL (eV 1) (eC (.int 2)))]))
  (av (sA 6 (eFm aT 2 [(eV 3)]))
  (av (sA 7 (e2 fH (e2 bL (e2 bL (eV 6) (eC (.int 1))) (eFm aT 2 [(e2 kB (eV 3) (eC (.int 1)))])) (eV 3)))
  (av (sA 8 (e2 gIx (cF [(eC (.int 1)),(eC (.int 2)),(eC (.int 3)),(eC (.int 4)),(eC (.int 60)),(e2 bL (eC (.int 1)) (eFm aT 2 [(eC (.int 60))]))]) (eFm aT 2 [(eC (.int 6))])))
  (av (sA 9 (e2 gIx (cF [(eFm oM 2 [(eV 5)]),(e2 gF (eC (.int 10)) (eC (.int 31)))]) (eB tM [(e2 gEq (eFm aT 2 [(eC (.int 12))]) (eC (.int 0)))])))
  (av (sA 10 (eB fJ [(eV 5)]))
  (fY 11 cy [(eV 3),(eV 10),(eV 6),(eV 7),(eV 8),(eV 9)]
  (mIf 11 (b9 (tV (eF d9 [(eV 3),(eF jr [(eV 5),(eV 9)]),(eV 6),(eV 7),(eV 8),(eV 11)]))) (sR (eC (.bl false)))
  (mIf 11 (b9 (tV (eF d9 [(eV 3),(eV 5),(eV 6),(eV 7),(eV 8),(eFk 5 (fun ds=>dF (ds++[.int 0])) [(eV 3),(eV 10),(eV 6),(eV 7),(eV 8)])]))) (sR (eC (.bl false)))
  (kF (j6 11 12 (pT [(pO (e2 gIx (eV 11) (eC (.int 0)))),(jl (iS (e2 gIx (eV 11) (eC (.int 1)))) 1 (bN 16) (pO (eB fJ [(eV 16)]))),(pO (e2 gIx (eV 11) (eC (.int 2))))]))
  (kF (j8 11 1 13 0)
  (rm 1
  (av (sIf (tOr (tV (e2 gNe (eFk 5 dF ([(eV 3),(eV 10),(eV 6),(eV 7),(eV 8)]++[(eV 9)])) (eV 12))) (tV (e2 gNe (eV 10) (eV 5)))) (sR (eC (.bl false))) sNx)
  (sIf (tV (e2 gNe (eV 5) (cF []))) (av (sA 14 (cL 10 (eFm aT 2 [(eB dS [(eV 5)])])))
  (av (sA 15 (eF jr [(a_ 5 1 (bN 16) (tV (e2 gNe (eV 16) (eV 14))) (eV 16)),(eV 9)]))
  (sIf (b9 (tV (eF d9 [(eV 3),(eV 15),(eV 6),(eV 7),(eV 8),(eFk 5 dF [(eV 3),(eV 10),(eV 6),(eV 7),(eV 8),(eV 9)])]))) (sR (eC (.bl false))) sNx))) sNx)))))))))))))))))))
noncomputable def l_:List Dat→Option RV:=fn 1 15
  (av (gU (iRs (eC (.int 0)) (eB jY [(eC (.int 1)),(eB k_ [(eB dS [(eV 0)]),(eC (.int 12))])]) (eC (.int 3))) (bN 1)
  uy)
  (sR (eC (.bl true))))
end P
local macro_rules | `(tactic| array_get_dec)=>`(tactic| first | with_reducible refine Dm.Ws.seq ?_ | with_reducible refine Dm.We.e2 ?_ | ((with_reducible apply Dm.We.v);(focus rfl)) | ((with_reducible apply Dm.We.w);(focus rfl)) | with_reducible refine Dm.We.c ?_ | (refine Dm.WA.val ?_ (by first | (dsimp only [List.set];first | done | rfl) | rfl)) | (refine Dm.WA.new ?_ (by first | (dsimp only [List.set];first | done | rfl) | rfl)) | (refine Dm.WA.slot ?_ rfl (by first | (dsimp only [List.set];first | done | rfl) | rfl)) | with_reducible refine Dm.Ws.A ?_ (by decide) | with_reducible refine Dm.Ws.If ?_ | with_reducible refine Dm.Wt.V ?_ | with_reducible refine Dm.Wt.Not ?_ | with_reducible refine Dm.Wt.And ?_ | with_reducible refine Dm.Wt.Or ?_ | with_reducible refine Dm.Wt.T ?_ | (refine Dm.Wb.mk ?_) | (refine Dm.fy.mk ?_) | with_reducible refine Dm.Wif.t ?_ | with_reducible refine Dm.Wif.f ?_ | with_reducible refine Dm.Was.nil ?_ | with_reducible refine Dm.Was.cons ?_ | with_reducible refine Dm.We.B ?_ | with_reducible refine Dm.We.F ?_ | with_reducible refine Dm.We.T ?_ | with_reducible refine Dm.We.L ?_ | with_reducible refine Dm.We.e1 ?_ | with_reducible refine Dm.We.If ?_ | with_reducible refine Dm.We.And ?_ | with_reducible refine Dm.We.Or ?_ | with_reducible refine Dm.We.Not ?_ | with_reducible refine Dm.We.Sl ?_ | with_reducible refine Dm.We.SlT ?_ | with_reducible refine Dm.Wp.none ?_ | with_reducible refine Dm.Wp.some ?_ | (refine Dm.Wsl.A (enc:=Dm.Dat.int) ?_ rfl) | (refine Dm.Wsl.mk ?_ rfl) | (refine Dm.WT.mk ?_ rfl (by first | (dsimp only [List.set];first | done | rfl) | rfl) (by exact Nat.le_of_ble_eq_true rfl)) | (refine Dm.Wk.val ?_) | (refine Dm.Wk.new ?_) | (refine Dm.Wk.slot ?_ rfl (by first | (dsimp only [List.set];first | done | rfl) | rfl)) | with_reducible refine Dm.We.Dn ?_ | with_reducible refine Dm.We.D1 ?_ | with_reducible refine Dm.Ws.DR ?_ | (refine Dm.Mk ?_ rfl) | (refine Dm.uu rfl ?_) | (refine Dm.kM ?_ rfl (by first | (dsimp only [List.set];first | done | rfl) | rfl) ?_) | (refine Dm.Ws.App ?_ rfl) | (refine Dm.p8 ?_ rfl (by first | (dsimp only [List.set];first | done | rfl) | rfl) ?_) | with_reducible refine Dm.Ws.U ?_ | (refine Dm.Ma ?_ rfl (by first | (dsimp only [List.set];first | done | rfl) | rfl)) | with_reducible refine Dm.Ws.R ?_ | (refine Dm.WR.new ?_) | (refine Dm.WR.val ?_) | (refine Dm.WR.slot ?_ rfl) | with_reducible refine Dm.Ws.nx ?_ | with_reducible refine Dm.Ws.bk ?_ | with_reducible refine Dm.Ws.ct ?_ | with_reducible refine Dm.Ws.E ?_ | with_reducible refine Dm.Ws.For ?_ | with_reducible refine Dm.Wi.S ?_ | with_reducible refine Dm.Wi.L ?_ | with_reducible refine Dm.Wi.R1 ?_ | with_reducible refine Dm.Wi.R2 ?_ | (refine Dm.cW ?_) | (refine Dm.Lg ?_) | (refine Dm.Wg2.eq ?_ rfl rfl) | (refine Dm.Wg2.ne ?_ rfl rfl) | (refine Dm.Wg2.Fe ?_ rfl rfl ?_) | (refine Dm.Wg2.AZ ?_ rfl rfl ?_) | (refine Dm.Wg2.eqb ?_ rfl rfl) | (refine Dm.Wg2.neb ?_ rfl rfl) | (refine Dm.Wg2.Mb ?_ rfl rfl) | (refine Dm.Wg2.isb ?_ rfl rfl) | (refine Dm.Wg2.lt ?_ rfl rfl) | (refine Dm.Wg2.le ?_ rfl rfl) | (refine Dm.Wg2.gt ?_ rfl rfl) | (refine Dm.Wg2.ge ?_ rfl rfl) | (refine Dm.Wg2.add ?_ rfl rfl) | (refine Dm.Wg2.Ml ?_ rfl rfl ?_) | (refine Dm.Wg2.Mh ?_ rfl rfl ?_) | (refine Dm.Wg2.Kv ?_ rfl rfl ?_) | (refine Dm.Wg2.sub ?_ rfl rfl) | (refine Dm.Wg2.mul ?_ rfl rfl (by first | exact Or.inl (by decide) | exact Or.inr (by decide))) | (refine Dm.Wg2.mul ?_ rfl rfl ?_) | (refine Dm.Wg2.div ?_ rfl rfl (by decide)) | (refine Dm.Wg2.div ?_ rfl rfl ?_) | (refine Dm.Wg2.mod ?_ rfl rfl (by decide)) | (refine Dm.Wg2.mod ?_ rfl rfl ?_) | (refine Dm.Wg2.din ?_ rfl rfl) | (refine Dm.Wg2.HS ?_ rfl rfl) | (refine Dm.Wg2.inP ?_ rfl rfl) | (refine Dm.Wg2.Ky ?_ rfl rfl) | (refine Dm.Wg2.ix ?_ rfl rfl rfl) | (refine Dm.WB.qc (enc:=Dm.Dat.int) ?_ rfl) | (refine Dm.WB.len ?_ rfl) | (refine Dm.WB.Mm ?_ rfl) | (refine Dm.WB.min2 ?_ rfl) | (refine Dm.WB.max2 ?_ rfl) | (refine Dm.WB.list ?_ rfl) | (refine Dm.WB.int ?_ rfl) | (refine Dm.WB.sum2 ?_ rfl ?_) | (refine Dm.Wg1.Mn (enc:=Dm.Dat.int) ?_ rfl) | (refine Dm.Wg1.mk ?_ rfl rfl))
namespace P
open Dm Fl
noncomputable def bM (t:Tie):Dat:=.tup [.int t.m,.int t.a,.int t.b]
noncomputable def aK (r:List Tie):Dat:=.lst (r.map bM)
noncomputable def bC (s:Step):Dat:=.tup [.int s.1,.int s.2]
noncomputable def cA (w:List Step):Dat:=.lst (w.map bC)
noncomputable def Pl (n:Nat) (r:List Tie):Prop:=∀ t∈r,0≤t.a∧t.a<n∧0≤t.b∧t.b<n
noncomputable def cB (x:Int) (t:Tie):Option Step:=if t.a=t.b then none else if t.a=x then some (t.m,t.b) else if t.b=x then some (t.m,t.a) else none
noncomputable def aB (r:List Tie) (x:Int):List Step:=r.filterMap (cB x)
noncomputable def bY (n:Nat) (r:List Tie):List (List Dat):=(List.range n).map fun i:Nat=>(aB r i).map bC
theorem wu {i e:FE} {ρ ρ1 ρ2 ρ3:Env} {rows:List (List Dat)} {k:Int} {m:Nat} {row:List Dat} {x:Val} {d:Dat} (h1:i ρ=some (.val (.int k),ρ1)) (h2:ixN rows.length k=some m) (h3:rows[m]?=some row) (h4:e ρ1=some (x,ρ2)) (h5:tk ρ2 x=some (d,ρ3)) (h6:row.length<SZ) :
  t7 i e ρ rows=some (ρ3,rows.set m (row++[d])):=by
 unfold t7
 rw [h1]
 dsimp only
 rw [h2]
 dsimp only
 rw [h3]
 dsimp only
 rw [h4]
 dsimp only
 rw [h5]
 dsimp only
 rw [if_pos h6]
theorem jt (r:List Tie) (t:Tie) (x:Int):aB (r++[t]) x=aB r x++(cB x t).toList:=by
 unfold aB
 rw [List.filterMap_append]
 cases h:cB x t with
 | none=>simp [h]
 | some s=>simp [h]
theorem Bf {n:Nat} {k:Int} (h0:0≤k) (h1:k<n):ixN n k=some k.toNat:=by
 unfold ixN
 rw [if_pos h0,if_pos h1]
theorem gx (n:Nat) (r:List Tie) (i:Nat) (h:i<n):(bY n r)[i]?=some ((aB r i).map bC):=by
 unfold bY
 rw [List.getElem?_map,List.getElem?_range h]
 rfl
theorem dc (n:Nat) (r:List Tie):(bY n r).length=n:=by simp [bY]
theorem dO (r:List Tie) (x:Int):(aB r x).length≤r.length:=List.length_filterMap_le _ _
theorem uz (n:Nat) (r:List Tie) (t:Tie) (h:t.a≠t.b) (a0:0≤t.a) (a1:t.a<n) (b0:0≤t.b) (b1:t.b<n) :
  ((bY n r).set t.a.toNat ((aB r t.a).map bC++[bC (t.m,t.b)])).set t.b.toNat ((aB r t.b).map bC++[bC (t.m,t.a)])=bY n (r++[t]):=by
 apply List.ext_getElem?
 intro i
 by_cases hi:i<n
 ·rw [gx _ _ _ hi,jt,List.map_append]
  by_cases eb:t.b.toNat=i
  ·have e:(i:Int)=t.b:=by omega
   rw [← eb,List.getElem?_set_self (by rw [List.length_set,dc];omega),eb,e]
   have:cB t.b t=some (t.m,t.a):=by unfold cB;rw [if_neg h,if_neg (fun z=>h z),if_pos rfl]
   rw [this]
   rfl
  ·rw [List.getElem?_set_ne eb]
   by_cases ea:t.a.toNat=i
   ·have e:(i:Int)=t.a:=by omega
    rw [← ea,List.getElem?_set_self (by rw [dc];omega),ea,e]
    have:cB t.a t=some (t.m,t.b):=by unfold cB;rw [if_neg h,if_pos rfl]
    rw [this]
    rfl
   ·rw [List.getElem?_set_ne ea,gx _ _ _ hi]
    have:cB i t=none:=by unfold cB;rw [if_neg h,if_neg (by omega),if_neg (by omega)]
    rw [this]
    simp
 ·rw [List.getElem?_eq_none (by rw [List.length_set,List.length_set,dc];omega),List.getElem?_eq_none (by rw [dc];omega)]
theorem uA (n:Nat) (r:List Tie) (t:Tie) (h:t.a=t.b):bY n (r++[t])=bY n r:=by
 unfold bY
 apply List.map_congr_left
 intro i _
 rw [jt]
 have:cB i t=none:=by unfold cB;rw [if_pos h]
 rw [this]
 simp
theorem yp (n:Nat) (r:List Tie) (t:Tie) (hl:r.length<1000) (a0:0≤t.a) (a1:t.a<n) (b0:0≤t.b) (b1:t.b<n) (c0 c1 c2:Cell) :
  jo [c0,c1,c2,.sh (.int t.m),.sh (.int t.a),.sh (.int t.b)] (bY n r)=some ([c0,c1,c2,.sh (.int t.m),.sh (.int t.a),.sh (.int t.b)],bY n (r++[t])):=by
 have ht:tV (e2 gNe (eV 4) (eV 5)) [c0,c1,c2,.sh (.int t.m),.sh (.int t.a),.sh (.int t.b)]=some (!decide (t.a=t.b),[c0,c1,c2,.sh (.int t.m),.sh (.int t.a),.sh (.int t.b)]):=by
  unfold tV e2 eV
  simp [pk,p9,RV.bq]
 unfold jo nIf
 rw [ht]
 by_cases h:t.a=t.b
 ·rw [decide_eq_true h]
  rw [uA n r t h]
  rfl
 ·rw [decide_eq_false h]
  show xU _ _ _ _=_
  unfold xU
  have k1:=(dO r t.a)
  have k2:=(dO r t.b)
  have hz:SZ=100000:=rfl
  have ea:((t.a.toNat:Nat):Int)=t.a:=by omega
  have eb:((t.b.toNat:Nat):Int)=t.b:=by omega
  rw [wu (k:=t.a) (m:=t.a.toNat) (row:=(aB r t.a).map bC) (d:=bC (t.m,t.b)) (ρ3:=[c0,c1,c2,.sh (.int t.m),.sh (.int t.a),.sh (.int t.b)]) rfl (by rw [dc];exact Bf a0 a1) (by rw [gx _ _ _ (by omega),ea]) rfl rfl (by rw [List.length_map];omega)]
  dsimp only
  rw [wu (k:=t.b) (m:=t.b.toNat) (row:=(aB r t.b).map bC) (d:=bC (t.m,t.a)) (ρ3:=[c0,c1,c2,.sh (.int t.m),.sh (.int t.a),.sh (.int t.b)]) rfl (by rw [List.length_set,dc];exact Bf b0 b1)
   (by rw [List.getElem?_set_ne (by omega),gx _ _ _ (by omega),eb]) rfl rfl (by rw [List.length_map];omega)]
  rw [uz n r t h a0 a1 b0 b1]
theorem mh (n:Nat) (c0 c1 c2:Cell):∀ (q p:List Tie) (c3 c4 c5:Cell),Pl n q→p.length+q.length≤1000 →
  ∃ c3' c4' c5',fR (bT [3,4,5]) jo (q.map bM) [c0,c1,c2,c3,c4,c5] (bY n p)=some ([c0,c1,c2,c3',c4',c5'],bY n (p++q))
 | [],p,c3,c4,c5,_,_=>⟨c3,c4,c5,by rw [List.append_nil];rfl⟩
 | t::q,p,c3,c4,c5,hp,hl=>by
  obtain ⟨a0,a1,b0,b1⟩:=hp t List.mem_cons_self
  rw [List.length_cons] at hl
  obtain ⟨c3',c4',c5',e⟩:=mh n c0 c1 c2 q (p++[t]) (.sh (.int t.m)) (.sh (.int t.a)) (.sh (.int t.b)) (fun u hu=>hp u (List.mem_cons_of_mem _ hu)) (by rw [List.length_append,List.length_singleton];omega)
  refine ⟨c3',c4',c5',?_⟩
  rw [List.map_cons,fR]
  show (match jo [c0,c1,c2,.sh (.int t.m),.sh (.int t.a),.sh (.int t.b)] (bY n p) with | none=>none | some (ρ2,r2)=>fR (bT [3,4,5]) jo (q.map bM) ρ2 r2)=_
  rw [yp n p t (by omega) a0 a1 b0 b1]
  dsimp only
  rw [e,List.append_assoc]
  rfl
theorem Bg (pre:Env) (k:Nat) (hk:pre.length=k) (h0:k≠0):∀ (ds:List Dat) (c:Cell),∃ c',nMk (bN k) ds (pre++[c])=some (pre++[c'])
 | [],c=>⟨c,rfl⟩
 | d::ds,c=>by
  obtain ⟨c',e⟩:=Bg pre k hk h0 ds (.sh d)
  refine ⟨c',?_⟩
  rw [nMk]
  have:bN k d (pre++[c])=some (pre++[.sh d]):=by
   unfold bN
   rw [if_neg h0,List.set_append_right _ _ (by omega)]
   simp [hk]
  rw [this]
  exact e
noncomputable def bw (n:Nat) (R:Int→List Step):Dat:=.lst ((List.range n).map fun i:Nat=>cA (R i))
theorem rM (n:Nat) (hn:n≤1000) (r:List Tie) (hr:Pl n r) (hl:r.length≤1000):ym [.int n,aK r]=some (.new (bw n (aB r))):=by
 obtain ⟨c3,c4,c5,e⟩:=mh n (.sh (.int n)) (.sh (aK r)) .un r [] .un .un .un hr (by simpa using hl)
 obtain ⟨c',e2⟩:=Bg [.sh (.int n),.sh (aK r),.un,.un,.un,.un] 6 rfl (by decide) (ups 0 n) .un
 have h0:bY n []=List.replicate n []:=by
  unfold bY aB
  apply List.ext_getElem?
  intro i
  by_cases hi:i<n
  ·rw [List.getElem?_map,List.getElem?_range hi,List.getElem?_replicate,if_pos hi]
   rfl
  ·rw [List.getElem?_eq_none (by simp;omega),List.getElem?_eq_none (by simp;omega)]
 have hu:(ups 0 n).length=n:=by simp [ups]
 have e1:iR1 (eV 0) [.sh (.int n),.sh (aK r),.un,.un,.un,.un]=some (ups 0 n,[.sh (.int n),.sh (aK r),.un,.un,.un,.un]):=by
  show (if (n:Int)≤BIG∧-BIG≤(n:Int) then some (ups 0 (n:Int).toNat,_) else none)=_
  rw [if_pos (by unfold BIG;omega)]
  rfl
 rw [h0,List.nil_append] at e
 have en:lK 2 (iR1 (eV 0)) 1 (bN 6) (nJ (iS (eV 1)) (bT [3,4,5]) jo) [.sh (.int n),.sh (aK r),.un,.un,.un,.un]=some (.nx [.sh (.int n),.sh (aK r),.ow (bw n (aB r)),c3,c4,c5]):=by
  unfold lK
  rw [if_neg (by decide),e1]
  dsimp only
  rw [if_pos (by rw [hu];unfold SZ;omega)]
  show (match nMk (bN 6) (ups 0 n) ([.sh (.int n),.sh (aK r),.un,.un,.un,.un]++[.un]) with | none=>none | some ρ2=>_)=_
  rw [e2]
  dsimp only
  rw [hu]
  show (match nJ (iS (eV 1)) (bT [3,4,5]) jo [.sh (.int n),.sh (aK r),.un,.un,.un,.un] (List.replicate n []) with | none=>none | some (ρ3,r3)=>_)=_
  have:nJ (iS (eV 1)) (bT [3,4,5]) jo [.sh (.int n),.sh (aK r),.un,.un,.un,.un] (List.replicate n [])=some ([.sh (.int n),.sh (aK r),.un,c3,c4,c5],bY n r):=e
  rw [this]
  have e3:(bY n r).map Dat.lst=(List.range n).map fun i:Nat=>cA (aB r i):=by
   unfold bY
   rw [List.map_map]
   rfl
  show some (Out.nx [.sh (.int n),.sh (aK r),.ow (.lst ((bY n r).map Dat.lst)),c3,c4,c5])=_
  rw [e3]
  rfl
 apply Wr.eq
 unfold ym
 (refine Dm.Wr.fn ?_ rfl rfl;dsimp only [List.map,List.replicate,List.cons_append,List.nil_append])
 refine Ws.seq ⟨_,en,?_⟩
 refine Ws.R (We.w rfl (WR.slot ?_ rfl))
 rfl
noncomputable def hdF (h:List (Int×Int)):Hd:=fun m=>(h.find? fun e=>decide (e.1=m)).map (·.2)
noncomputable def hk (h:List (Int×Int)):List Int:=h.map (·.1)
noncomputable def hv (h:List (Int×Int)):List Dat:=h.map fun e=>Dat.int e.2
noncomputable def aP (h:List (Int×Int)):Dat:=.dct (hk h) (hv h)
theorem kO (h:List (Int×Int)) (m:Int):bz (hk h) (hv h) m=(hdF h m).map Dat.int:=by
 unfold hk hv hdF
 induction h with
 | nil=>rfl
 | cons e h ih=>
  rw [List.map_cons,List.map_cons,bz,List.find?_cons]
  by_cases q:e.1=m
  ·rw [if_pos q,decide_eq_true q];rfl
  ·rw [if_neg q,decide_eq_false q];exact ih
theorem qe {h:List (Int×Int)} {m:Int}:(hdF h m).isSome=decide (m∈hk h):=by
 unfold hdF hk
 induction h with
 | nil=>rfl
 | cons e h ih=>
  rw [List.find?_cons]
  by_cases q:e.1=m
  ·rw [decide_eq_true q];simp [q]
  ·rw [decide_eq_false q]
   have q':¬ m=e.1:=fun z=>q z.symm
   simp only [List.map_cons,List.mem_cons,q',false_or]
   exact ih
theorem HW (o:Option Int) (y:Int):gNe ((o.map Dat.int).getD .non) (.int y)=vB (!decide (o=some y)):=by
 cases o with
 | none=>rfl
 | some z=>
  show gNe (.int z) (.int y)=_
  rw [p9]
  have:(z=y)=(some z=some y):=by simp
  simp only [this]
theorem HX (o:Option Int) (y:Int):gEq ((o.map Dat.int).getD .non) (.int y)=vB (decide (o=some y)):=by
 cases o with
 | none=>rfl
 | some z=>
  show gEq (.int z) (.int y)=_
  rw [vY]
  have:(z=y)=(some z=some y):=by simp
  simp only [this]
noncomputable def rN (h:List (Int×Int)) (R:Int→List Step):Int→List Step:=fun x=>(R x).filter fun s=>!decide (hdF h s.1=some s.2)
noncomputable def rO (h:List (Int×Int)) (R:Int→List Step):Int→List Step:=fun x=>(R x).filter fun s=>decide (hdF h s.1=some s.2)
theorem wz (g:Dat→Dat→Option RV) (p:Option Int→Int→Bool) (hg:∀ o y,g ((o.map Dat.int).getD .non) (.int y)=vB (p o y)) (h:List (Int×Int)) (A:Cell) (w:List Step) (hl:w.length≤1000) :
  We (a_ 2 1 (bN 3) (tV (e2 g (j3 (eV 1) (e2 gIx (eV 3) (eC (.int 0)))) (e2 gIx (eV 3) (eC (.int 1))))) (eV 3)) [A,.sh (aP h),.sh (cA w)] fun v ρ'=>Wk ρ' v fun d ρ''=>d=cA (w.filter fun s=>p (hdF h s.1) s.2)∧ρ''=[A,.sh (aP h),.sh (cA w)]:=by
 refine We.Ku bC w (fun s=>p (hdF h s.1) s.2) id bC (d:=cA w) ?_ rfl rfl rfl (by decide) (by unfold SZ;omega) (fun s _=>?_) fun s _ _=>?_
 ·rw [List.map_id]
  exact Wk.new ⟨rfl,rfl⟩
 ·refine Wt.V (We.e2 (We.L7 (We.v rfl ⟨⟨_,_,rfl⟩,We.e2 (We.v rfl (We.c (Wg2.ix ?_ rfl rfl rfl)))⟩)))
  refine ⟨hk h,hv h,s.1,rfl,rfl,We.e2 (We.v rfl (We.c (Wg2.ix ?_ rfl rfl rfl)))⟩
  refine ⟨_,_,_,rfl,rfl,(by rw [kO];exact hg _ _),?_⟩
  exact Wb.mk ⟨rfl,rfl⟩
 ·exact We.v rfl (Wk.val ⟨rfl,rfl⟩)
theorem gR (n:Nat) (hn:n≤1000) (R:Int→List Step) (hR:∀ i:Nat,i<n→(R i).length≤1000) (h:List (Int×Int)):A8 [bw n R,aP h]=some (.new (bw n (rN h R))):=by
 apply Wr.eq
 unfold A8
 (refine Dm.Wr.fn ?_ rfl rfl;dsimp only [List.map,List.replicate,List.cons_append,List.nil_append])
 refine Ws.R ?_
 refine We.AX (fun i:Nat=>cA (R i)) (List.range n) id (fun i:Nat=>cA (rN h R i)) (d:=bw n R) ?_ rfl rfl rfl (by decide) (by rw [List.length_range];unfold SZ;omega) fun i hi=>?_
 ·rw [List.map_id];rfl
 ·exact wz gNe (fun o y=>!decide (o=some y)) HW h _ (R i) (hR i (List.mem_range.mp hi))
theorem qf (n:Nat) (hn:n≤1000) (R:Int→List Step) (hR:∀ i:Nat,i<n→(R i).length≤1000) (h:List (Int×Int)):yo [bw n R,aP h]=some (.new (bw n (rO h R))):=by
 apply Wr.eq
 unfold yo
 (refine Dm.Wr.fn ?_ rfl rfl;dsimp only [List.map,List.replicate,List.cons_append,List.nil_append])
 refine Ws.R ?_
 refine We.AX (fun i:Nat=>cA (R i)) (List.range n) id (fun i:Nat=>cA (rO h R i)) (d:=bw n R) ?_ rfl rfl rfl (by decide) (by rw [List.length_range];unfold SZ;omega) fun i hi=>?_
 ·rw [List.map_id];rfl
 ·exact wz gEq (fun o y=>decide (o=some y)) HX h _ (R i) (hR i (List.mem_range.mp hi))
theorem D0 (ks:List Int) (i:Int):(ks.any fun k=>decide (k=i))=decide (i∈ks):=by
 induction ks with
 | nil=>rfl
 | cons k ks ih=>
  rw [List.any_cons,ih]
  by_cases h:k=i
  ·simp [h]
  ·have h':¬ i=k:=fun z=>h z.symm
   simp [h,h']
theorem qg {ks:List Int} {vs:List Dat} {i:Int} {d:Dat} (h:i∉ks):i_ ks i=ks++[i]∧jb ks vs i d=vs++[d]:=by
 unfold i_ jb
 rw [D0,decide_eq_false h]
 exact ⟨rfl,rfl⟩
theorem yq {α:Type} (key:α→Int) (val:α→Dat) (xs:List α) (i:Int):bz (xs.map key) (xs.map val) i=(xs.find? fun x=>decide (key x=i)).map val:=by
 induction xs with
 | nil=>rfl
 | cons x xs ih=>
  rw [List.map_cons,List.map_cons,bz,List.find?_cons]
  by_cases h:key x=i
  ·simp [h]
  ·simp [h,ih]
theorem gy {α:Type} [DecidableEq α]:∀ (l m:List α),l.Nodup→(∀ x∈l,x∈m)→l.length≤m.length
 | [],_,_,_=>Nat.zero_le _
 | x::l,m,h,k=>by
  obtain ⟨h1,h2⟩:=List.nodup_cons.mp h
  have hx:x∈m:=k x List.mem_cons_self
  have:=gy l (m.erase x) h2 fun y hy=>(List.mem_erase_of_ne (fun e:y=x=>h1 (by rw [← e];exact hy))).mpr (k y (List.mem_cons_of_mem _ hy))
  rw [List.length_erase_of_mem hx] at this
  have:=List.length_pos_of_mem hx
  simp
  omega
noncomputable def places (n:Nat):List Int:=(List.range n).map fun i:Nat=>(i:Int)
theorem places_len (n:Nat):(places n).length=n:=by simp [places]
theorem uB (n:Nat) (x:Int):x∈places n↔0≤x∧x<n:=by
 unfold places
 rw [List.mem_map]
 constructor
 ·rintro ⟨i,hi,rfl⟩
  have:=List.mem_range.mp hi
  omega
 ·rintro ⟨h0,h1⟩
  exact ⟨x.toNat,List.mem_range.mpr (by omega),by omega⟩
noncomputable abbrev Sr:=List (Int×List Step)
noncomputable def sk (s:Sr):List Int:=s.map (·.1)
noncomputable def sv (s:Sr):List Dat:=s.map fun e=>cA e.2
noncomputable def InR (R:Int→List Step) (p:Int) (s:Step):Prop:=s∈R p
structure mj (R:Int→Step→Prop) (a:Int) (w:List Step) (p:Int):Prop where
 way:Way R a w p
 nd:(a::w.map (·.2)).Nodup
structure Fnd (n:Nat) (R:Int→List Step) (a:Int) (s:Sr):Prop where
 nd:(sk s).Nodup
 pl:∀ x∈sk s,0≤x∧x<n
 st:a∈sk s
 way:∀ e∈s,mj (InR R) a e.2 e.1∧∀ x∈a::e.2.map (·.2),x∈sk s
theorem Fnd.len {n:Nat} {R:Int→List Step} {a:Int} {s:Sr} (h:Fnd n R a s):s.length≤n:=by
 have:=gy (sk s) (places n) h.nd fun x hx=>(uB n x).mpr (h.pl x hx)
 rw [places_len] at this
 simpa [sk] using this
theorem Fnd.yr {n:Nat} {R:Int→List Step} {a:Int} {s:Sr} (h:Fnd n R a s) {e:Int×List Step} (he:e∈s):e.2.length<s.length:=by
 obtain ⟨h1,h2⟩:=h.way e he
 have:=gy (a::e.2.map (·.2)) (sk s) h1.nd h2
 simp [sk] at this
 omega
theorem cX (s:Sr) (x:Int) (w:List Step):sk (s++[(x,w)])=sk s++[x]:=by simp [sk]
theorem D3 (s:Sr) (x:Int) (w:List Step):sv (s++[(x,w)])=sv s++[cA w]:=by simp [sv]
theorem qh (s:Sr) (x:Int):(∃ w,(x,w)∈s∧bz (sk s) (sv s) x=some (cA w))∨(x∉sk s∧bz (sk s) (sv s) x=none):=by
 unfold sk sv
 rw [yq (fun e:Int×List Step=>e.1) (fun e=>cA e.2) s x]
 cases hf:s.find? fun e=>decide (e.1=x) with
 | none=>
  refine Or.inr ⟨fun h=>?_,rfl⟩
  obtain ⟨e,he,hx⟩:=List.mem_map.mp h
  have:=List.find?_eq_none.mp hf e he
  simp [hx] at this
 | some e=>
  have h1:=List.mem_of_find?_eq_some hf
  have h2:=List.find?_some hf
  have h2:e.1=x:=by simpa using h2
  exact Or.inl ⟨e.2,by rw [← h2];exact h1,rfl⟩
theorem kc (s:Sr) (x:Int):(bz (sk s) (sv s) x).isSome=decide (x∈sk s):=by
 rcases qh s x with ⟨ts,h1,h2⟩ | ⟨h1,h2⟩
 ·have:x∈sk s:=List.mem_map.mpr ⟨_,h1,rfl⟩
  rw [h2,decide_eq_true this];rfl
 ·rw [h2,decide_eq_false h1];rfl
theorem Fnd.start {n:Nat} {R:Int→List Step} {a:Int} (a0:0≤a) (a1:a<n):Fnd n R a [(a,[])] where
 nd:=by simp [sk]
 pl:=by intro x hx;simp [sk] at hx;subst hx;exact ⟨a0,a1⟩
 st:=by simp [sk]
 way:=by
  intro e he
  simp at he
  subst he
  exact ⟨⟨rfl,by simp⟩,by simp [sk]⟩
theorem Fnd.step {n:Nat} {R:Int→List Step} {a:Int} {s:Sr} (h:Fnd n R a s) {p:Int} {w:List Step} (hp:(p,w)∈s) {u:Step} (hu:u∈R p) (hn:u.2∉sk s) (u0:0≤u.2) (u1:u.2<n):Fnd n R a (s++[(u.2,w++[u])]) where
 nd:=by
  rw [cX]
  exact List.nodup_append.mpr ⟨h.nd,by simp,fun x hx y hy=>by rw [List.mem_singleton.mp hy];exact fun e=>hn (e▸hx)⟩
 pl:=by
  intro x hx
  rw [cX] at hx
  rcases List.mem_append.mp hx with hx | hx
  ·exact h.pl x hx
  ·rw [List.mem_singleton.mp hx];exact ⟨u0,u1⟩
 st:=by rw [cX];exact List.mem_append_left _ h.st
 way:=by
  intro e he
  rw [cX]
  rcases List.mem_append.mp he with he | he
  ·obtain ⟨k1,k2⟩:=h.way e he
   exact ⟨k1,fun x hx=>List.mem_append_left _ (k2 x hx)⟩
  ·rw [List.mem_singleton.mp he]
   obtain ⟨k1,k2⟩:=h.way _ hp
   refine ⟨⟨k1.way.snoc hu,?_⟩,fun x hx=>?_⟩
   ·dsimp only at k1 k2 ⊢
    rw [List.map_append,← List.cons_append]
    exact List.nodup_append.mpr ⟨k1.nd,by simp,fun x hx y hy=>by rw [List.mem_singleton.mp hy];exact fun e:x=u.2=>hn (by rw [← e];exact k2 x hx)⟩
   ·dsimp only at k1 k2 hx ⊢
    rw [List.map_append,← List.cons_append] at hx
    rcases List.mem_append.mp hx with hx | hx
    ·exact List.mem_append_left _ (k2 x hx)
    ·exact List.mem_append_right _ (by simpa using hx)
noncomputable def Done (R:Int→List Step) (K:List Int) (x:Int):Prop:=∀ u∈R x,u.2∈K
noncomputable def D4 (n:Nat) (R:Int→List Step) (a:Int) (s:Sr) (ps:List Int) (c4 c5:Cell):Env:=[.sh (bw n R),.sh (.int a),.ow (.dct (sk s) (sv s)),.ow (.lst (ps.map Dat.int)),c4,c5]
theorem HY {ps:List Int} {p0:Int} {i:Nat} {e:FE} {ρ ρ2:Env} {Q:Val→Env→Prop} (q:Q (.val (.int p0)) ρ2) (h:ρ[i]?=some (.ow (.lst ((p0::ps).map Dat.int)))) (he:e ρ=some (.val (.int 0),ρ)) (hs:ρ.set i (.ow (.lst (ps.map Dat.int)))=ρ2):We (cL i e) ρ Q:=
 ⟨_,_,by
  unfold cL
  rw [h]
  dsimp only
  rw [he]
  dsimp only
  rw [h]
  dsimp only
  rw [if_pos (by unfold BIG;omega)]
  show some (Val.val (.int p0),ρ.set i (.ow (.lst (ps.map Dat.int))))=_
  rw [hs],q⟩
theorem D5 (n:Nat) (R:Int→List Step) (x:Int) (h0:0≤x) (h1:x<n):gIx (bw n R) (.int x)=some (.val (cA (R x))):=by
 unfold bw gIx
 dsimp only
 rw [p_ (fun i:Nat=>cA (R i)) (List.range n) x h0 (by rw [List.length_range];exact h1)]
 have e:(((List.range n)[x.toNat]'(by rw [List.length_range];omega):Nat):Int)=x:=by rw [List.getElem_range];omega
 rw [e]
 rfl
theorem kg (n:Nat) (hn:n≤40) (R:Int→List Step) (hR:∀ i:Int,0≤i→i<n→∀ u∈R i,0≤u.2∧u.2<n) (a:Int) (a0:0≤a) (a1:a<n) :
  ∃ s:Sr,qd [bw n R,.int a]=some (.new (.dct (sk s) (sv s)))∧Fnd n R a s∧∀ x∈sk s,Done R (sk s) x:=by
 suffices h:Wr (qd [bw n R,.int a]) fun v=>∃ s:Sr,v=.new (.dct (sk s) (sv s))∧Fnd n R a s∧∀ x∈sk s,Done R (sk s) x by
  obtain ⟨v,h1,s,rfl,h2⟩:=h
  exact ⟨s,h1,h2⟩
 unfold qd
 (refine Dm.Wr.fn ?_ rfl rfl;dsimp only [List.map,List.replicate,List.cons_append,List.nil_append])
 repeat array_get_dec
 refine Ws.wh (fun k ρ=>∃ (s:Sr) (ps:List Int) (c4 c5:Cell),ρ=D4 n R a s ps c4 c5∧Fnd n R a s∧(∀ x∈ps,x∈sk s)∧(∀ x∈sk s,x∈ps∨Done R (sk s) x)∧k=ps.length+(n-s.length)∧k≤40) ?_ 100 n _ (by omega) ⟨[(a,[])],[a],_,_,rfl,Fnd.start a0 a1,by simp [sk],by simp [sk],by simp;omega,hn⟩
 rintro k ρ ⟨s,ps,c4,c5,rfl,F,hps,hd,hk,Mp⟩
 unfold D4
 refine Wt.Tr ?_
 refine We.w rfl ?_
 refine ⟨_,!(ps.map Dat.int).isEmpty,rfl,rfl,?_⟩
 have len:=F.len
 cases ps with
 | nil=>
  refine Wif.no rfl ?_
  refine Ws.R (We.w rfl (WR.slot ?_ rfl))
  exact ⟨s,rfl,F,fun x hx=>(hd x hx).resolve_left (by simp)⟩
 | cons p0 ps0=>
  refine Wif.yes rfl ?_
  unfold Fg
  refine Ws.seq (Ws.A ?_ (by decide))
  refine HY (ps:=ps0) (p0:=p0) ?_ rfl rfl rfl
  refine WA.val ?_ (by first | (dsimp only [List.set];first | done | rfl) | rfl)
  have hp0:p0∈sk s:=hps p0 (by simp)
  obtain ⟨q0,q1⟩:=F.pl p0 hp0
  refine Ws.For (Wi.S (We.e2 (We.v rfl (We.v rfl (Wg2.ix ?_ rfl rfl (D5 n R p0 q0 q1))))))
  refine Wk.val (cW ?_)
  refine Ws.inv bC _ _ (R p0) _ _ _ _ _ (fun p q ρ=>∃ (s:Sr) (ps:List Int) (c5:Cell),ρ=D4 n R a s ps (.sh (.int p0)) c5∧Fnd n R a s∧(∀ x∈ps,x∈sk s)∧p0∈sk s∧(∀ x∈sk s,x∈ps∨x=p0∨Done R (sk s) x)∧(∀ u∈p,u.2∈sk s)∧k=ps.length+1+(n-s.length)) ⟨s,ps0,_,rfl,F,fun x hx=>hps x (by simp [hx]),hp0,?_,by simp,by rw [hk];simp⟩ ?_ ?_
  ·intro x hx
   rcases hd x hx with h | h
   ·rcases List.mem_cons.mp h with h | h
    ·exact .inr (.inl h)
    ·exact .inl h
   ·exact .inr (.inr h)
  ·rintro p u q ρ e' ⟨s,ps,c5,rfl,F,hps,hp0,hd,hp,hk⟩
   have len:=F.len
   have hu:u∈R p0:=by rw [e'];simp
   obtain ⟨u0,u1⟩:=hR p0 q0 q1 u hu
   unfold D4
   refine Dm.cD rfl (by first | (dsimp only [List.set];first | done | rfl) | rfl) ?_
   unfold Ff
   refine Ws.If (Wt.V (We.e2 (We.e2 (We.v rfl (We.c (Wg2.ix ?_ rfl rfl rfl))))))
   refine We.w rfl (Wg2.HS ?_ rfl rfl)
   refine Wb.mk ?_
   rw [kc]
   refine ⟨fun h=>?_,fun h=>?_⟩
   ·have hnew:=ndT h
    obtain ⟨w,t1,t2⟩:∃ w,(p0,w)∈s∧bz (sk s) (sv s) p0=some (cA w):=by
     rcases qh s p0 with h | h
     ·exact h
     ·exact absurd hp0 h.1
    have wl:=F.yr t1
    refine Ws.seq (Ws.DR (We.e2 (We.e2 (We.w rfl (We.v rfl (Wg2.dx t2 ?_ rfl rfl))))))
    refine We.L (Was.cons (We.v rfl (Was.nil (WT.mk ?_ rfl rfl (by exact Nat.le_of_ble_eq_true rfl)))))
    refine Wg2.Kv ?_ rfl rfl (by rw [List.length_map];dsimp only at wl;simp;unfold SZ;omega)
    refine Wk.new (uu rfl (We.e2 (We.v rfl (We.c (Wg2.ix ?_ rfl rfl rfl)))))
    refine fy.mk (kM ?_ rfl (by first | (dsimp only [List.set];first | done | rfl) | rfl) (by simp only [sk,List.length_map];unfold SZ;omega))
    refine Ws.App (We.e2 (We.v rfl (We.c (Wg2.ix ?_ rfl rfl rfl)))) rfl
    refine Wk.val (p8 ?_ rfl (by first | (dsimp only [List.set];first | done | rfl) | rfl) (by rw [List.length_map];unfold SZ;omega))
    have F':=F.step t1 hu hnew u0 u1
    have len':=F'.len
    have em:Dat.lst (w.map bC++[bC u])=cA (w++[u]):=by simp [cA]
    obtain ⟨p1,p2⟩:=qg (ks:=sk s) (vs:=sv s) (i:=u.2) (d:=cA (w++[u])) hnew
    refine ⟨s++[(u.2,w++[u])],ps++[u.2],.sh (bC u),?_,F',?_,?_,?_,?_,?_⟩
    ·rw [em,p1,p2,cX,D3,List.map_append]
     rfl
    ·intro x hx
     rw [cX]
     rcases List.mem_append.mp hx with hx | hx
     ·exact List.mem_append_left _ (hps x hx)
     ·exact List.mem_append_right _ hx
    ·rw [cX];exact List.mem_append_left _ hp0
    ·intro x hx
     rw [cX] at hx ⊢
     rcases List.mem_append.mp hx with hx | hx
     ·rcases hd x hx with h | h | h
      ·exact .inl (List.mem_append_left _ h)
      ·exact .inr (.inl h)
      ·exact .inr (.inr fun y hy=>List.mem_append_left _ (h y hy))
     ·exact .inl (List.mem_append_right _ hx)
    ·intro v hv
     rw [cX]
     rcases List.mem_append.mp hv with hv | hv
     ·exact List.mem_append_left _ (hp v hv)
     ·rw [List.mem_singleton.mp hv];simp
    ·rw [hk];simp at len' ⊢;omega
   ·have hold:=ndF h
    refine Ws.nx ?_
    refine ⟨s,ps,.sh (bC u),rfl,F,hps,hp0,hd,fun v hv=>?_,hk⟩
    rcases List.mem_append.mp hv with hv | hv
    ·exact hp v hv
    ·rw [List.mem_singleton.mp hv];exact hold
  ·rintro ρ ⟨s,ps,c5,rfl,F,hps,hp0,hd,hp,hk⟩
   refine ⟨ps.length+(n-s.length),by omega,s,ps,_,_,rfl,F,hps,fun x hx=>?_,rfl,by omega⟩
   rcases hd x hx with h | rfl | h
   ·exact .inl h
   ·exact .inr hp
   ·exact .inr h
noncomputable def kh (h:List (Int×Int)) (s:Step):List (Int×Int):=if s.1∈hk h then h.filter fun e=>decide (e.1≠s.1) else h++[s]
theorem mq (h:List (Int×Int)) (m:Int):hdF (h.filter fun e=>decide (e.1≠m))=put (hdF h) m none:=by
 funext x
 unfold put hdF
 rw [List.find?_filter]
 by_cases e:x=m
 ·subst e
  rw [if_pos rfl,List.find?_eq_none.mpr fun y _=>by simp]
  rfl
 ·rw [if_neg e]
  congr 1
  congr 1
  funext y
  by_cases q:y.1=x
  ·have:y.1≠m:=fun z=>e (q.symm.trans z)
   simp [q,e]
  ·simp [q]
theorem D6 (h:List (Int×Int)) (s:Step) (hn:s.1∉hk h):hdF (h++[s])=put (hdF h) s.1 (some s.2):=by
 funext x
 unfold put hdF
 rw [List.find?_append]
 by_cases e:x=s.1
 ·subst e
  rw [if_pos rfl]
  have:(h.find? fun e=>decide (e.1=s.1))=none:=List.find?_eq_none.mpr fun y hy=>by
   intro z
   exact hn (List.mem_map.mpr ⟨y,hy,of_decide_eq_true z⟩)
  rw [this]
  simp
 ·rw [if_neg e]
  have e':¬ s.1=x:=fun z=>e z.symm
  cases hf:(h.find? fun e=>decide (e.1=x)) with
  | none=>simp [e']
  | some y=>rfl
theorem Bh (h:List (Int×Int)) (s:Step):hdF (kh h s)=gb (hdF h) s.1 s.2:=by
 unfold kh gb
 rw [qe]
 by_cases q:s.1∈hk h
 ·rw [if_pos q,if_pos (decide_eq_true q),mq]
 ·rw [if_neg q,if_neg (by simpa using q),D6 h s q]
noncomputable def bK (h:List (Int×Int)):List Step→List (Int×Int)
 | []=>h
 | s::w=>bK (kh h s) w
theorem oN:∀ (w:List Step) (h:List (Int×Int)),hdF (bK h w)=j_ (hdF h) w
 | [],_=>rfl
 | s::w,h=>by rw [bK,j_,oN w,Bh]
theorem gh:∀ (w:List Step) (h:List (Int×Int)) (s:Step),bK h (w++[s])=kh (bK h w) s
 | [],_,_=>rfl
 | _::w,h,s=>by rw [List.cons_append,bK,bK,gh w]
theorem gA (h:List (Int×Int)) (m:Int):eS (hk h) (hv h) m=hk (h.filter fun e=>decide (e.1≠m))∧eT (hk h) (hv h) m=hv (h.filter fun e=>decide (e.1≠m)):=by
 unfold hk hv
 induction h with
 | nil=>exact ⟨rfl,rfl⟩
 | cons e h ih=>
  rw [List.map_cons,List.map_cons,eS,eT]
  by_cases q:e.1=m
  ·rw [if_pos q,if_pos q,List.filter_cons_of_neg (by simpa using q)];exact ih
  ·rw [if_neg q,if_neg q,List.filter_cons_of_pos (by simpa using q),List.map_cons,List.map_cons,ih.1,ih.2];exact ⟨rfl,rfl⟩
structure Hok (r:List Tie) (h:List (Int×Int)):Prop where
 nd:(hk h).Nodup
 sub:∀ m∈hk h,m∈r.map (·.m)
theorem Hok.len {r:List Tie} {h:List (Int×Int)} (k:Hok r h):h.length≤r.length:=by
 have:=gy (hk h) (r.map (·.m)) k.nd k.sub
 simpa [hk] using this
theorem Hok.nil (r:List Tie):Hok r []:=⟨by simp [hk],by simp [hk]⟩
theorem Hok.drop {r:List Tie} {h:List (Int×Int)} (k:Hok r h) (m:Int):Hok r (h.filter fun e=>decide (e.1≠m)):=by
 refine ⟨(k.nd.sublist (List.Sublist.map _ (List.filter_sublist))),fun x hx=>k.sub x ?_⟩
 obtain ⟨e,he,rfl⟩:=List.mem_map.mp hx
 exact List.mem_map.mpr ⟨e,(List.mem_filter.mp he).1,rfl⟩
theorem Hok.lead {r:List Tie} {h:List (Int×Int)} (k:Hok r h) {s:Step} (hs:s.1∈r.map (·.m)):Hok r (kh h s):=by
 unfold kh
 split
 ·exact k.drop _
 ·rename_i q
  refine ⟨?_,fun x hx=>?_⟩
  ·unfold hk
   rw [List.map_append]
   exact List.nodup_append.mpr ⟨k.nd,by simp,fun x hx y hy=>by
    have:y=s.1:=by simpa using hy
    rw [this];exact fun e=>q (e▸hx)⟩
  ·unfold hk at hx
   rw [List.map_append] at hx
   rcases List.mem_append.mp hx with hx | hx
   ·exact k.sub x hx
   ·have:x=s.1:=by simpa using hx
    rw [this];exact hs
theorem Hok.Bj {r:List Tie}:∀ {w:List Step} {h:List (Int×Int)},Hok r h→(∀ s∈w,s.1∈r.map (·.m))→Hok r (bK h w)
 | [],_,k,_=>k
 | s::w,h,k,hs=>by
  rw [bK]
  exact Hok.Bj (w:=w) (k.lead (hs s List.mem_cons_self)) fun u hu=>hs u (List.mem_cons_of_mem _ hu)
theorem nN (r:List Tie) (hl:r.length≤1000) (h:List (Int×Int)) (k:Hok r h) (w:List Step) (hw:∀ s∈w,s.1∈r.map (·.m)):A9 [aP h,cA w]=some (.val .non,aP (bK h w)):=by
 suffices q:WrM (A9 [aP h,cA w]) fun z d=>z=.val .non∧d=aP (bK h w) by
  obtain ⟨z,d,h1,rfl,rfl⟩:=q
  exact h1
 unfold A9
 refine WrM.fn ?_ rfl rfl
 refine Ws.For (Wi.S (We.v rfl (Wk.val (cW ?_))))
 refine Ws.inv bC _ _ w _ _ _ _ _ (fun p q ρ=>∃ c2 c3,ρ=[.ow (aP (bK h p)),.sh (cA w),c2,c3]) ⟨_,_,rfl⟩ ?_ ?_
 ·rintro p s q ρ e ⟨c2,c3,rfl⟩
  refine Dm.cD rfl (by first | (dsimp only [List.set];first | done | rfl) | rfl) ?_
  have kp:Hok r (bK h p):=k.Bj fun u hu=>hw u (by rw [e];exact List.mem_append_left _ hu)
  have len:=kp.len
  unfold Fi
  refine Ws.If (Wt.V (We.e2 (We.v rfl (We.w rfl (Wg2.din ?_ rfl rfl)))))
  refine Wb.mk ?_
  rw [kO,Option.isSome_map,qe]
  refine Wif.dec (fun hm=>?_) fun hm=>?_
  ·obtain ⟨x,hx⟩:∃ x,hdF (bK h p) s.1=some x:=Option.isSome_iff_exists.mp (by rw [qe];exact decide_eq_true hm)
   refine Ws.E (We.HU (k:=s.1) (d:=.int x) (by rw [kO,hx];rfl) ?_ rfl rfl rfl)
   refine ⟨.sh (.int s.1),.sh (.int s.2),?_⟩
   rw [gh,kh,if_pos hm,(gA _ _).1,(gA _ _).2]
   rfl
  ·refine Ws.DR (We.v rfl (Wk.val (uu rfl (We.v rfl (fy.mk (kM ?_ rfl (by first | (dsimp only [List.set];first | done | rfl) | rfl) ?_))))))
   ·refine ⟨.sh (.int s.1),.sh (.int s.2),?_⟩
    rw [gh,kh,if_neg hm]
    obtain ⟨p1,p2⟩:=qg (ks:=hk (bK h p)) (vs:=hv (bK h p)) (i:=s.1) (d:=.int s.2) hm
    rw [p1,p2]
    unfold aP hk hv
    rw [List.map_append,List.map_append]
    rfl
   ·unfold hk;rw [List.length_map];unfold SZ;omega
 ·rintro ρ ⟨c2,c3,rfl⟩
  exact ⟨_,rfl,rfl,rfl⟩
theorem ki {r:List Tie} {x:Int} {s:Step}:s∈aB r x↔gf r x s:=by
 unfold aB
 rw [List.mem_filterMap]
 constructor
 ·rintro ⟨t,ht,e⟩
  unfold cB at e
  split at e
  ·cases e
  rename_i hne
  split at e
  ·rename_i ha
   cases e
   exact ⟨t,ht,rfl,hne,.inl ⟨ha,rfl⟩⟩
  ·split at e
   ·rename_i hb
    cases e
    exact ⟨t,ht,rfl,hne,.inr ⟨hb,rfl⟩⟩
   ·cases e
 ·rintro ⟨t,ht,hm,hne,he⟩
  refine ⟨t,ht,?_⟩
  unfold cB
  rw [if_neg hne]
  rcases he with ⟨h1,h2⟩ | ⟨h1,h2⟩
  ·rw [if_pos h1,hm,h2]
  ·rw [if_neg (fun z=>hne (z.trans h1.symm)),if_pos h1,hm,h2]
theorem rP {n:Nat} {r:List Tie} (hp:Pl n r) {x:Int} {s:Step} (h:gf r x s):(0≤x∧x<n)∧0≤s.2∧s.2<n:=by
 obtain ⟨t,ht,_,_,he⟩:=h
 have:=hp t ht
 omega
theorem D7 {r:List Tie} {x:Int} {s:Step} (h:gf r x s):s.1∈r.map (·.m):=by
 obtain ⟨t,ht,hm,_⟩:=h
 exact List.mem_map.mpr ⟨t,ht,hm⟩
theorem uC {r:List Tie} {R:Int→Step→Prop} (hR:∀ p s,R p s→gf r p s) {y:Int}:∀ {w:List Step} {x:Int},Way R x w y→∀ s∈w,s.1∈r.map (·.m)
 | [],_,_,s,hs=>by cases hs
 | u::w,x,h,s,hs=>by
  rcases List.mem_cons.mp hs with rfl | hs
  ·exact D7 (hR _ _ h.1)
  ·exact uC hR h.2 s hs
theorem mw {r:List Tie} {h:List (Int×Int)} {p:Int} {s:Step}:InR (rN h (aB r)) p s↔dD r (hdF h) p s:=by
 unfold InR rN dD
 rw [List.mem_filter,ki]
 simp
theorem qi {r:List Tie} {h:List (Int×Int)} {p:Int} {s:Step}:InR (rO h (aB r)) p s↔Led r (hdF h) p s:=by
 unfold InR rO Led
 rw [List.mem_filter,ki]
 simp
theorem yt (w:List Step):bJ (cA w)=true:=gv _ _ fun s=>by unfold bC bJ;exact jN _ (by intro x hx;simp at hx;rcases hx with rfl | rfl<;>exact oG _)
theorem h_ (n:Nat) (R:Int→List Step):bJ (bw n R)=true:=gv (fun i:Nat=>cA (R i)) _ fun i=>yt _
noncomputable def mso (w:List Step):List Int:=w.map (·.1)
noncomputable def msD (w:List Step):Dat:=.lst ((mso w).map Dat.int)
noncomputable def bB (h:List (Int×Int)):List Int→List (Int×Int)
 | []=>h
 | m::ms=>bB (h.filter fun e=>decide (e.1≠m)) ms
theorem gi:∀ (ms:List Int) (h:List (Int×Int)) (m:Int),bB h (ms++[m])=(bB h ms).filter fun e=>decide (e.1≠m)
 | [],_,_=>rfl
 | _::ms,h,m=>by rw [List.cons_append,bB,bB,gi ms]
theorem jP:∀ (w:List Step) (h:List (Int×Int)),hdF (bB h (mso w))=ff (hdF h) w
 | [],_=>rfl
 | s::w,h=>by
  show hdF (bB _ (mso w))=ff _ w
  rw [jP w,mq]
theorem kj:∀ (ms:List Int) (h:List (Int×Int)) (x:Int),x∉ms→hdF (bB h ms) x=hdF h x
 | [],_,_,_=>rfl
 | m::ms,h,x,hx=>by
  rw [bB,kj ms _ x fun z=>hx (List.mem_cons_of_mem _ z),mq]
  unfold put
  rw [if_neg fun z=>hx (by rw [z];exact List.mem_cons_self)]
theorem Hok.drops {r:List Tie}:∀ {ms:List Int} {h:List (Int×Int)},Hok r h→Hok r (bB h ms)
 | [],_,k=>k
 | m::ms,h,k=>by rw [bB];exact Hok.drops (ms:=ms) (k.drop m)
theorem qj {r:List Tie} {H:Hd} {y:Int}:∀ {w:List Step} {x:Int},Way (Led r H) x w y→∀ s∈w,H s.1=some s.2
 | [],_,_,s,hs=>by cases hs
 | u::w,x,h,s,hs=>by
  rcases List.mem_cons.mp hs with rfl | hs
  ·exact h.1.2
  ·exact qj h.2 s hs
structure D8 (r:List Tie) (a b:Int) (ws:List (List Step)):Prop where
 way:∀ w∈ws,mj (gf r) a w b
 nd:(ws.map mso).flatten.Nodup
noncomputable def yu (n:Nat) (r:List Tie) (h0 h:List (Int×Int)) (a b:Int) (c:Nat) (ws:List (List Step)) (c7 c8 c9:Cell):Env:=
 [.sh (bw n (aB r)),.sh (aP h0),.sh (.int a),.sh (.int b),.sh (.int c),.ow (aP h),.ow (.lst (ws.map msD)),c7,c8,c9]
noncomputable def Nxt (n:Nat) (r:List Tie) (a b:Int) (h:List (Int×Int)) (w:List Step):Prop:=∀ (A:Dat) (c4 c6 c7 c8 c9:Cell),
 iS (e2 gDx (eF qd [(eFd yo [(eV 0),(eV 5)]),(eV 2)]) (eV 3)) [.sh (bw n (aB r)),.sh A,.sh (.int a),.sh (.int b),c4,.ow (aP h),c6,c7,c8,c9]
  = some (w.map bC,[.sh (bw n (aB r)),.sh A,.sh (.int a),.sh (.int b),c4,.ow (aP h),c6,c7,c8,c9])
inductive PRs (n:Nat) (r:List Tie) (a b:Int) (h:List (Int×Int)):List (List Step)→List (Int×Int)→Prop
 | nil:PRs n r a b h [] h
 | snoc {ws:List (List Step)} {h':List (Int×Int)} {w:List Step}:PRs n r a b h ws h'→Nxt n r a b h' w→PRs n r a b h (ws++[w]) (bB h' (mso w))
theorem oO:∀ {u v:List Step},u.map bC=v.map bC→u=v
 | [],[],_=>rfl
 | [],_::_,h=>by cases h
 | _::_,[],h=>by cases h
 | x::u,y::v,h=>by
  rw [List.map_cons,List.map_cons] at h
  injection h with h1 h2
  rw [oO h2]
  obtain ⟨x1,x2⟩:=x
  obtain ⟨y1,y2⟩:=y
  unfold bC at h1
  injection h1 with h1
  injection h1 with h3 h4
  injection h4 with h4 _
  injection h3 with h3
  injection h4 with h4
  subst h3;subst h4;rfl
theorem Nxt.det {n:Nat} {r:List Tie} {a b:Int} {h:List (Int×Int)} {w v:List Step} (x:Nxt n r a b h w) (y:Nxt n r a b h v):w=v:=by
 have e:=(x .non .un .un .un .un .un).symm.trans (y .non .un .un .un .un .un)
 injection e with e
 injection e with e _
 exact oO e
theorem PRs.det {n:Nat} {r:List Tie} {a b:Int} {h:List (Int×Int)} {ws:List (List Step)} {h1:List (Int×Int)} (x:PRs n r a b h ws h1):∀ {vs:List (List Step)} {h2:List (Int×Int)},PRs n r a b h vs h2→ws.length=vs.length→ws=vs∧h1=h2:=by
 induction x with
 | nil=>
  intro vs h2 y e
  cases y with
  | nil=>exact ⟨rfl,rfl⟩
  | snoc y1 y2=>simp at e
 | snoc x1 x2 ih=>
  intro vs h2 y e
  cases y with
  | nil=>simp at e
  | snoc y1 y2=>
   obtain ⟨rfl,rfl⟩:=ih y1 (by simpa using e)
   rw [x2.det y2]
   exact ⟨rfl,rfl⟩
theorem oQ (n:Nat) (hn:n≤40) (r:List Tie) (hp:Pl n r) (nd:(r.map (·.m)).Nodup) (hl:r.length≤1000) (a b:Int) (a0:0≤a) (a1:a<n) (h':List (Int×Int)) (c:Nat) (fl':Flow r (hdF h') a b (c+1)) :
  ∃ w,Nxt n r a b h' w∧mj (Led r (hdF h')) a w b∧(mso w).Nodup∧w.length≤1000:=by
 have hR:∀ i:Nat,i<n→(aB r i).length≤1000:=fun i _=>Nat.le_trans (dO r i) hl
 obtain ⟨s,es,F,hd⟩:=kg n hn (rO h' (aB r)) (fun i _ _ u hu=>(rP hp ((qi (h:=h')).mp hu).1).2) a a0 a1
 have hb:b∈sk s:=by
  have:=fl'.reach (S:=fun y=>decide (y∈sk s)) (decide_eq_true F.st) fun y u hy hu=>decide_eq_true (hd y (of_decide_eq_true hy) u (qi.mpr hu))
  exact of_decide_eq_true this
 obtain ⟨w,t1,t2⟩:∃ w,(b,w)∈s∧bz (sk s) (sv s) b=some (cA w):=by
  rcases qh s b with h | h
  ·exact h
  ·exact absurd hb h.1
 obtain ⟨⟨w1,w2⟩,_⟩:=F.way _ t1
 have yr:=F.yr t1
 have Mc:=F.len
 dsimp only at w1 w2 yr
 have w1':Way (Led r (hdF h')) a w b:=w1.mono fun _ _ z=>qi.mp z
 refine ⟨w,fun A c4 c6 c7 c8 c9=>?_,⟨w1',w2⟩,j9 nd (fun p s h=>h.1) w1' w2,by omega⟩
 apply Wi.get
 refine Wi.S (We.e2 (We.F (Was.cons (We.Fd (Was.cons (We.v rfl (Was.cons (We.w rfl (Was.nil ?_)))))))))
 refine ⟨_,_,_,rfl,qf n (by omega) (aB r) hR h',h_ _ _,?_⟩
 refine Was.cons (We.v rfl (Was.nil (WF.box es ?_ rfl rfl rfl rfl)))
 refine We.v rfl (Wg2.dx t2 ?_ rfl rfl)
 exact Wk.val (cW ⟨rfl,rfl⟩)
structure Told (n:Nat) (r:List Tie) (a b:Int) (h:List (Int×Int)) (ws:List (List Step)) (h':List (Int×Int)) (p q:Nat):Prop where
 k:Hok r h'
 wl:ws.length=p
 fl:Flow r (hdF h') a b q
 W:D8 r a b ws
 no:∀ m∈(ws.map mso).flatten,hdF h' m=none
 run:PRs n r a b h ws h'
theorem Told.more {n:Nat} {r:List Tie} {a b:Int} {h h':List (Int×Int)} {ws:List (List Step)} {p q:Nat} (t:Told n r a b h ws h' p (q+1)) (nd:(r.map (·.m)).Nodup) {w:List Step} (nx:Nxt n r a b h' w) (sw:mj (Led r (hdF h')) a w b) (wm:(mso w).Nodup) :
  Told n r a b h (ws++[w]) (bB h' (mso w)) (p+1) q:=by
 obtain ⟨w1',w2⟩:=sw
 have fl2:=t.fl.less nd w1' w2
 rw [← jP] at fl2
 refine ⟨t.k.drops,by simp [t.wl],fl2,⟨fun v hv=>?_,?_⟩,fun m hm=>?_,t.run.snoc nx⟩
 ·rcases List.mem_append.mp hv with hv | hv
  ·exact t.W.way v hv
  ·rw [List.mem_singleton.mp hv];exact ⟨w1'.mono fun _ _ z=>z.1,w2⟩
 ·rw [List.map_append,List.flatten_append]
  refine List.nodup_append.mpr ⟨t.W.nd,by rw [List.map_cons,List.map_nil,List.flatten_cons,List.flatten_nil,List.append_nil];exact wm,fun m hm z hz=>?_⟩
  intro e
  subst e
  have:m∈mso w:=by simpa using hz
  obtain ⟨st1,hst,rfl⟩:=List.mem_map.mp this
  have h1:=qj w1' st1 hst
  rw [t.no _ hm] at h1
  cases h1
 ·rw [List.map_append,List.flatten_append] at hm
  rw [jP]
  rcases List.mem_append.mp hm with hm | hm
  ·by_cases z:m∈mso w
   ·exact g9 z
   ·rw [gg fun u hu e=>z (List.mem_map.mpr ⟨u,hu,e⟩)];exact t.no m hm
  ·rw [List.map_cons,List.map_nil,List.flatten_cons,List.flatten_nil,List.append_nil] at hm
   exact g9 hm
theorem wA {h':List (Int×Int)} {pm:List Int} {w:List Step} {m:Int} (sw:∀ s∈w,hdF h' s.1=some s.2) (hmw:m∈mso w) (hm:m∉pm):∃ d,bz (hk (bB h' pm)) (hv (bB h' pm)) m=some (.int d):=by
 obtain ⟨st1,hst,rfl⟩:=List.mem_map.mp hmw
 exact ⟨st1.2,by rw [kO,kj pm h' st1.1 hm,sw st1 hst];rfl⟩
theorem yw (n:Nat) (hn:n≤40) (r:List Tie) (hp:Pl n r) (nd:(r.map (·.m)).Nodup) (hl:r.length≤1000) (h:List (Int×Int)) (k:Hok r h) (a b:Int) (a0:0≤a) (a1:a<n) (c:Nat) (hc:c≤1000) (fl:Flow r (hdF h) a b c) :
  ∃ (ws:List (List Step)) (h':List (Int×Int)),ux [bw n (aB r),aP h,.int a,.int b,.int c]=some (.new (.lst (ws.map msD)))∧Told n r a b h ws h' c 0:=by
 suffices q:Wr (ux [bw n (aB r),aP h,.int a,.int b,.int c]) fun v=>∃ (ws:List (List Step)) (h':List (Int×Int)),v=.new (.lst (ws.map msD))∧Told n r a b h ws h' c 0 by
  obtain ⟨v,h1,ws,h',rfl,h2⟩:=q
  exact ⟨ws,h',h1,h2⟩
 unfold ux
 (refine Dm.Wr.fn ?_ rfl rfl;dsimp only [List.map,List.replicate,List.cons_append,List.nil_append])
 refine Ws.seq (Ws.A (We.B (Was.cons (We.v rfl (Was.nil (WB.dict (ks:=hk h) (vs:=hv h) ?_ rfl))))) (by decide))
 refine WA.new ?_ (by first | (dsimp only [List.set];first | done | rfl) | rfl)
 refine Ws.seq (Ws.A (We.L (Was.nil (WT.mk ?_ rfl rfl (by decide)))) (by decide))
 refine WA.new ?_ (by first | (dsimp only [List.set];first | done | rfl) | rfl)
 refine Ws.seq (Ws.For (Wi.R1 (We.v rfl (fy.mk ⟨?_,by unfold BIG;omega,by unfold BIG;omega⟩))))
 refine Ws.inv (fun i:Nat=>Dat.int (0+(i:Nat))) _ _ (List.range c) _ _ _ _ _ (fun p q ρ=>∃ (h':List (Int×Int)) (ws:List (List Step)) (c7 c8 c9:Cell),ρ=yu n r h h' a b c ws c7 c8 c9∧Told n r a b h ws h' p.length q.length)
  ⟨h,[],_,_,_,rfl,k,rfl,by rw [List.length_range];exact fl,⟨by simp,by simp⟩,by simp,.nil⟩ ?_ ?_
 ·rintro p x q ρ e ⟨h',ws,c7,c8,c9,rfl,t⟩
  rw [List.length_cons] at t
  unfold yu
  refine Dm.cD rfl (by first | (dsimp only [List.set];first | done | rfl) | rfl) ?_
  unfold Fo
  obtain ⟨w,nx,sw,wm,yr⟩:=oQ n hn r hp nd hl a b a0 a1 h' _ t.fl
  refine Ws.seq (Ws.A (We.Map bC w (fun s=>s.1) Dat.int ?_ (nx _ _ _ _ _ _) rfl (by decide) (by unfold SZ;omega) fun s _=>We.e2 (We.v rfl (We.c (Wg2.ix (Wk.val ⟨rfl,rfl⟩) rfl rfl rfl)))) (by decide))
  refine WA.new ?_ (by first | (dsimp only [List.set];first | done | rfl) | rfl)
  refine Ws.seq (Ws.For (Wi.S (We.w rfl (Wk.slot (cW ?_) rfl (by first | (dsimp only [List.set];first | done | rfl) | rfl)))))
  refine Ws.inv Dat.int _ _ (mso w) _ _ _ _ _ (fun pm qm ρ=>∃ c9,ρ=yu n r h (bB h' pm) a b c ws (.sh (.int (0+(x:Nat)))) (.sh (msD w)) c9) ⟨_,rfl⟩ ?_ ?_
  ·rintro pm m qm ρ em ⟨c9,rfl⟩
   unfold yu
   refine Dm.cD rfl (by first | (dsimp only [List.set];first | done | rfl) | rfl) ?_
   unfold Fj
   have hm:m∉pm:=by
    rw [em] at wm
    exact fun z=>(List.nodup_append.mp wm).2.2 m z m List.mem_cons_self rfl
   obtain ⟨d,hx⟩:=wA (qj sw.way) (by rw [em];simp) hm
   refine Ws.E (We.HU (k:=m) hx ?_ rfl rfl rfl)
   refine ⟨.sh (.int m),?_⟩
   rw [gi,(gA _ _).1,(gA _ _).2]
   rfl
  ·rintro ρ ⟨c9,rfl⟩
   unfold yu
   refine Ws.App (We.v rfl (Wk.val (p8 ?_ rfl (by first | (dsimp only [List.set];first | done | rfl) | rfl) ?_))) rfl
   ·refine ⟨bB h' (mso w),ws++[w],.sh (.int (0+(x:Nat))),.sh (msD w),c9,?_,by rw [List.length_append];exact t.more nd nx sw wm⟩
    rw [List.map_append];rfl
   ·rw [List.length_map,t.wl]
    have:=congrArg List.length e
    rw [List.length_range,List.length_append] at this
    unfold SZ;omega
 ·rintro ρ ⟨h',ws,c7,c8,c9,rfl,t⟩
  unfold yu
  refine Ws.R (We.w rfl (WR.slot ?_ rfl))
  exact ⟨ws,h',rfl,by rw [List.length_range] at t;exact t⟩
noncomputable def msP (w:List Step):Dp:=.l (((mso w).map Dat.int).map .s)
noncomputable def uD (n:Nat) (r:List Tie) (h0 h:List (Int×Int)) (a b:Int) (c:Nat) (c7 c9:Cell):Env:=
 [.sh (bw n (aB r)),.sh (aP h0),.sh (.int a),.sh (.int b),.sh (.int c),.ow (aP h),.un,c7,.un,c9]
theorem uE (n:Nat) (hn:n≤40) (r:List Tie) (hp:Pl n r) (nd:(r.map (·.m)).Nodup) (hl:r.length≤1000) (h:List (Int×Int)) (k:Hok r h) (a b:Int) (a0:0≤a) (a1:a<n) (c:Nat) (hc:c≤1000) (fl:Flow r (hdF h) a b c) :
  ∃ (ws:List (List Step)) (h':List (Int×Int)),cu [bw n (aB r),aP h,.int a,.int b,.int c]=some (.l (ws.map msP))∧Told n r a b h ws h' c 0:=by
 suffices q:∃ p,cu [bw n (aB r),aP h,.int a,.int b,.int c]=some p∧∃ (ws:List (List Step)) (h':List (Int×Int)),p=.l (ws.map msP)∧Told n r a b h ws h' c 0 by
  obtain ⟨v,h1,ws,h',rfl,h2⟩:=q
  exact ⟨ws,h',h1,h2⟩
 unfold cu
 refine Wq.fn ?_ rfl rfl
 refine Wq.seq (Ws.A (We.B (Was.cons (We.v rfl (Was.nil (WB.dict (ks:=hk h) (vs:=hv h) ?_ rfl))))) (by decide))
 refine WA.new ?_ rfl
 refine Wq.aD ?_ (by decide) rfl
 refine Wn.For (Wi.R1 (We.v rfl (fy.mk ⟨?_,by unfold BIG;omega,by unfold BIG;omega⟩)))
 refine Wn.inv (fun i:Nat=>Dat.int (0+(i:Nat))) _ _ _ (fun p q ρ rr=>∃ (h':List (Int×Int)) (ws:List (List Step)) (c7 c9:Cell),ρ=uD n r h h' a b c c7 c9∧rr=ws.map (fun w=>(mso w).map Dat.int)∧Told n r a b h ws h' p.length q.length∧p.length+q.length=c) (List.range c) [] _ _
  ⟨h,[],_,_,rfl,rfl,⟨k,rfl,by rw [List.length_range];exact fl,⟨by simp,by simp⟩,by simp,.nil⟩,by simp⟩ ?_ ?_
 ·rintro p x q ρ rr ⟨h',ws,c7,c9,rfl,rfl,t,hpq⟩
  rw [List.length_cons] at t hpq
  refine ⟨uD n r h h' a b c (.sh (.int (0+(x:Nat)))) c9,rfl,?_⟩
  unfold uD Fp
  obtain ⟨w,nx,sw,wm,yr⟩:=oQ n hn r hp nd hl a b a0 a1 h' _ t.fl
  refine Wn.Row (We.Map bC w (fun s=>s.1) Dat.int ?_ (nx _ _ _ _ _ _) rfl (by decide) (by unfold SZ;omega) fun s _=>We.e2 (We.v rfl (We.c (Wg2.ix (Wk.val ⟨rfl,rfl⟩) rfl rfl rfl)))) (by decide) (by rw [List.length_map,t.wl];unfold SZ;omega)
  obtain ⟨ρ2,p',e2,ep,c9',em',rfl⟩:=v9 Dat.int (bN 9) (je 5 (eV 9)) (fun pm qm ρ=>∃ c9,pm++qm=mso w∧ρ=uD n r h (bB h' pm) a b c (.sh (.int (0+(x:Nat)))) c9) (mso w) [] (uD n r h h' a b c (.sh (.int (0+(x:Nat)))) c9) ⟨c9,rfl,rfl⟩ fun pm m qm ρ hI=>by
   obtain ⟨c9,em,rfl⟩:=hI
   refine ⟨uD n r h (bB h' pm) a b c (.sh (.int (0+(x:Nat)))) (.sh (.int m)),rfl,?_⟩
   have hm:m∉pm:=by
    rw [← em] at wm
    exact fun z=>(List.nodup_append.mp wm).2.2 m z m List.mem_cons_self rfl
   obtain ⟨d,hx⟩:=wA (qj sw.way) (by rw [← em];simp) hm
   refine We.HU (k:=m) hx ?_ rfl rfl rfl
   refine ⟨.sh (.int m),by rw [List.append_assoc];exact em,?_⟩
   unfold uD
   rw [gi,(gA _ _).1,(gA _ _).2]
   rfl
  rw [List.append_nil] at em'
  subst em'
  refine ⟨_,_,rfl,e2,bB h' (mso w),ws++[w],_,c9',rfl,by rw [List.map_append];rfl,?_,by rw [List.length_append];simp;omega⟩
  rw [List.length_append]
  exact t.more nd nx sw wm
 ·rintro p ρ rr ⟨h',ws,c7,c9,rfl,rfl,t,hpq⟩
  refine ⟨ws,h',by rw [List.map_map];rfl,?_⟩
  rw [List.length_nil,Nat.add_zero] at hpq
  rw [hpq] at t
  exact t
theorem rQ (n:Nat) (hn:n≤40) (r:List Tie) (hp:Pl n r) (nd:(r.map (·.m)).Nodup) (hl:r.length≤1000) (h:List (Int×Int)) (k:Hok r h) (a b:Int) (a0:0≤a) (a1:a<n) (c:Nat) (hc:c≤1000) (fl:Flow r (hdF h) a b c) :
  ∃ ws:List (List Step),ux [bw n (aB r),aP h,.int a,.int b,.int c]=some (.new (.lst (ws.map msD)))∧cu [bw n (aB r),aP h,.int a,.int b,.int c]=some (.l (ws.map msP))∧ws.length=c∧D8 r a b ws:=by
 obtain ⟨ws,h1,e1,t1⟩:=yw n hn r hp nd hl h k a b a0 a1 c hc fl
 obtain ⟨vs,h2,e2,t2⟩:=uE n hn r hp nd hl h k a b a0 a1 c hc fl
 obtain ⟨rfl,_⟩:=t1.run.det t2.run (by rw [t1.wl,t2.wl])
 exact ⟨ws,e1,e2,t1.wl,t1.W⟩
noncomputable def tupI (S:List Int):Dat:=.tup (S.map Dat.int)
noncomputable def ovr (S:List Int) (t:Tie):Bool:=decide (t.a∈S) != decide (t.b∈S)
noncomputable def uF (r:List Tie) (S:List Int):List Int:=(r.filter (ovr S)).map (·.m)
noncomputable def D9 (n:Nat) (a b:Int) (S:List Int):Prop:=S.Pairwise (· < ·)∧(∀ x∈S,0≤x∧x<n)∧a∈S∧b∉S
noncomputable def aO:Option (List Int)→Dat
 | none=>.non
 | some S=>tupI S
theorem Bk {l:List Int} (h:l.Nodup):(cG ltI l).Pairwise (· < ·):=by
 have h1:=gQ l
 have h2:(cG ltI l).Nodup:=(cg ltI l).nodup_iff.mpr h
 refine (List.Pairwise.and h1 h2).imp fun {x y} q=>?_
 obtain ⟨q1,q2⟩:=q
 simp [ltI] at q1
 omega
structure Apart (n:Nat) (r:List Tie) (a b:Int) (most:Int) (ws:List (List Step)) (o:Option (List Int)):Prop where
 ways:D8 r a b ws
 le:(ws.length:Int)≤most
 all:o=none→(ws.length:Int)=most
 side:∀ S,o=some S→D9 n a b S∧(uF r S).length=ws.length∧(ws.length:Int)<most
noncomputable def uG (n:Nat) (r:List Tie) (a b most:Int) (c5:Cell) (h:List (Int×Int)) (o:Option (List Int)) (k:Nat) (c9:Cell):Env:=
 [.sh (.int n),.sh (aK r),.sh (.int a),.sh (.int b),.sh (.int most),c5,.ow (aP h),.sh (aO o),.sh (.int k),c9]
noncomputable def wB (n:Nat) (r:List Tie) (c:Cell):Prop:=c=.ow (bw n (aB r))∨c=.sh (bw n (aB r))
theorem wC (ws:List (List Step)):bJ (.lst (ws.map msD))=true:=gv _ _ fun w=>uv _
theorem Bl {n:Nat} {r:List Tie} {c5:Cell} (h5:wB n r c5) (A B C D E G H I J:Cell) {Q:Val→Env→Prop} (rest:List FE) {Q':List Val→Env→Prop}
  (k:∀ x,(x=.slot 5∧c5=.ow (bw n (aB r)))∨(x=.val (bw n (aB r))∧c5=.sh (bw n (aB r)))→Was rest [A,B,C,D,E,c5,G,H,I,J] fun xs ρ2=>Q' (x::xs) ρ2):Was (eV 5::rest) [A,B,C,D,E,c5,G,H,I,J] Q':=by
 rcases h5 with rfl | rfl
 ·exact Was.cons (We.w rfl (k _ (.inl ⟨rfl,rfl⟩)))
 ·exact Was.cons (We.v rfl (k _ (.inr ⟨rfl,rfl⟩)))
noncomputable def yz:FS:=av (sA 5 (eF ym [(eV 0),(eV 1)])) (av (sA 6 eDn) (av (sA 7 (eC .non)) (av (sA 8 (eC (.int 0))) (whD (ku (tV (e2 gLt (eV 8) (eV 4))) (tV (e2 qX (eV 7) (eC .non)))) v_ 100))))
theorem kP (a b c:FS):av (av a b) c=av a (av b c):=by
 funext ρ
 unfold av
 cases a ρ with
 | none=>rfl
 | some o=>cases o<;>rfl
theorem ju (a b:FS) (c:FSP):fu (av a b) c=fu a (fu b c):=by
 funext ρ
 unfold fu av
 cases a ρ with
 | none=>rfl
 | some o=>cases o<;>rfl
noncomputable def HZ (n:Nat) (r:List Tie) (a b most:Int) (ρ:Env):Prop:=∃ (c5:Cell) (h:List (Int×Int)) (o:Option (List Int)) (cnt:Nat) (c9:Cell),ρ=uG n r a b most c5 h o cnt c9∧wB n r c5∧Hok r h∧Flow r (hdF h) a b cnt∧(cnt:Int)≤most∧(∀ S,o=some S→D9 n a b S∧(uF r S).length=cnt∧(cnt:Int)<most)∧(o≠none∨¬ (cnt:Int)<most)
theorem H_ (n:Nat) (hn:n≤40) (r:List Tie) (hp:Pl n r) (nd:(r.map (·.m)).Nodup) (hl:r.length≤1000) (a b:Int) (a0:0≤a) (a1:a<n) (b0:0≤b) (b1:b<n) (most:Int) (m0:0≤most) (m1:most≤90) :
  Ws yz [.sh (.int n),.sh (aK r),.sh (.int a),.sh (.int b),.sh (.int most),.un,.un,.un,.un,.un] (HZ n r a b most) (fun _ _=>False) (fun _=>False) (fun _=>False):=by
 unfold yz
 refine Ws.seq (Ws.A (We.F (Was.cons (We.v rfl (Was.cons (We.v rfl (Was.nil (WF.box (rM n (by omega) r hp hl) ?_ rfl rfl rfl rfl))))))) (by decide))
 refine WA.new ?_ (by first | (dsimp only [List.set];first | done | rfl) | rfl)
 refine Ws.seq (Ws.A (We.Dn (WA.new ?_ (by first | (dsimp only [List.set];first | done | rfl) | rfl))) (by decide))
 refine Ws.seq (Ws.A (We.c (WA.val ?_ (by first | (dsimp only [List.set];first | done | rfl) | rfl))) (by decide))
 refine Ws.seq (Ws.A (We.c (WA.val ?_ (by first | (dsimp only [List.set];first | done | rfl) | rfl))) (by decide))
 have hR:∀ i:Nat,i<n→(aB r i).length≤1000:=fun i _=>Nat.le_trans (dO r i) hl
 refine Ws.wh (fun k ρ=>∃ (c5:Cell) (h:List (Int×Int)) (o:Option (List Int)) (cnt:Nat) (c9:Cell),ρ=uG n r a b most c5 h o cnt c9∧wB n r c5∧Hok r h∧Flow r (hdF h) a b cnt∧(cnt:Int)≤most∧(∀ S,o=some S→D9 n a b S∧(uF r S).length=cnt∧(cnt:Int)<most) ∧
   k=(most-cnt).toNat+(if o=none then 1 else 0)) ?_ 100 (most.toNat+1) _ (by omega) ⟨_,[],none,0,_,rfl,.inl rfl,Hok.nil r,Flow.zero r a b,m0,by simp,by simp⟩
 rintro k ρ ⟨c5,h,o,cnt,c9,rfl,h5,hok,fl,hle,hs,hk⟩
 unfold uG
 have fin:o≠none∨¬ (cnt:Int)<most→HZ n r a b most [.sh (.int n),.sh (aK r),.sh (.int a),.sh (.int b),.sh (.int most),c5,.ow (aP h),.sh (aO o),.sh (.int cnt),c9]:=fun hend=>⟨c5,h,o,cnt,c9,rfl,h5,hok,fl,hle,hs,hend⟩
 refine Wt.And (Wt.V (We.e2 (We.v rfl (We.v rfl (Wg2.lt (Wb.mk ?_) rfl rfl)))))
 refine Wif.dec (fun hlt=>?_) fun hge=>?_
 ·refine Wt.V (We.e2 (We.v rfl (We.c (Wg2.isN (Wb.mk ?_) rfl rfl))))
  cases o with
  | some S=>
   refine Wif.no rfl ?_
   exact fin (.inl (by simp))
  | none=>
   refine Wif.yes rfl ?_
   unfold v_
   obtain ⟨s,es,F,hd⟩:=kg n hn (rN h (aB r)) (fun i _ _ u hu=>(rP hp ((mw (h:=h)).mp hu).1).2) a a0 a1
   have Mc:=F.len
   have search:∀ {N:Env→Prop} {R:RV→Env→Prop} {B C:Env→Prop},(∀ c5',wB n r c5'→N [.sh (.int n),.sh (aK r),.sh (.int a),.sh (.int b),.sh (.int most),c5',.ow (aP h),.sh (aO none),.sh (.int cnt),.ow (.dct (sk s) (sv s))]) →
     Ws (sA 9 (eF qd [(eFd A8 [(eV 5),(eV 6)]),(eV 2)])) [.sh (.int n),.sh (aK r),.sh (.int a),.sh (.int b),.sh (.int most),c5,.ow (aP h),.sh (aO none),.sh (.int cnt),c9] N R B C:=fun {N R B C} kN=>by
    refine Ws.A (We.F (Was.cons (We.Fd (Bl (Q:=fun _ _=>True) h5 _ _ _ _ _ _ _ _ _ _ fun x hx=>?_)))) (by decide)
    refine Was.cons (We.w rfl (Was.nil ?_))
    rcases hx with ⟨rfl,rfl⟩ | ⟨rfl,rfl⟩
    ·refine ⟨_,_,_,rfl,gR n (by omega) (aB r) hR h,h_ _ _,?_⟩
     refine Was.cons (We.v rfl (Was.nil (WF.box es ?_ rfl rfl rfl rfl)))
     exact WA.new (kN _ (.inr rfl)) (by first | (dsimp only [List.set];first | done | rfl) | rfl)
    ·refine ⟨_,_,_,rfl,gR n (by omega) (aB r) hR h,h_ _ _,?_⟩
     refine Was.cons (We.v rfl (Was.nil (WF.box es ?_ rfl rfl rfl rfl)))
     exact WA.new (kN _ (.inr rfl)) (by first | (dsimp only [List.set];first | done | rfl) | rfl)
   refine Ws.seq (search fun c5' h5'=>?_)
   refine Ws.If (Wt.V (We.e2 (We.v rfl (We.w rfl (Wg2.din (Wb.mk ?_) rfl rfl)))))
   rw [kc]
   refine Wif.dec (fun hb=>?_) fun hb=>?_
   ·obtain ⟨w,t1,t2⟩:∃ w,(b,w)∈s∧bz (sk s) (sv s) b=some (cA w):=by
     rcases qh s b with h | h
     ·exact h
     ·exact absurd hb h.1
    obtain ⟨⟨w1,w2⟩,_⟩:=F.way _ t1
    dsimp only at w1 w2
    have w1':Way (dD r (hdF h)) a w b:=w1.mono fun _ _ z=>mw.mp z
    have wms:=uC (fun p s (z:dD r (hdF h) p s)=>z.1) w1'
    have el:=nN r hl h hok w wms
    refine Ws.seq (Ws.E (We.Fm (Was.cons (We.e2 (We.w rfl (We.v rfl (Wg2.dx t2 (Was.nil (WFm.any el ?_ rfl rfl rfl)) rfl rfl))))) rfl))
    refine Ws.A (We.e2 (We.v rfl (We.c (Wg2.add (WA.val ?_ (by first | (dsimp only [List.set];first | done | rfl) | rfl)) rfl rfl)))) (by decide)
    have fl2:=fl.more nd w1' w2
    rw [← oN] at fl2
    refine ⟨(most-(cnt+1:Nat)).toNat+1,by rw [hk];simp;omega,c5',bK h w,none,cnt+1,.ow (.dct (sk s) (sv s)),?_,h5',hok.Bj wms,fl2,by omega,by simp,by simp⟩
    have:((cnt:Int)+1)=((cnt+1:Nat):Int):=by omega
    rw [this]
   ·refine Ws.A (We.B (Was.cons (We.B (Was.cons (We.w rfl (Was.nil (WB.Kz (ks:=sk s) (vs:=sv s) ?_ rfl (by simp only [sk,List.length_map];omega)))))))) (by decide)
    refine Was.nil (WB.tuple ?_ rfl)
    refine WA.val ?_ (by first | (dsimp only [List.set];first | done | rfl) | rfl)
    have pm:=cg ltI (sk s)
    have hS:∀ x,x∈cG ltI (sk s)↔x∈sk s:=fun x=>pm.mem_iff
    refine ⟨(most-cnt).toNat,by rw [hk];simp,c5',h,some (cG ltI (sk s)),cnt,.ow (.dct (sk s) (sv s)),rfl,h5',hok,fl,hle,fun S z=>?_,by simp⟩
    cases z
    refine ⟨⟨Bk F.nd,fun x hx=>F.pl x ((hS x).mp hx),(hS a).mpr F.st,fun z=>hb ((hS b).mp z)⟩,?_,hlt⟩
    have:=fl.cut (S:=fun y=>decide (y∈cG ltI (sk s))) (decide_eq_true ((hS a).mpr F.st)) (decide_eq_false fun z=>hb ((hS b).mp z)) fun y u hy hu=>decide_eq_true ((hS _).mpr (hd y ((hS y).mp (of_decide_eq_true hy)) u (mw.mpr hu)))
    unfold uF
    rw [List.length_map]
    exact this
 ·refine Wif.no rfl ?_
  exact fin (.inr hge)
theorem yC (n:Nat) (hn:n≤40) (r:List Tie) (hp:Pl n r) (nd:(r.map (·.m)).Nodup) (hl:r.length≤1000) (a b:Int) (a0:0≤a) (a1:a<n) (b0:0≤b) (b1:b<n) (most:Int) (m0:0≤most) (m1:most≤90) :
  ∃ ws o,DX [.int n,aK r,.int a,.int b,.int most]=some (.val (.tup [.lst (ws.map msD),aO o]))∧bU [.int n,aK r,.int a,.int b,.int most]=some (.t [.l (ws.map msP),.s (aO o)])∧Apart n r a b most ws o:=by
 obtain ⟨z,hS,q⟩:=H_ n hn r hp nd hl a b a0 a1 b0 b1 most m0 m1
 cases z with
 | ret _ _=>exact q.elim
 | bk _=>exact q.elim
 | ct _=>exact q.elim
 | nx ρ5=>
  obtain ⟨c5,h,o,cnt,c9,rfl,h5,hok,fl,hle,hs,hend⟩:=(show HZ n r a b most ρ5 from q)
  obtain ⟨ws,ep,eq,wl,W⟩:=rQ n hn r hp nd hl h hok a b a0 a1 cnt (by omega) fl
  have fin2:Apart n r a b most ws o:=⟨W,by rw [wl];exact hle,fun z=>by rw [wl];have:=hend.resolve_left (fun y=>y z);omega,fun S z=>by rw [wl];exact hs S z⟩
  refine ⟨ws,o,?_,?_,fin2⟩
  ·apply Wr.eq
   unfold DX
   (refine Dm.Wr.fn ?_ rfl rfl;dsimp only [List.map,List.replicate,List.cons_append,List.nil_append])
   suffices t:Ws (av yz (sR (kD [(eFd ux [(eV 5),(eV 6),(eV 2),(eV 3),(eV 8)]),(eV 7)]))) [.sh (.int n),.sh (aK r),.sh (.int a),.sh (.int b),.sh (.int most),.un,.un,.un,.un,.un] (fun _=>RV.val .non=RV.val (.tup [.lst (ws.map msD),aO o])) (fun v _=>v=RV.val (.tup [.lst (ws.map msD),aO o])) (fun _=>False) (fun _=>False) by
    unfold yz at t
    rw [kP,kP,kP,kP] at t
    exact t
   refine Ws.seq ⟨_,hS,?_⟩
   show Ws _ (uG n r a b most c5 h o cnt c9) _ _ _ _
   unfold uG
   refine Ws.R (We.T (Was.cons (We.Fd (Bl (Q:=fun _ _=>True) h5 _ _ _ _ _ _ _ _ _ _ fun x hx=>?_))))
   refine Was.cons (We.w rfl (Was.cons (We.v rfl (Was.cons (We.v rfl (Was.cons (We.v rfl (Was.nil ?_))))))))
   rcases hx with ⟨rfl,rfl⟩ | ⟨rfl,rfl⟩
   ·refine ⟨_,_,_,rfl,ep,wC ws,?_⟩
    exact Was.cons (We.v rfl (Was.nil (WT.mk rfl rfl rfl (by exact Nat.le_of_ble_eq_true rfl))))
   ·refine ⟨_,_,_,rfl,ep,wC ws,?_⟩
    exact Was.cons (We.v rfl (Was.nil (WT.mk rfl rfl rfl (by exact Nat.le_of_ble_eq_true rfl))))
  ·suffices t:Wq (fu yz (qR (pT [(lU cu [(eV 5),(eV 6),(eV 2),(eV 3),(eV 8)]),(pO (eV 7))]))) [.sh (.int n),.sh (aK r),.sh (.int a),.sh (.int b),.sh (.int most),.un,.un,.un,.un,.un] (fun p=>p=.t [.l (ws.map msP),.s (aO o)]) by
    unfold yz at t
    rw [ju,ju,ju,ju] at t
    unfold bU
    obtain ⟨p,e1,rfl⟩:=Wq.fn (n:=5) (m:=5) (ds:=[.int n,aK r,.int a,.int b,.int most]) t rfl rfl
    exact e1
   refine Wq.seq ⟨_,hS,?_⟩
   show Wq _ (uG n r a b most c5 h o cnt c9) _
   unfold uG
   refine Wq.ret (Wp'.T (Wpa.cons (Wp'.Call (Bl (Q:=fun _ _=>True) h5 _ _ _ _ _ _ _ _ _ _ fun x hx=>?_))))
   refine Was.cons (We.w rfl (Was.cons (We.v rfl (Was.cons (We.v rfl (Was.cons (We.v rfl (Was.nil ?_))))))))
   rcases hx with ⟨rfl,rfl⟩ | ⟨rfl,rfl⟩
   ·exact ⟨_,_,_,eq,Wpa.cons (Wp'.val (We.v rfl ⟨rfl,Wpa.nil ⟨by exact Nat.le_of_ble_eq_true rfl,rfl⟩⟩)),rfl⟩
   ·exact ⟨_,_,_,eq,Wpa.cons (Wp'.val (We.v rfl ⟨rfl,Wpa.nil ⟨by exact Nat.le_of_ble_eq_true rfl,rfl⟩⟩)),rfl⟩
theorem cY (x n:Int) (h:1≤n):0≤x % n∧x % n<n:=⟨Int.emod_nonneg x (by omega),Int.emod_lt_of_pos x (by omega)⟩
noncomputable def at' (ns:List Int) (i:Int):Int:=ns.getD i.toNat 0
theorem Ia (ns:List Int) (i:Int) (h0:0≤i) (h1:i<ns.length):gIx (.lst (ns.map Dat.int)) (.int i)=some (.val (.int (at' ns i))):=by
 show (atI (ns.map Dat.int) i).map RV.val=_
 rw [Dm.p_ Dat.int ns i h0 h1]
 unfold at'
 rw [List.getD_eq_getElem?_getD,List.getElem?_eq_getElem (by omega)]
 rfl
theorem Fq {ns:List Int} {i:Int} {o p:Option Dat} {K:RV→Prop} (h0:0≤i) (h1:i<ns.length) (k:K (.val (.int (at' ns i)))) (ho:o=some (.lst (ns.map Dat.int))) (hp:p=some (.int i)):Wg2 gIx o p K:=⟨_,_,_,ho,hp,Ia ns i h0 h1,k⟩
theorem Wg2.D_ {i j:Int} {o p:Option Dat} {K:RV→Prop} (k:K (.val (.int (i*j)))) (ho:o=some (.int i)) (hp:p=some (.int j)) (h:i.natAbs.log2<1000000∧j.natAbs.log2<1000000):Wg2 jf o p K:=⟨_,_,_,ho,hp,by unfold jf;dsimp only;rw [if_pos h],k⟩
noncomputable def aQ (x:Int):Dat:=.lst [.int x]
noncomputable abbrev Z60:Int:=1000000000000000000000000000000000000000000000000000000000000
theorem qk (ns:List Int) (k:Int) (h0:0≤k) (h1:k<1000):∃ x,jq [.lst (ns.map Dat.int),.int k]=some (.new (aQ x)):=by
 suffices h:Wr (jq [.lst (ns.map Dat.int),.int k]) fun v=>∃ x,v=.new (aQ x) by
  obtain ⟨v,h1,c,rfl⟩:=h
  exact ⟨c,h1⟩
 unfold jq
 (refine Dm.Wr.fn ?_ rfl rfl;dsimp only [List.map,List.replicate,List.cons_append,List.nil_append])
 refine Ws.seq (Ws.A (We.c (WA.val ?_ (by first | (dsimp only [List.set];first | done | rfl) | rfl))) (by decide))
 refine Ws.cut (fun ρ=>∃ c:Int,ρ=[.sh (.lst (ns.map Dat.int)),.sh (.int k),.sh (.int c),.un,.un,.un]) ?_ ?_
 ·repeat array_get_dec
  refine ⟨fun h=>?_,fun h=>?_⟩
  ·have h:=of_decide_eq_true h
   repeat array_get_dec
   refine Fq h0 (by simpa using h) ?_ rfl rfl
   repeat array_get_dec
   exact ⟨_,rfl⟩
  ·repeat array_get_dec
   exact ⟨_,rfl⟩
 rintro ρ ⟨c,rfl⟩
 refine Ws.seq (Ws.If (Wt.V (We.e2 (We.v rfl (We.e2 (We.c (We.c (Wg2.pow (z:=1000000000000000000) ?_ rfl rfl (by decide) (by decide)))))))))
 refine Wg2.ge (Wb.mk ?_) rfl rfl
 have p60:∀ {K:RV→Prop} {o p:Option Dat},K (.val (.int Z60))→o=some (.int 10)→p=some (.int 60)→Wg2 gF o p K:=fun k ho hp=>Wg2.pow (z:=Z60) k ho hp (by decide) (by decide +kernel)
 refine ⟨fun h=>?_,fun h=>?_⟩
 ·refine Ws.R (We.L (Was.cons (We.e2 (We.v rfl ?_))))
  refine We.e2 (We.e2 (We.e2 (We.e2 (We.e2 (We.c (We.c (p60 ?_ rfl rfl)))))))
  refine We.e2 (We.c (We.c (p60 ?_ rfl rfl)))
  refine Wg2.D_ ?_ rfl rfl (by decide +kernel)
  refine We.e2 (We.c (We.c (p60 ?_ rfl rfl)))
  refine Wg2.D_ ?_ rfl rfl (by decide +kernel)
  refine We.e2 (We.c (We.c (p60 ?_ rfl rfl)))
  refine Wg2.D_ ?_ rfl rfl (by decide +kernel)
  refine We.e2 (We.c (We.c (p60 ?_ rfl rfl)))
  refine Wg2.D_ ?_ rfl rfl (by decide +kernel)
  refine Wg2.mod ?_ rfl rfl (by decide +kernel)
  refine Was.nil (WT.mk ?_ rfl rfl (by exact Nat.le_of_ble_eq_true rfl))
  exact ⟨_,rfl⟩
 ·refine Ws.nx ?_
  refine Ws.cut (fun ρ=>∃ x:Int,(0≤x∧x<2147483647)∧ρ=[.sh (.lst (ns.map Dat.int)),.sh (.int k),.sh (.int c),.sh (.int x),.un,.un]) ?_ ?_
  ·repeat array_get_dec
   ·exact ⟨_,cY _ _ (by decide),rfl⟩
   ·exact .inr (by unfold B64;omega)
  rintro ρ ⟨x,hx,rfl⟩
  refine Ws.seq (Ws.A (We.c (WA.val ?_ (by first | (dsimp only [List.set];first | done | rfl) | rfl))) (by decide))
  refine Ws.seq (Ws.For (Wi.R1 (We.c (fy.mk ⟨?_,by decide,by decide⟩))))
  refine Ws.inv (fun i:Nat=>Dat.int (0+(i:Nat))) _ _ (List.range 40) _ _ _ _ _ (fun p q ρ=>∃ (x f:Int) (c5:Cell),(0≤x∧x<2147483647)∧ρ=[.sh (.lst (ns.map Dat.int)),.sh (.int k),.sh (.int c),.sh (.int x),.sh (.int f),c5]) ⟨_,_,_,hx,rfl⟩ ?_ ?_
  ·rintro p i q ρ e ⟨x,f,c5,hx,rfl⟩
   refine Dm.cD rfl (by first | (dsimp only [List.set];first | done | rfl) | rfl) ?_
   unfold Ba
   refine Ws.cut (fun ρ=>∃ y:Int,(0≤y∧y<2147483647)∧ρ=[.sh (.lst (ns.map Dat.int)),.sh (.int k),.sh (.int c),.sh (.int y),.sh (.int f),.sh (.int (0+(i:Nat)))]) ?_ ?_
   ·repeat array_get_dec
    exact ⟨_,by have:=cY (x*48271+7919*(0+((i:Nat):Int))+3) 2147483629 (by decide);omega,rfl⟩
   rintro ρ ⟨y,hy,rfl⟩
   refine Ws.cut (fun ρ=>∃ y:Int,(0≤y∧y<2147483647)∧ρ=[.sh (.lst (ns.map Dat.int)),.sh (.int k),.sh (.int c),.sh (.int y),.sh (.int f),.sh (.int (0+(i:Nat)))]) ?_ ?_
   ·repeat array_get_dec
    ·exact ⟨_,by have:=cY (y*y) 2147483587 (by decide);omega,rfl⟩
    ·exact .inl (by unfold B64;omega)
   rintro ρ ⟨z,hz,rfl⟩
   repeat array_get_dec
   exact ⟨_,_,_,hz,rfl⟩
  ·rintro ρ ⟨x,f,c5,hx,rfl⟩
   repeat array_get_dec
   exact ⟨_,rfl⟩
theorem Ea (x m:Int) (h0:0<m) (h1:m<fG):aT [aQ x,.int m]=some (.val (.int (x % m)),aQ (x / m)):=by
 suffices h:WrM (aT [aQ x,.int m]) fun v d=>v=.val (.int (x % m))∧d=aQ (x / m) by
  obtain ⟨v,d,h1,rfl,rfl⟩:=h
  exact h1
 unfold aT
 refine WrM.fn ?_ rfl rfl
 dsimp only [List.map,List.replicate,List.cons_append,List.nil_append]
 unfold aQ
 repeat array_get_dec
 ·refine Ws.Set ?_
  repeat array_get_dec
  ·refine ⟨_,0,_,rfl,rfl,rfl,?_⟩
   repeat array_get_dec
   exact ⟨_,rfl,rfl,rfl⟩
  ·exact ⟨h0,h1⟩
 ·exact h0
noncomputable def Wtk (j:Nat) (m:Int) (ρ1:Env) (Q:Val→Env→Prop):Prop:=∃ x ρ3,Q (.val (.int (x % m))) ρ3∧ρ1[j]?=some (.ow (aQ x))∧ρ1.set j (.ow (aQ (x / m)))=ρ3∧0<m∧m<fG
theorem wD {j:Nat} {x m:Int} {ρ1 ρ3:Env} {Q:Val→Env→Prop} (q:Q (.val (.int (x % m))) ρ3) (h2:ρ1[j]?=some (.ow (aQ x))) (hn:ρ1.set j (.ow (aQ (x / m)))=ρ3) (h0:0<m) (h1:m<fG):Wtk j m ρ1 Q:=⟨_,_,q,h2,hn,h0,h1⟩
theorem We.take {j:Nat} {a:FE} {ρ:Env} {d0:Dat} {Q:Val→Env→Prop} (h:We a ρ fun v ρ1=>fy v fun m=>Wtk j m ρ1 Q) (h0:ρ[j]?=some (.ow d0)):We (eFm aT j [a]) ρ Q:=by
 refine We.Fm (Was.cons ?_) h0
 obtain ⟨v,ρ1,e1,m,rfl,x,ρ3,q,e2,e3,m0,m1⟩:=h
 exact ⟨_,_,e1,Was.nil (WFm.any (Ea x m m0 m1) q e2 rfl e3)⟩
theorem We.drw {j:Nat} {a:FE} {ρ:Env} {x m:Int} {Q:Val→Env→Prop} (ha:a ρ=some (.val (.int m),ρ)) (h0:0<m) (h1:m<fG) (hj:ρ[j]?=some (.ow (aQ x))) (k:∀ t x':Int,0≤t→t<m→∀ ρ3,ρ.set j (.ow (aQ x'))=ρ3→Q (.val (.int t)) ρ3):We (eFm aT j [a]) ρ Q:=
 We.take ⟨_,_,ha,m,rfl,wD (k _ _ (cY x m (by omega)).1 (cY x m (by omega)).2 _ rfl) hj rfl h0 h1⟩ hj
noncomputable def Good (n:Int):Int→List Tie→Prop
 | _,[]=>True
 | lo,t::r=>lo≤t.m∧0≤t.a∧t.a≤t.b∧t.b<n∧Good n (t.m+1) r
theorem Good.pl {n:Nat}:∀ {r:List Tie} {lo:Int},Good n lo r→Pl n r
 | [],_,_,t,ht=>by cases ht
 | u::r,lo,h,t,ht=>by
  obtain ⟨h1,h2,h3,h4,h5⟩:=h
  rcases List.mem_cons.mp ht with rfl | ht
  ·omega
  ·exact Good.pl h5 t ht
theorem Good.lo {n:Int}:∀ {r:List Tie} {lo:Int},Good n lo r→∀ t∈r,lo≤t.m
 | [],_,_,t,ht=>by cases ht
 | u::r,lo,h,t,ht=>by
  obtain ⟨h1,h2,h3,h4,h5⟩:=h
  rcases List.mem_cons.mp ht with rfl | ht
  ·exact h1
  ·have:=Good.lo h5 t ht;omega
theorem Good.nd {n:Int}:∀ {r:List Tie} {lo:Int},Good n lo r→(r.map (·.m)).Nodup
 | [],_,_=>by simp
 | u::r,lo,h=>by
  obtain ⟨h1,h2,h3,h4,h5⟩:=h
  rw [List.map_cons,List.nodup_cons]
  refine ⟨fun z=>?_,Good.nd h5⟩
  obtain ⟨t,ht,e⟩:=List.mem_map.mp z
  have:=Good.lo h5 t ht
  omega
theorem Good.weak {n:Int}:∀ {r:List Tie} {lo lo':Int},lo'≤lo→Good n lo r→Good n lo' r
 | [],_,_,_,_=>trivial
 | _::_,_,_,h,k=>⟨by have:=k.1;omega,k.2⟩
theorem Good.filter {n:Int} (p:Tie→Bool):∀ {r:List Tie} {lo:Int},Good n lo r→Good n lo (r.filter p)
 | [],_,_=>trivial
 | u::r,lo,h=>by
  obtain ⟨h1,h2,h3,h4,h5⟩:=h
  by_cases q:p u=true
  ·rw [List.filter_cons_of_pos q];exact ⟨h1,h2,h3,h4,Good.filter p h5⟩
  ·rw [List.filter_cons_of_neg q];exact Good.weak (by omega) (Good.filter p h5)
theorem Good.snoc {n:Int}:∀ {r:List Tie} {lo hi:Int} {t:Tie},Good n lo r→(∀ u∈r,u.m<hi)→lo≤hi→hi=t.m→0≤t.a→t.a≤t.b→t.b<n→Good n lo (r++[t])
 | [],_,_,_,_,_,h,e,h1,h2,h3=>⟨by omega,h1,h2,h3,trivial⟩
 | u::r,lo,hi,t,h,hu,hl,e,h1,h2,h3=>by
  obtain ⟨k1,k2,k3,k4,k5⟩:=h
  exact ⟨k1,k2,k3,k4,Good.snoc k5 (fun v hv=>hu v (List.mem_cons_of_mem _ hv)) (by have:=hu u List.mem_cons_self;omega) e h1 h2 h3⟩
theorem Eb (x:Int):∃ (n x':Int),rL [aQ x]=some (.val (.int n),aQ x')∧1≤n∧n≤10:=by
 suffices h:WrM (rL [aQ x]) fun v d=>∃ n x':Int,v=.val (.int n)∧d=aQ x'∧1≤n∧n≤10 by
  obtain ⟨v,d,h1,n,x',rfl,rfl,h2⟩:=h
  exact ⟨n,x',h1,h2⟩
 unfold rL
 refine WrM.fn ?_ rfl rfl
 dsimp only [List.map,List.replicate,List.cons_append,List.nil_append]
 refine Ws.R (We.e2 ?_)
 repeat array_get_dec
 refine We.drw (m:=8) rfl (by decide) (by decide) rfl fun t x' h0 h1 ρ3 e=>?_
 subst e
 have:t=0∨t=1∨t=2∨t=3∨t=4∨t=5∨t=6∨t=7:=by omega
 rcases this with rfl | rfl | rfl | rfl | rfl | rfl | rfl | rfl <;>
 ·refine Wg2.ix ?_ rfl rfl rfl
  exact ⟨_,rfl,_,x',rfl,rfl,by decide,by decide⟩
theorem ix4 (a b c d:Int) (x:Int) (h0:0≤x) (h:x<4):gIx (.lst [.int a,.int b,.int c,.int d]) (.int x)=some (.val (.int (if x=0 then a else if x=1 then b else if x=2 then c else d))):=by
 have:x=0∨x=1∨x=2∨x=3:=by omega
 rcases this with rfl | rfl | rfl | rfl<;>rfl
noncomputable def RE (pool:Int) (n most many kind step times way Ib:Int) (r:List Tie) (c10 c11 c12:Cell):Env:=
 [.ow (aQ pool),.sh (.int n),.sh (.int most),.sh (.int many),.sh (.int kind),.sh (.int step),.sh (.int times),.sh (.int way),.sh (.int Ib),.ow (aK r),c10,c11,c12]
theorem Ec (a b:Int):(if b<a then b else a)≤(if b>a then b else a):=by split<;>split<;>omega
theorem yD (x n most:Int) (n1:1≤n) (n10:n≤10) (m0:0≤most) (m60:most≤60) :
  ∃ (r:List Tie) (x':Int),oK [aQ x,.int n,.int most]=some (.new (aK r),aQ x')∧Good n 0 r∧(r.length:Int)≤most:=by
 suffices hh:WrM (oK [aQ x,.int n,.int most]) fun v d=>∃ (r:List Tie) (x':Int),v=.new (aK r)∧d=aQ x'∧Good n 0 r∧(r.length:Int)≤most by
  obtain ⟨v,d,h1,h,x',rfl,rfl,h2⟩:=hh
  exact ⟨h,x',h1,h2⟩
 unfold oK
 refine WrM.fn ?_ rfl rfl
 dsimp only [List.map,List.replicate,List.cons_append,List.nil_append]
 refine Ws.seq (Ws.A ?_ (by decide))
 refine We.drw (m:=most+1) rfl (by omega) (by unfold fG;omega) rfl fun many x1 h1 h2 ρ3 e=>?_
 subst e
 refine WA.val ?_ (by first | (dsimp only [List.set];first | done | rfl) | rfl)
 refine Ws.seq (Ws.A ?_ (by decide))
 refine We.drw (m:=4) rfl (by decide) (by decide) rfl fun kind x2 k1 k2 ρ3 e=>?_
 subst e
 refine WA.val ?_ (by first | (dsimp only [List.set];first | done | rfl) | rfl)
 refine Ws.cut (fun ρ=>∃ step:Int,(1≤step∧step≤1000000)∧ρ=[.ow (aQ x2),.sh (.int n),.sh (.int most),.sh (.int many),.sh (.int kind),.sh (.int step),.un,.un,.un,.un,.un,.un,.un]) ?_ ?_
 ·refine Ws.A (We.e2 (We.L (Was.cons (We.c (Was.cons (We.c (Was.cons (We.e2 (We.c (We.c (Wg2.pow (z:=1000000) ?_ rfl rfl (by decide) (by decide)))))))))))) (by decide)
  refine Was.cons (We.c (Was.nil (WT.mk ?_ rfl rfl (by exact Nat.le_of_ble_eq_true rfl))))
  refine We.v rfl (Wg2.ix ?_ rfl rfl (ix4 1 3 1000000 1000 kind k1 k2))
  refine WA.val ?_ (by first | (dsimp only [List.set];first | done | rfl) | rfl)
  refine ⟨_,?_,rfl⟩
  split
  ·decide
  ·split
   ·decide
   ·split<;>decide
 rintro ρ ⟨step,hs,rfl⟩
 refine Ws.cut (fun ρ=>∃ times:Int,0≤times∧ρ=[.ow (aQ x2),.sh (.int n),.sh (.int most),.sh (.int many),.sh (.int kind),.sh (.int step),.sh (.int times),.un,.un,.un,.un,.un,.un]) ?_ ?_
 ·refine Ws.A (We.e2 (We.L (Was.cons (We.c (Was.cons (We.e2 (We.c (We.c (Wg2.pow (z:=10000000000000000000000000) ?_ rfl rfl (by decide) (by decide)))))))))) (by decide)
  refine Was.nil (WT.mk ?_ rfl rfl (by exact Nat.le_of_ble_eq_true rfl))
  refine We.B (Was.cons (We.e2 (We.v rfl (We.c (Wg2.eq ?_ rfl rfl)))))
  refine Was.nil (WB.int ?_ rfl)
  by_cases q:kind=3
  ·rw [decide_eq_true q]
   refine Wg2.ix (v:=.int 10000000000000000000000000) ?_ rfl rfl rfl
   exact WA.val ⟨10000000000000000000000000,by decide,rfl⟩ (by first | (dsimp only [List.set];first | done | rfl) | rfl)
  ·rw [decide_eq_false q]
   refine Wg2.ix (v:=.int 1) ?_ rfl rfl rfl
   exact WA.val ⟨1,by decide,rfl⟩ (by first | (dsimp only [List.set];first | done | rfl) | rfl)
 rintro ρ ⟨times,ht,rfl⟩
 refine Ws.seq (Ws.A ?_ (by decide))
 refine We.drw (m:=4) rfl (by decide) (by decide) rfl fun way x3 w1 w2 ρ3 e=>?_
 subst e
 refine WA.val ?_ (by first | (dsimp only [List.set];first | done | rfl) | rfl)
 refine Ws.cut (fun ρ=>∃ x4 mo:Int,0≤mo∧ρ=[.ow (aQ x4),.sh (.int n),.sh (.int most),.sh (.int many),.sh (.int kind),.sh (.int step),.sh (.int times),.sh (.int way),.sh (.int mo),.un,.un,.un,.un]) ?_ ?_
 ·refine Ws.A (We.e2 ?_) (by decide)
  refine We.drw (m:=step) rfl (by omega) (by unfold fG;omega) rfl fun t x4 t1 t2 ρ3 e=>?_
  subst e
  refine We.v rfl (Wg2.mul ?_ rfl rfl (.inl (by unfold B64;omega)))
  exact WA.val ⟨_,_,Int.mul_nonneg t1 ht,rfl⟩ (by first | (dsimp only [List.set];first | done | rfl) | rfl)
 rintro ρ ⟨x4,mo,hmo,rfl⟩
 refine Ws.seq (Ws.A (We.L (Was.nil (WT.mk ?_ rfl rfl (by decide)))) (by decide))
 refine WA.new ?_ (by first | (dsimp only [List.set];first | done | rfl) | rfl)
 refine Ws.seq (Ws.For (Wi.R1 (We.v rfl (fy.mk ⟨?_,by unfold BIG;omega⟩))))
 refine Ws.inv (fun i:Nat=>Dat.int (0+(i:Nat))) _ _ (List.range many.toNat) _ _ _ _ _ (fun p q ρ=>∃ (x mo:Int) (r:List Tie) (c10 c11 c12:Cell),ρ=RE x n most many kind step times way mo r c10 c11 c12∧Good n 0 r∧r.length=p.length∧(∀ u∈r,u.m<mo)∧0≤mo)
  ⟨_,_,[],_,_,_,rfl,trivial,rfl,(fun u hu=>by cases hu),hmo⟩ ?_ ?_
 ·rintro p i q ρ e ⟨x,mo,r,c10,c11,c12,rfl,hg,hl,hu,hm⟩
  have lp:p.length<100:=by
   have:(List.range many.toNat).length=p.length+(q.length+1):=by rw [e];simp
   rw [List.length_range] at this;omega
  unfold RE
  refine Dm.cD rfl (by first | (dsimp only [List.set];first | done | rfl) | rfl) ?_
  unfold Bb
  refine Ws.seq (Ws.A ?_ (by decide))
  refine We.drw (m:=n) rfl (by omega) (by unfold fG;omega) rfl fun one y1 o1 o2 ρ3 e=>?_
  subst e
  refine WA.val ?_ (by first | (dsimp only [List.set];first | done | rfl) | rfl)
  refine Ws.seq (Ws.A ?_ (by decide))
  refine We.drw (m:=n) rfl (by omega) (by unfold fG;omega) rfl fun oth y2 u1 u2 ρ3 e=>?_
  subst e
  refine WA.val ?_ (by first | (dsimp only [List.set];first | done | rfl) | rfl)
  refine Ws.cut (fun ρ=>∃ o:Int,(0≤o∧o<n)∧ρ=RE y2 n most many kind step times way mo r (.sh (.int (0+(i:Nat)))) (.sh (.int one)) (.sh (.int o))) ?_ ?_
  ·refine Ws.If (Wt.V (We.e2 (We.v rfl (We.c (Wg2.eq (Wb.mk ?_) rfl rfl)))))
   refine Wif.dec (fun _=>?_) fun _=>?_
   ·refine Ws.A (We.e2 (We.e2 (We.v rfl (We.c (Wg2.add (We.v rfl (Wg2.mod ?_ rfl rfl (by omega))) rfl rfl))))) (by decide)
    exact WA.val ⟨_,cY _ n n1,rfl⟩ (by first | (dsimp only [List.set];first | done | rfl) | rfl)
   ·exact Ws.nx ⟨oth,⟨u1,u2⟩,rfl⟩
  rintro ρ ⟨o,⟨q1,q2⟩,rfl⟩
  refine Ws.cut (fun ρ=>∃ o:Int,(0≤o∧o<n)∧ρ=RE y2 n most many kind step times way mo r (.sh (.int (0+(i:Nat)))) (.sh (.int one)) (.sh (.int o))) ?_ ?_
  ·unfold RE
   refine Ws.If (Wt.V (We.e2 (We.v rfl (We.c (Wg2.eq (Wb.mk ?_) rfl rfl)))))
   refine Wif.dec (fun _=>?_) fun _=>?_
   ·refine Ws.A (We.e2 (We.e2 (We.e2 (We.e2 (We.v rfl (We.e2 (We.v rfl (We.c (Wg2.mod ?_ rfl rfl (by decide)))))))))) (by decide)
    refine Wg2.add ?_ rfl rfl
    refine We.c (Wg2.add ?_ rfl rfl)
    refine We.B (Was.cons (We.v rfl (Was.cons (We.c (Was.nil (WB.min2 ?_ rfl))))))
    refine Wg2.mod ?_ rfl rfl (by split<;>omega)
    refine We.v rfl (Wg2.mod ?_ rfl rfl (by omega))
    exact WA.val ⟨_,cY _ n n1,rfl⟩ (by first | (dsimp only [List.set];first | done | rfl) | rfl)
   ·exact Ws.nx ⟨o,⟨q1,q2⟩,rfl⟩
  rintro ρ ⟨o,⟨q1,q2⟩,rfl⟩
  unfold RE
  refine Ws.seq (Ws.App (We.T (Was.cons (We.v rfl (Was.cons (We.B (Was.cons (We.v rfl (Was.cons (We.v rfl (Was.nil (WB.min2 ?_ rfl))))))))))) rfl)
  refine Was.cons (We.B (Was.cons (We.v rfl (Was.cons (We.v rfl (Was.nil (WB.max2 ?_ rfl)))))))
  refine Was.nil (WT.mk ?_ rfl rfl (by exact Nat.le_of_ble_eq_true rfl))
  refine Wk.val (p8 ?_ rfl (by first | (dsimp only [List.set];first | done | rfl) | rfl) (by rw [List.length_map];unfold SZ;omega))
  refine Ws.A (We.e2 (We.e2 (We.v rfl (We.c (Wg2.add ?_ rfl rfl))))) (by decide)
  refine We.e2 ?_
  refine We.drw (m:=step) rfl (by omega) (by unfold fG;omega) rfl fun t x4 t1 t2 ρ3 e=>?_
  subst e
  refine We.v rfl (Wg2.mul ?_ rfl rfl (.inl (by unfold B64;omega)))
  refine Wg2.add ?_ rfl rfl
  refine WA.val ?_ (by first | (dsimp only [List.set];first | done | rfl) | rfl)
  have tn:=Int.mul_nonneg t1 ht
  refine ⟨x4,mo+1+t*times,r++[⟨mo,(if o<one then o else one),(if o>one then o else one)⟩],.sh (.int (0+(i:Nat))),.sh (.int one),.sh (.int o),?_,?_,by simp [hl],?_,by omega⟩
  ·unfold aK
   rw [List.map_append]
   rfl
  ·refine Good.snoc (hi:=mo) hg hu hm rfl ?_ (Ec one o) ?_
   ·show 0≤(if o<one then o else one);split<;>omega
   ·show (if o>one then o else one)<n;split<;>omega
  ·intro u hu'
   rcases List.mem_append.mp hu' with h | h
   ·have:=hu u h;omega
   ·rw [List.mem_singleton.mp h];show mo<_;omega
 ·rintro ρ ⟨x,mo,r,c10,c11,c12,rfl,hg,hl,hu,hm⟩
  unfold RE
  refine Ws.R (We.w rfl (WR.slot ?_ rfl))
  refine ⟨_,rfl,r,x,rfl,rfl,hg,?_⟩
  rw [hl,List.length_range]
  omega
theorem uH (r:List Tie):okD 8 (aK r)=true:=Fc bM r fun t=>rfl
theorem Ic (r:List Tie) (i:Int) (h0:0≤i) (h1:i<r.length):gIx (aK r) (.int i)=some (.val (bM (r[i.toNat]'(by omega)))):=by
 unfold aK gIx
 dsimp only
 rw [p_ bM r i h0 h1]
 rfl
theorem Bm (r:List Tie) (t:Tie):gIx (aK (r++[t])) (.int (-1))=some (.val (bM t)):=by
 unfold aK gIx atI ixN
 dsimp only
 rw [List.length_map,List.length_append,List.length_singleton,if_neg (by decide),if_pos (by omega)]
 have:(-1+((r.length+1:Nat):Int)).toNat=r.length:=by omega
 rw [this]
 simp
theorem yE (x:Int) (r:List Tie) (hr:∀ t∈r,0≤t.m) (hl:r.length≤1000):∃ (t x':Int),oM [aQ x,aK r]=some (.val (.int t),aQ x')∧0≤t:=by
 suffices h:WrM (oM [aQ x,aK r]) fun v d=>∃ t x':Int,v=.val (.int t)∧d=aQ x'∧0≤t by
  obtain ⟨v,d,h1,n,x',rfl,rfl,h2⟩:=h
  exact ⟨n,x',h1,h2⟩
 unfold oM
 refine WrM.fn ?_ rfl rfl
 dsimp only [List.map,List.replicate,List.cons_append,List.nil_append]
 refine Ws.seq (Ws.If (Wt.V (We.e2 (We.v rfl (We.L (Was.nil (WT.mk ?_ rfl rfl (by decide))))))))
 refine Wg2.Fe (xs:=r.map bM) (Wb.mk ?_) rfl rfl (uH r)
 rcases List.eq_nil_or_concat r with e | ⟨r0,tl,e⟩
 ·subst e
  refine Wif.yes rfl ?_
  refine Ws.R ?_
  refine We.drw (m:=3) rfl (by decide) (by decide) rfl fun t x' h0 h1 ρ3 e=>?_
  subst e
  exact ⟨_,rfl,t,x',rfl,rfl,h0⟩
 ·rw [List.concat_eq_append] at e
  have hne:(r.map bM).isEmpty=false:=by rw [e];simp
  rw [hne]
  refine Wif.no rfl (Ws.nx ?_)
  have hlen:r.length=r0.length+1:=by rw [e];simp
  refine Ws.cut (fun ρ=>∃ (at_ x1:Int),0≤at_∧ρ=[.ow (aQ x1),.sh (aK r),.sh (.int at_)]) ?_ ?_
  ·refine Ws.A (We.e2 (We.e2 (We.v rfl ?_))) (by decide)
   refine We.take (We.B (Was.cons (We.v rfl (Was.nil (WB.qc (enc:=bM) (xs:=r) (fy.mk ?_) rfl))))) rfl
   refine wD ?_ rfl rfl (by omega) (by unfold fG;omega)
   have hi:=cY x r.length (by omega)
   refine Wg2.ix ?_ rfl rfl (Ic r _ hi.1 hi.2)
   refine We.c (Wg2.ix ?_ rfl rfl rfl)
   exact WA.val ⟨_,_,hr _ (List.getElem_mem _),rfl⟩ (by first | (dsimp only [List.set];first | done | rfl) | rfl)
  rintro ρ ⟨at_,x1,ha,rfl⟩
  refine Ws.R (We.e2 ?_)
  refine We.L (Was.cons (We.c (Was.cons (We.v rfl (Was.cons (We.e2 (We.v rfl (We.c (Wg2.add ?_ rfl rfl)))))))))
  refine Was.cons (We.B (Was.cons (We.c (Was.cons (We.e2 (We.v rfl (We.c (Wg2.sub ?_ rfl rfl))))))))
  refine Was.nil (WB.max2 ?_ rfl)
  refine Was.cons (We.e2 (We.e2 (We.e2 (We.v rfl (We.e1 (We.c (Wg1.mk ?_ rfl rfl)))))))
  refine Wg2.ix ?_ rfl rfl (by rw [e];exact Bm r0 tl)
  refine We.c (Wg2.ix ?_ rfl rfl rfl)
  refine We.c (Wg2.add ?_ rfl rfl)
  refine Was.cons (We.v rfl (Was.nil (WT.mk ?_ rfl rfl (by exact Nat.le_of_ble_eq_true rfl))))
  refine We.drw (m:=6) rfl (by decide) (by decide) rfl fun t x' h0 h1 ρ3 e'=>?_
  subst e'
  have htl:0≤tl.m:=hr tl (by rw [e];simp)
  have:t=0∨t=1∨t=2∨t=3∨t=4∨t=5:=by omega
  rcases this with rfl | rfl | rfl | rfl | rfl | rfl
  ·exact Wg2.ix (⟨_,rfl,_,x',rfl,rfl,by decide⟩) rfl rfl rfl
  ·exact Wg2.ix (⟨_,rfl,_,x',rfl,rfl,ha⟩) rfl rfl rfl
  ·exact Wg2.ix (⟨_,rfl,_,x',rfl,rfl,by omega⟩) rfl rfl rfl
  ·exact Wg2.ix (⟨_,rfl,_,x',rfl,rfl,by split<;>omega⟩) rfl rfl rfl
  ·exact Wg2.ix (⟨_,rfl,_,x',rfl,rfl,by omega⟩) rfl rfl rfl
  ·exact Wg2.ix (⟨_,rfl,_,x',rfl,rfl,ha⟩) rfl rfl rfl
noncomputable def ql (r:List Tie) (t:Int):List Tie:=r.filter fun x=>decide (t≤x.m)
theorem mz (r:List Tie) (hl:r.length≤1000) (t:Int):oJ [aK r,.int t]=some (.new (aK (ql r t))):=by
 apply Wr.eq
 unfold oJ
 (refine Dm.Wr.fn ?_ rfl rfl;dsimp only [List.map,List.replicate,List.cons_append,List.nil_append])
 refine Ws.R ?_
 refine We.Ku bM r (fun x=>decide (t≤x.m)) id bM (d:=aK r) ?_ rfl rfl rfl (by decide) (by unfold SZ;omega) (fun u _=>?_) fun u _ _=>?_
 ·rw [List.map_id];rfl
 ·exact Wt.V (We.e2 (We.e2 (We.v rfl (We.c (Wg2.ix (We.v rfl (Wg2.ge (Wb.mk ⟨rfl,rfl⟩) rfl rfl)) rfl rfl rfl)))))
 ·exact We.v rfl (Wk.val ⟨rfl,rfl⟩)
theorem rR (i:Int):DY [.int i]=some (.val (.bl true)):=by
 apply Wr.eq
 unfold DY
 (refine Dm.Wr.fn ?_ rfl rfl;dsimp only [List.map,List.replicate,List.cons_append,List.nil_append])
 refine Ws.R (We.And (We.e1 (We.v rfl (Wg1.mk ?_ rfl rfl))))
 refine Wb.mk (Wif.t (We.Not (We.e1 (We.v rfl (Wg1.mk ?_ rfl rfl)))))
 exact Wb.mk rfl
theorem yF (i lo hi:Int) (h0:lo≤i) (h1:i≤hi):DZ [.int i,.int lo,.int hi]=some (.val (.bl true)):=by
 unfold DZ
 simp [fn,sR,gE,eF,eAs,eV,pks,pk,rR,RV.bq,RV.dat,dJ,fK,gLe,h0,h1]
theorem rS (n i:Int) (h0:0≤i) (h1:i<n):A_ [.int n,.int i]=some (.val (.bl true)):=by
 apply Wr.eq
 unfold A_
 (refine Dm.Wr.fn ?_ rfl rfl;dsimp only [List.map,List.replicate,List.cons_append,List.nil_append])
 refine Ws.R (We.F (Was.cons (We.v rfl (Was.cons (We.c (Was.cons (We.e2 (We.v rfl (We.c (Wg2.sub ?_ rfl rfl))))))))))
 refine Was.nil (WF.val (yF i 0 (n-1) h0 (by omega)) ?_ rfl rfl)
 rfl
theorem Ed (n a b:Int) (a0:0≤a) (a1:a<n) (b0:0≤b) (b1:b<n) (h:a≠b):wc [.int n,.int a,.int b]=some (.val (.bl true)):=by
 apply Wr.eq
 unfold wc
 (refine Dm.Wr.fn ?_ rfl rfl;dsimp only [List.map,List.replicate,List.cons_append,List.nil_append])
 refine Ws.R (We.And (We.F (Was.cons (We.v rfl (Was.cons (We.v rfl (Was.nil (WF.val (rS n a a0 a1) ?_ rfl rfl))))))))
 refine Wb.mk (Wif.t (We.And (We.F (Was.cons (We.v rfl (Was.cons (We.v rfl (Was.nil (WF.val (rS n b b0 b1) ?_ rfl rfl)))))))))
 refine Wb.mk (Wif.t (We.e2 (We.v rfl (We.v rfl (Wg2.ne ?_ rfl rfl)))))
 rw [decide_eq_false h]
 rfl
theorem jv (n a b:Int) (a0:0≤a) (a1:a<n) (b0:0≤b) (b1:b<n) (h:a≠b):oH [.int n,.int a,.int b]=some (.val .non):=by
 apply Wr.eq
 unfold oH
 (refine Dm.Wr.fn ?_ rfl rfl;dsimp only [List.map,List.replicate,List.cons_append,List.nil_append])
 refine Ws.If (Wt.Not (Wt.V (We.F (Was.cons (We.v rfl (Was.cons (We.v rfl (Was.cons (We.v rfl (Was.nil (WF.val (Ed n a b a0 a1 b0 b1 h) ?_ rfl rfl)))))))))))
 exact Wb.mk (Wif.f (Ws.nx rfl))
theorem Good.since {n:Int} {r:List Tie} {lo t:Int} (h:Good n lo r):Good n lo (ql r t):=h.filter _
theorem qo (r:List Tie) (t:Int):(ql r t).length≤r.length:=List.length_filter_le _ _
theorem jQ (n:Nat) (hn:n≤40) (r:List Tie) (hg:Good n 0 r) (hl:r.length≤1000) (a b:Int) (a0:0≤a) (a1:a<n) (b0:0≤b) (b1:b<n) (h:a≠b) (most:Int) (m0:0≤most) (m1:most≤90) (t:Int) :
  ∃ ws o,dF [.int n,aK r,.int a,.int b,.int most,.int t]=some (.val (.tup [.int (ws.length:Nat),.lst (ws.map msD),aO o]))∧cy [.int n,aK r,.int a,.int b,.int most,.int t]=some (.t [.s (.int (ws.length:Nat)),.l (ws.map msP),.s (aO o)])∧Apart n (ql r t) a b most ws o:=by
 obtain ⟨ws,o,e,eP,A⟩:=yC n hn (ql r t) hg.since.pl hg.since.nd (Nat.le_trans (qo r t) hl) a b a0 a1 b0 b1 most m0 m1
 refine ⟨ws,o,?_,?_,A⟩
 ·apply Wr.eq
  unfold dF
  (refine Dm.Wr.fn ?_ rfl rfl;dsimp only [List.map,List.replicate,List.cons_append,List.nil_append])
  refine Ws.seq (Ws.E (We.F (Was.cons (We.v rfl (Was.cons (We.v rfl (Was.cons (We.v rfl (Was.nil (WF.val (jv n a b a0 a1 b0 b1 h) ?_ rfl rfl))))))))))
  refine Ws.seq (Ws.A (We.F (Was.cons (We.v rfl (Was.cons (We.F (Was.cons (We.v rfl (Was.cons (We.v rfl (Was.nil (WF.box (mz r hl t) ?_ rfl rfl rfl rfl))))))))))) (by decide))
  refine Was.cons (We.v rfl (Was.cons (We.v rfl (Was.cons (We.v rfl (Was.nil (WF.box e ?_ rfl rfl rfl rfl)))))))
  refine WA.val ?_ (by first | (dsimp only [List.set];first | done | rfl) | rfl)
  refine Ws.R (We.T (Was.cons (We.B (Was.cons (We.e2 (We.v rfl (We.c (Wg2.ix ?_ rfl rfl rfl))))))))
  refine Was.nil (WB.qc (enc:=msD) (xs:=ws) ?_ rfl)
  refine Was.cons (We.e2 (We.v rfl (We.c (Wg2.ix ?_ rfl rfl rfl))))
  refine Was.cons (We.e2 (We.v rfl (We.c (Wg2.ix ?_ rfl rfl rfl))))
  refine Was.nil (WT.mk ?_ rfl rfl (by exact Nat.le_of_ble_eq_true rfl))
  rfl
 ·suffices q:Wq (fu (sE (eF oH [(eV 0),(eV 2),(eV 3)])) (l5 6 bU [(eV 0),(eF oJ [(eV 1),(eV 5)]),(eV 2),(eV 3),(eV 4)] [.e (eB dS [(e2 gIx (eV 6) (eC (.int 0)))]),.x 0,.x 1])) [.sh (.int n),.sh (aK r),.sh (.int a),.sh (.int b),.sh (.int most),.sh (.int t),.un] (fun p=>p=.t [.s (.int (ws.length:Nat)),.l (ws.map msP),.s (aO o)]) by
   unfold cy
   obtain ⟨p,e1,rfl⟩:=Wq.fn (n:=6) (m:=1) (ds:=[.int n,aK r,.int a,.int b,.int most,.int t]) q rfl rfl
   exact e1
  refine Wq.seq (Ws.E (We.F (Was.cons (We.v rfl (Was.cons (We.v rfl (Was.cons (We.v rfl (Was.nil (WF.val (jv n a b a0 a1 b0 b1 h) ?_ rfl rfl)))))))))) 
  refine Wq.Tree (Was.cons (We.v rfl (Was.cons (We.F (Was.cons (We.v rfl (Was.cons (We.v rfl (Was.nil (WF.box (mz r hl t) ?_ rfl rfl rfl rfl)))))))))) (by decide)
  refine Was.cons (We.v rfl (Was.cons (We.v rfl (Was.cons (We.v rfl (Was.nil ?_))))))
  refine ⟨_,_,_,[.s (.int (ws.length:Nat)),.l (ws.map msP),.s (aO o)],rfl,eP,?_,by exact Nat.le_of_ble_eq_true rfl,rfl⟩
  have hd:(Dp.l (ws.map msP)).dat=.lst (ws.map msD):=by
   unfold Dp.dat
   rw [Dp.ji,List.map_map]
   congr 1
   exact List.map_congr_left fun w _=>by
    show Dp.dat (msP w)=msD w
    unfold msP Dp.dat
    rw [Dp.As]
    rfl
  refine HV (ρ':=[.sh (.int n),.sh (aK r),.sh (.int a),.sh (.int b),.sh (.int most),.sh (.int t),.sh (.tup [.lst (ws.map msD),aO o])]) (We.B (Was.cons (We.e2 (We.v rfl (We.c (Wg2.ix (Was.nil (WB.qc (enc:=msD) (xs:=ws) rfl rfl)) rfl rfl rfl)))))) ?_ rfl (A6 rfl (Nat.le_refl _) (A6 rfl (Nat.le_refl _) rfl))
  show [Cell.sh (Dat.int n),.sh (aK r),.sh (.int a),.sh (.int b),.sh (.int most),.sh (.int t),.sh (.tup [Dp.dat (.l (ws.map msP)),aO o])]=_
  rw [hd]
theorem oR (ms:List Int):j5 (ms.map Dat.int)=some ms:=by
 induction ms with
 | nil=>rfl
 | cons m ms ih=>rw [List.map_cons,j5,ih];rfl
theorem rT:∀ (ns acc:List Int),ns.Nodup→(∀ x∈ns,x∉acc)→ns.foldl (fun acc x=>if acc.any (· == x) then acc else acc++[x]) acc=acc++ns
 | [],acc,_,_=>by simp
 | x::ns,acc,h,k=>by
  rw [List.foldl_cons,if_neg fun z=>by
   obtain ⟨y,hy,e⟩:=List.any_eq_true.mp z
   have:y=x:=by simpa using e
   exact k x List.mem_cons_self (this▸hy)]
  rw [rT ns (acc++[x]) (List.nodup_cons.mp h).2 fun y hy z=>?_]
  ·simp
  ·rcases List.mem_append.mp z with z | z
   ·exact k y (List.mem_cons_of_mem _ hy) z
   ·rw [List.mem_singleton] at z
    exact (List.nodup_cons.mp h).1 (z▸hy)
theorem mC {ns:List Int} (h:ns.Nodup):dedup ns=ns:=by
 unfold dedup
 rw [rT ns [] h (by simp)]
 rfl
theorem oS {ms:List Int} (h:ms.Nodup) (hl:ms.length≤4000):eO (.lst (ms.map Dat.int))=some (.val (.int (ms.length:Nat))):=by
 unfold eO
 dsimp only
 rw [oR]
 dsimp only
 rw [if_pos hl,mC h]
theorem Ft {S:List Int} (h:S.Pairwise (· < ·)):S.Nodup:=h.imp fun h=>Int.ne_of_lt h
theorem uI {S:List Int} (h:S.Pairwise (· < ·)) (hl:S.length≤17):d8 (tupI S)=some (.new (.lst (S.map Dat.int))):=by
 unfold d8 tupI
 dsimp only
 rw [oR]
 dsimp only
 rw [mC (Ft h),if_pos hl]
 have:cG (fun a b=>decide (a<b)) S=S:=rH (List.Perm.refl _) (h.imp fun h=>Int.le_of_lt h)
 rw [this]
theorem jx (r:List Tie) (hl:r.length≤1000) (t:Int):jr [aK r,.int t]=some (.new (aK (ql r t))):=mz r hl t
theorem eU (i:Int):we [.int i]=some (.val (.bl true)):=rR i
theorem qp {α:Type} (xs:List α):xs.all (fun _=>true)=true:=by induction xs<;>simp
theorem Bo (ms:List Int) (h:ms.length≤1000):l9 [.lst (ms.map Dat.int)]=some (.val (.bl true)):=by
 apply Wr.eq
 unfold l9
 (refine Dm.Wr.fn ?_ rfl rfl;dsimp only [List.map,List.replicate,List.cons_append,List.nil_append])
 refine Ws.R (We.B (Was.cons (We.AX Dat.int ms (fun _=>true) Dat.bl (d:=.lst (ms.map Dat.int)) ?_ rfl rfl rfl (by decide) (by unfold SZ;omega) fun x hx=>?_)))
 ·refine Was.nil (WB.all (fun _=>true) ?_ (by rw [List.map_map];rfl))
  rw [qp]
  rfl
 ·exact We.F (Was.cons (We.v rfl (Was.nil (WF.val (eU x) (Wk.val ⟨rfl,rfl⟩) rfl rfl))))
theorem Bp (ms:List Int) (h:ms.length≤1000):l9 [tupI ms]=some (.val (.bl true)):=by
 apply Wr.eq
 unfold l9
 (refine Dm.Wr.fn ?_ rfl rfl;dsimp only [List.map,List.replicate,List.cons_append,List.nil_append])
 refine Ws.R (We.B (Was.cons (We.AX Dat.int ms (fun _=>true) Dat.bl (d:=tupI ms) ?_ rfl rfl rfl (by decide) (by unfold SZ;omega) fun x hx=>?_)))
 ·refine Was.nil (WB.all (fun _=>true) ?_ (by rw [List.map_map];rfl))
  rw [qp]
  rfl
 ·exact We.F (Was.cons (We.v rfl (Was.nil (WF.val (eU x) (Wk.val ⟨rfl,rfl⟩) rfl rfl))))
theorem Ie (r:List Tie) (hl:r.length≤1000) (S:List Int):wg [aK r,tupI S]=some (.new (.lst ((uF r S).map Dat.int))):=by
 apply Wr.eq
 unfold wg
 (refine Dm.Wr.fn ?_ rfl rfl;dsimp only [List.map,List.replicate,List.cons_append,List.nil_append])
 refine Ws.R ?_
 refine We.AW bM r (ovr S) (fun t=>.int t.m) ?_ rfl rfl rfl (by decide) (by unfold SZ;omega) (fun u _=>?_) fun u _ _=>?_
 ·show _=_
  unfold uF
  rw [List.map_map]
  rfl
 ·refine Wt.V (We.e2 (We.e2 (We.e2 (We.v rfl (We.c (Wg2.ix (v:=.int u.a) ?_ rfl rfl rfl))))))
  refine We.v rfl (Wg2.inT (xs:=S) ?_ rfl rfl)
  refine We.e2 (We.e2 (We.v rfl (We.c (Wg2.ix (v:=.int u.b) ?_ rfl rfl rfl))))
  refine We.v rfl (Wg2.inT (xs:=S) ?_ rfl rfl)
  exact Wg2.neb (Wb.mk ⟨rfl,rfl⟩) rfl rfl
 ·exact We.e2 (We.v rfl (We.c (Wg2.ix (v:=.int u.m) (Wk.val ⟨rfl,rfl⟩) rfl rfl rfl)))
theorem We.Ef {a b c:FE} {ρ:Env} {i j k:Int} {Q:Val→Env→Prop} (ha:a ρ=some (.val (.int i),ρ)) (hb:b ρ=some (.val (.int j),ρ)) (hc:c ρ=some (.val (.int k),ρ)) (h1:i≤j) (h2:j<k) (q:Q (.val (.bl true)) ρ):We (fK gLe gLt a b c) ρ Q:=by
 refine ⟨_,_,?_,q⟩
 unfold fK
 rw [ha]
 dsimp only
 rw [hb]
 dsimp only [pk]
 have e1:gLe (.int i) (.int j)=some (.val (.bl true)):=by unfold gLe;dsimp only;rw [decide_eq_true h1]
 have e2:gLt (.int j) (.int k)=some (.val (.bl true)):=by unfold gLt;dsimp only;rw [decide_eq_true h2]
 rw [e1]
 dsimp only
 rw [hc]
 dsimp only [pk]
 rw [e2]
 rfl
theorem uJ {n:Nat} (n10:n≤10) {a b:Int} {S:List Int} (s:D9 n a b S) (hl:S.length≤17):wo [.int (n:Nat),tupI S,.int a,.int b]=some (.val (.bl true)):=by
 obtain ⟨s1,s2,s3,s4⟩:=s
 apply Wr.eq
 unfold wo
 (refine Dm.Wr.fn ?_ rfl rfl;dsimp only [List.map,List.replicate,List.cons_append,List.nil_append])
 refine Ws.seq (Ws.If (Wt.Or (Wt.Not (Wt.V (We.e1 (We.v rfl (Wg1.mk (v:=.val (.bl true)) (Wb.mk (Wif.f ?_)) rfl rfl)))))))
 refine Wt.Or (Wt.Not (Wt.V (We.F (Was.cons (We.v rfl (Was.nil (WF.val (Bp S (by omega)) (Wb.mk (Wif.f ?_)) rfl rfl)))))))
 refine Wt.V (We.e2 (We.B (Was.cons (We.v rfl (Was.nil ⟨_,_,rfl,rfl,?_⟩)))))
 refine We.e1 (We.v rfl (Wg1.mk (v:=.new (.lst (S.map Dat.int))) ?_ rfl (uI s1 hl)))
 refine Wg2.neI (N:=S) (M:=S) ?_ rfl rfl
 rw [decide_eq_true rfl]
 refine Wb.mk (Wif.f (Ws.nx ?_))
 refine Ws.R (We.And (We.B (Was.cons (We.AX Dat.int S (fun _=>true) Dat.bl (d:=tupI S) ?_ rfl rfl rfl (by decide) (by unfold SZ;omega) fun x hx=>?_))))
 ·refine Was.nil (WB.all (fun _=>true) ?_ (by rw [List.map_map];rfl))
  rw [qp]
  refine Wb.mk (Wif.t ?_)
  refine We.And (We.e2 (We.v rfl (We.v rfl (Wg2.inT (xs:=S) ?_ rfl rfl))))
  rw [decide_eq_true s3]
  refine Wb.mk (Wif.t ?_)
  refine We.e2 (We.v rfl (We.v rfl (Wg2.Kw (xs:=S) ?_ rfl rfl)))
  rw [decide_eq_false s4]
  rfl
 ·exact We.Ef (i:=0) (j:=x) (k:=(n:Nat)) rfl rfl rfl (s2 x hx).1 (s2 x hx).2 (Wk.val ⟨rfl,rfl⟩)
noncomputable def prD (t:Tie):Dat:=.tup [.int t.a,.int t.b]
noncomputable def enK (r:List Tie):List Int:=r.map (·.m)
noncomputable def enV (r:List Tie):List Dat:=r.map prD
theorem rV {t:Tie}:∀ {r:List Tie},t∈r→(enK r).Nodup→bz (enK r) (enV r) t.m=some (prD t)
 | [],h,_=>by cases h
 | u::r,h,nd=>by
  show (if u.m=t.m then some (prD u) else bz (enK r) (enV r) t.m)=_
  obtain ⟨n1,n2⟩:=List.nodup_cons.mp (show (u.m::enK r).Nodup from nd)
  rcases List.mem_cons.mp h with rfl | h
  ·rw [if_pos rfl]
  ·have hm:t.m∈enK r:=List.mem_map.mpr ⟨t,h,rfl⟩
   rw [if_neg fun z=>n1 (by rw [z];exact hm)]
   exact rV h n2
theorem Bq {n:Nat} (n10:n≤10) (r:List Tie) (hp:Pl n r) (nd:(r.map (·.m)).Nodup) (hl:r.length≤1000) (a b:Int) (w:List Step) (sw:mj (gf r) a w b) (wm:(mso w).Nodup) (wl:w.length≤1000) :
  wj [aK r,.int a,.int b,msD w]=some (.val (.bl true)):=by
 apply Wr.eq
 unfold wj
 (refine Dm.Wr.fn ?_ rfl rfl;dsimp only [List.map,List.replicate,List.cons_append,List.nil_append])
 have ml:(mso w).length≤1000:=by unfold mso;rw [List.length_map];exact wl
 refine Ws.seq (Ws.If (Wt.Or (Wt.Not (Wt.V (We.e1 (We.v rfl (Wg1.mk (v:=.val (.bl true)) (Wb.mk (Wif.f ?_)) rfl rfl)))))))
 refine Wt.Or (Wt.Not (Wt.V (We.F (Was.cons (We.v rfl (Was.nil (WF.val (Bo (mso w) ml) (Wb.mk (Wif.f ?_)) rfl rfl)))))))
 refine Wt.V (We.e2 (We.e1 (We.v rfl (Wg1.mk (v:=.val (.int ((mso w).length:Nat))) ?_ rfl (oS wm (by omega))))))
 refine We.B (Was.cons (We.v rfl (Was.nil (WB.qc (enc:=Dat.int) (xs:=mso w) ?_ rfl))))
 refine Wg2.ne ?_ rfl rfl
 rw [decide_eq_true rfl]
 refine Wb.mk (Wif.f (Ws.nx ?_))
 refine Ws.seq (Ws.A (We.Dn (WA.new ?_ (by first | (dsimp only [List.set];first | done | rfl) | rfl))) (by decide))
 refine Ws.seq (Ws.For (Wi.S (We.v rfl (Wk.val (cW ?_)))))
 refine Ws.inv bM _ _ r _ _ _ _ _ (fun p q ρ=>∃ c5,ρ=[.sh (aK r),.sh (.int a),.sh (.int b),.sh (msD w),.ow (.dct (enK p) (enV p)),c5,.un,.un]) ⟨_,rfl⟩ ?_ ?_
 ·rintro p t q ρ e ⟨c5,rfl⟩
  refine Dm.cD rfl (by first | (dsimp only [List.set];first | done | rfl) | rfl) ?_
  unfold Bc
  refine Ws.DR (We.T (Was.cons (We.e2 (We.v rfl (We.c (Wg2.ix (v:=.int t.a) ?_ rfl rfl rfl))))))
  refine Was.cons (We.e2 (We.v rfl (We.c (Wg2.ix (v:=.int t.b) ?_ rfl rfl rfl))))
  refine Was.nil (WT.mk ?_ rfl rfl (by exact Nat.le_of_ble_eq_true rfl))
  refine Wk.val ⟨⟨_,rfl⟩,We.e2 (We.v rfl (We.c (Wg2.ix (v:=.int t.m) (fy.mk (kM ?_ rfl rfl ?_)) rfl rfl rfl)))⟩
  ·have hm:t.m∉enK p:=by
    rw [e,List.map_append,List.map_cons] at nd
    exact fun z=>(List.nodup_append.mp nd).2.2 t.m z t.m List.mem_cons_self rfl
   obtain ⟨k1,k2⟩:=qg (vs:=enV p) (d:=prD t) hm
   refine ⟨.sh (bM t),?_⟩
   show [_,_,_,_,Cell.ow (.dct (i_ (enK p) t.m) (jb (enK p) (enV p) t.m (prD t))),_,_,_]=_
   rw [k1,k2]
   unfold enK enV
   rw [List.map_append,List.map_append]
   rfl
  ·have:=congrArg List.length e
   rw [List.length_append] at this
   unfold enK SZ
   rw [List.length_map]
   omega
 ·rintro ρ ⟨c5,rfl⟩
  refine Ws.seq (Ws.A (We.v rfl (WA.val ?_ (by first | (dsimp only [List.set];first | done | rfl) | rfl))) (by decide))
  refine Ws.seq (Ws.For (Wi.S (We.v rfl (Wk.val (cW ?_)))))
  refine Ws.inv Dat.int _ _ (mso w) _ _ _ _ _ (fun pm qm ρ=>∃ (x:Int) (v:List Step) (c7:Cell),ρ=[.sh (aK r),.sh (.int a),.sh (.int b),.sh (msD w),.ow (.dct (enK r) (enV r)),c5,.sh (.int x),c7]∧qm=mso v∧Way (gf r) x v b) ⟨a,w,_,rfl,rfl,sw.way⟩ ?_ ?_
  ·rintro pm m qm ρ em ⟨x,v,c7,rfl,eqw,hw⟩
   cases v with
   | nil=>cases eqw
   | cons s v=>
    obtain ⟨⟨t,ht,tm,te⟩,hw⟩:=hw
    have Me:m=s.1∧qm=mso v:=by
     have:m::qm=s.1::mso v:=eqw
     injection this with z1 z2
     exact ⟨z1,z2⟩
    obtain ⟨rfl,rfl⟩:=Me
    refine Dm.cD rfl (by first | (dsimp only [List.set];first | done | rfl) | rfl) ?_
    unfold Bd
    have lk:bz (enK r) (enV r) s.1=some (prD t):=by rw [← tm];exact rV ht nd
    obtain ⟨p1,p2,p3,p4⟩:=hp t ht
    refine Ws.seq (Ws.If (Wt.Or (Wt.V (We.e2 (We.v rfl (We.w rfl (Wg2.HS ?_ rfl rfl)))))))
    rw [lk]
    refine Wb.mk (Wif.f ?_)
    refine Wt.Or (Wt.V (We.e2 (We.v rfl (We.e2 (We.w rfl (We.v rfl (Wg2.dx lk ?_ rfl rfl)))))))
    refine Wg2.Ky (a:=t.a) (b:=t.b) ?_ rfl rfl
    rw [decide_eq_true (show x=t.a∨x=t.b by obtain ⟨_,h | h⟩:=te;exact .inl h.1.symm;exact .inr h.1.symm)]
    refine Wb.mk (Wif.f ?_)
    refine Wt.V (We.e2 (We.e2 (We.e2 (We.w rfl (We.v rfl (Wg2.dx lk ?_ rfl rfl))))))
    refine We.c (Wg2.ix (v:=.int t.a) ?_ rfl rfl rfl)
    refine We.e2 (We.e2 (We.w rfl (We.v rfl (Wg2.dx lk ?_ rfl rfl))))
    refine We.c (Wg2.ix (v:=.int t.b) ?_ rfl rfl rfl)
    refine Wg2.eq ?_ rfl rfl
    rw [decide_eq_false te.1]
    refine Wb.mk (Wif.f (Ws.nx ?_))
    refine Ws.A (We.e2 (We.B (Was.cons (We.e2 (We.w rfl (We.v rfl (Wg2.dx lk ?_ rfl rfl))))))) (by decide)
    refine Was.nil (WB.sum2 (a:=t.a) (b:=t.b) ?_ rfl (by omega))
    refine We.v rfl (Wg2.sub ?_ rfl rfl)
    refine WA.val ⟨s.2,v,.sh (.int s.1),?_,rfl,hw⟩ (by first | (dsimp only [List.set];first | done | rfl) | rfl)
    have:t.a+t.b-x=s.2:=by obtain ⟨_,h | h⟩:=te<;>omega
    rw [this]
  ·rintro ρ ⟨x,v,c7,rfl,eqw,hw⟩
   cases v with
   | cons s v=>cases eqw
   | nil=>
    cases hw
    refine Ws.R (We.e2 (We.v rfl (We.v rfl (Wg2.eq ?_ rfl rfl))))
    rw [decide_eq_true rfl]
    rfl
theorem rW {n:Nat} (n10:n≤10) (r:List Tie) (hp:Pl n r) (nd:(r.map (·.m)).Nodup) (hl:r.length≤1000) (a b:Int) (ws:List (List Step)) (W:D8 r a b ws) (hf:(ws.map mso).flatten.length≤1000) (hc:ws.length≤1000) :
  wk [aK r,.int a,.int b,.lst (ws.map msD)]=some (.val (.bl true)):=by
 apply Wr.eq
 unfold wk
 (refine Dm.Wr.fn ?_ rfl rfl;dsimp only [List.map,List.replicate,List.cons_append,List.nil_append])
 refine Ws.seq (Ws.If (Wt.Not (Wt.V (We.e1 (We.v rfl (Wg1.mk (v:=.val (.bl true)) (Wb.mk (Wif.f (Ws.nx ?_))) rfl rfl))))))
 refine Ws.seq (Ws.A (We.L (Was.nil (WT.mk ?_ rfl rfl (by decide)))) (by decide))
 refine WA.new ?_ (by first | (dsimp only [List.set];first | done | rfl) | rfl)
 refine Ws.seq (Ws.For (Wi.S (We.v rfl (Wk.val (cW ?_)))))
 refine Ws.inv msD _ _ ws _ _ _ _ _ (fun p q ρ=>∃ c5,ρ=[.sh (aK r),.sh (.int a),.sh (.int b),.sh (.lst (ws.map msD)),.ow (.lst ((p.map mso).flatten.map Dat.int)),c5]) ⟨_,rfl⟩ ?_ ?_
 ·rintro p w q ρ e ⟨c5,rfl⟩
  refine Dm.cD rfl (by first | (dsimp only [List.set];first | done | rfl) | rfl) ?_
  unfold Be
  have hw:w∈ws:=by rw [e];simp
  have fl:(ws.map mso).flatten=(p.map mso).flatten++(mso w++(q.map mso).flatten):=by rw [e];simp
  have fl2:(ws.map mso).flatten.length=(p.map mso).flatten.length+((mso w).length+(q.map mso).flatten.length):=by rw [fl,List.length_append,List.length_append]
  have wl:w.length=(mso w).length:=by unfold mso;rw [List.length_map]
  have wm:(mso w).Nodup:=by
   have:=W.nd
   rw [fl] at this
   exact (List.nodup_append.mp (List.nodup_append.mp this).2.1).1
  refine Ws.seq (Ws.If (Wt.Not (Wt.V (We.F ?_))))
  refine Was.cons (We.v rfl (Was.cons (We.v rfl (Was.cons (We.v rfl (Was.cons (We.v rfl (Was.nil (WF.val (Bq n10 r hp nd hl a b w (W.way w hw) wm (by omega)) (Wb.mk (Wif.f (Ws.nx ?_))) rfl rfl)))))))))
  refine Ws.Ext (We.v rfl ⟨(mso w).map Dat.int,(p.map mso).flatten.map Dat.int,_,rfl,rfl,rfl,⟨.sh (msD w),?_⟩,?_⟩) rfl
  ·rw [List.map_append,List.flatten_append,List.map_append]
   simp
  ·rw [List.length_map,List.length_map]
   unfold SZ
   omega
 ·rintro ρ ⟨c5,rfl⟩
  refine Ws.R (We.e2 (We.e1 (We.w rfl (Wg1.mk (v:=.val (.int ((ws.map mso).flatten.length:Nat))) ?_ rfl (oS W.nd (by omega))))))
  refine We.B (Was.cons (We.w rfl (Was.nil (WB.qc (enc:=Dat.int) (xs:=(ws.map mso).flatten) ?_ rfl))))
  refine Wg2.eq ?_ rfl rfl
  rw [decide_eq_true rfl]
  rfl
theorem Apart.KC {n:Nat} {r:List Tie} {a b most:Int} {ws:List (List Step)} {o:Option (List Int)} (A:Apart n r a b most ws o):(ws.map mso).flatten.length≤r.length:=by
 have sub:∀ m∈(ws.map mso).flatten,m∈r.map (·.m):=fun m hm=>by
  obtain ⟨l,hl,hm⟩:=List.mem_flatten.mp hm
  obtain ⟨w,hw,rfl⟩:=List.mem_map.mp hl
  obtain ⟨s,hs,rfl⟩:=List.mem_map.mp hm
  exact uC (fun p s z=>z) (A.ways.way w hw).way s hs
 have:=A.ways.nd.length_le_of_subset (fun m hm=>sub m hm)
 rw [List.length_map] at this
 exact this
theorem mD {n:Nat} (n10:n≤10) (r:List Tie) (hp:Pl n r) (nd:(r.map (·.m)).Nodup) (hl:r.length≤60) (a b most:Int) (m1:most≤90) (ws:List (List Step)) (o:Option (List Int)) (A:Apart n r a b most ws o) :
  d9 [.int (n:Nat),aK r,.int a,.int b,.int most,.tup [.int (ws.length:Nat),.lst (ws.map msD),aO o]]=some (.val (.bl true)):=by
 apply Wr.eq
 unfold d9
 (refine Dm.Wr.fn ?_ rfl rfl;dsimp only [List.map,List.replicate,List.cons_append,List.nil_append])
 have fl:=A.KC
 refine Ws.seq (Ws.If (Wt.Or (Wt.Not (Wt.V (We.e1 (We.v rfl (Wg1.mk (v:=.val (.bl true)) (Wb.mk (Wif.f ?_)) rfl rfl)))))))
 refine Wt.Or (Wt.V (We.e2 (We.B (Was.cons (We.v rfl (Was.nil ⟨_,_,rfl,rfl,?_⟩))))))
 refine We.c (Wg2.ne (i:=3) (j:=3) (Wb.mk (Wif.f ?_)) rfl rfl)
 refine Wt.Not (Wt.V (We.F (Was.cons (We.e2 (We.v rfl (We.c (Wg2.ix (v:=.int (ws.length:Nat)) (Was.nil (WF.val (eU _) (Wb.mk (Wif.f (Ws.nx ?_))) rfl rfl)) rfl rfl rfl)))))))
 refine Ws.seq (Ws.U (We.v rfl (Wk.val ⟨_,_,rfl,rfl,?_⟩)))
 have hc:(ws.length:Int)≤most:=A.le
 refine Ws.seq (Ws.If (Wt.Or (Wt.V (We.e2 (We.v rfl (We.v rfl (Wg2.gt ?_ rfl rfl)))))))
 rw [decide_eq_false (by omega)]
 refine Wb.mk (Wif.f ?_)
 refine Wt.Or (Wt.Not (Wt.V (We.F ?_)))
 refine Was.cons (We.v rfl (Was.cons (We.v rfl (Was.cons (We.v rfl (Was.cons (We.v rfl (Was.nil (WF.val (rW n10 r hp nd (by omega) a b ws A.ways (by omega) (by omega)) (Wb.mk (Wif.f ?_)) rfl rfl)))))))))
 refine Wt.V (We.e2 (We.B (Was.cons (We.v rfl (Was.nil (WB.qc (enc:=msD) (xs:=ws) ?_ rfl))))))
 refine We.v rfl (Wg2.ne ?_ rfl rfl)
 rw [decide_eq_true rfl]
 refine Wb.mk (Wif.f (Ws.nx ?_))
 refine Ws.seq (Ws.If (Wt.V (We.e2 (We.v rfl (We.c (Wg2.isN (Wb.mk ?_) rfl rfl))))))
 cases o with
 | none=>
  refine Wif.t (Ws.R (We.e2 (We.v rfl (We.v rfl (Wg2.eq ?_ rfl rfl)))))
  rw [decide_eq_true (A.all rfl)]
  rfl
 | some S=>
  obtain ⟨q1,q2,q3⟩:=A.side S rfl
  refine Wif.f (Ws.nx ?_)
  refine Ws.R (We.And (We.e2 (We.v rfl (We.v rfl (Wg2.lt ?_ rfl rfl)))))
  rw [decide_eq_true q3]
  refine Wb.mk (Wif.t ?_)
  refine We.And (We.F ?_)
  have sl:S.length≤17:=by
   have h1:S.length≤((List.range n).map fun i:Nat=>(i:Int)).length:=(Ft q1.1).length_le_of_subset fun x hx=>by
    obtain ⟨z1,z2⟩:=q1.2.1 x hx
    exact List.mem_map.mpr ⟨x.toNat,List.mem_range.mpr (by omega),by omega⟩
   rw [List.length_map,List.length_range] at h1
   omega
  refine Was.cons (We.v rfl (Was.cons (We.v rfl (Was.cons (We.v rfl (Was.cons (We.v rfl (Was.nil (WF.val (uJ n10 q1 sl) (Wb.mk (Wif.t ?_)) rfl rfl)))))))))
  refine We.e2 (We.B (Was.cons (We.F ?_)))
  refine Was.cons (We.v rfl (Was.cons (We.v rfl (Was.nil (WF.box (Ie r (by omega) S) ?_ rfl rfl rfl rfl)))))
  refine Was.nil (WB.qc (enc:=Dat.int) (xs:=uF r S) ?_ rfl)
  refine We.v rfl (Wg2.eq ?_ rfl rfl)
  rw [decide_eq_true (by rw [q2])]
  rfl
theorem KD (w:List Step):eqD (msD w) (msD w)=true:=by
 unfold msD
 rw [eqD]
 have:∀ l:List Int,cK (l.map Dat.int) (l.map Dat.int)=true:=fun l=>by
  induction l with
  | nil=>rfl
  | cons x l ih=>rw [List.map_cons,cK,ih];simp [eqD]
 exact this _
theorem eq_self (c:Int) (ws:List (List Step)) (o:Option (List Int)):eqD (.tup [.int c,.lst (ws.map msD),aO o]) (.tup [.int c,.lst (ws.map msD),aO o])=true:=by
 have h1:cK (ws.map msD) (ws.map msD)=true:=by
  induction ws with
  | nil=>rfl
  | cons w ws ih=>rw [List.map_cons,cK,ih,KD];rfl
 have h3:∀ l:List Int,cK (l.map Dat.int) (l.map Dat.int)=true:=fun l=>by
  induction l with
  | nil=>rfl
  | cons x l ih=>rw [List.map_cons,cK,ih];simp [eqD]
 have h2:eqD (aO o) (aO o)=true:=by
  cases o with
  | none=>rfl
  | some S=>unfold aO tupI;rw [eqD];exact h3 S
 rw [eqD,cK,cK,cK,cK,h2]
 rw [show eqD (.lst (ws.map msD)) (.lst (ws.map msD))=cK (ws.map msD) (ws.map msD) by rw [eqD],h1]
 simp [eqD]
theorem Eg (c:Int) (ws:List (List Step)) (o:Option (List Int)):okD 8 (.tup [.int c,.lst (ws.map msD),aO o])=true:=by
 have h0:∀ (m:Nat) (l:List Int),(l.map Dat.int).all (okD m)=true:=fun m l=>by
  rw [List.all_eq_true];intro d hd;obtain ⟨i,_,rfl⟩:=List.mem_map.mp hd;cases m<;>rfl
 have h1:(ws.map msD).all (okD 6)=true:=by
  rw [List.all_eq_true];intro d hd;obtain ⟨w,_,rfl⟩:=List.mem_map.mp hd
  exact h0 5 _
 have h2:okD 7 (aO o)=true:=by
  cases o with
  | none=>rfl
  | some S=>exact h0 6 S
 show ([.int c,.lst (ws.map msD),aO o].all (okD 7))=true
 rw [List.all_cons,List.all_cons,List.all_cons,h2]
 show (true&&((ws.map msD).all (okD 6)&&_))=true
 rw [h1];rfl
theorem Ig (r:List Tie):eqD (aK r) (aK r)=true:=by
 unfold aK
 rw [eqD]
 induction r with
 | nil=>rfl
 | cons b bs ih=>
  rw [List.map_cons,cK,ih]
  simp [bM,eqD,cK]
theorem Wg2.qq {d:Dat} {o p:Option Dat} {Q:RV→Prop} (hk:okD 8 d=true) (he:eqD d d=true) (k:Q (.val (.bl false))) (ho:o=some d) (hp:p=some d):Wg2 gNe o p Q:=
 ⟨_,_,_,ho,hp,by unfold gNe;rw [hk,he];rfl,k⟩
theorem wF {u t:Tie} (h:u.m≠t.m):eqD (bM u) (bM t)=false:=by
 unfold bM
 simp [eqD,cK,h]
theorem Eh (t:Tie):eqD (bM t) (bM t)=true:=by
 unfold bM
 simp [eqD,cK]
noncomputable def unlike (g:Tie) (x:Tie):Bool:=!(eqD (bM x) (bM g))
theorem Wg2.KG {u t:Tie} {o p:Option Dat} {Q:RV→Prop} (k:Q (.val (.bl (unlike t u)))) (ho:o=some (bM u)) (hp:p=some (bM t)):Wg2 gNe o p Q:=⟨_,_,_,ho,hp,rfl,k⟩
theorem oU {α β:Type} (f:α→β):∀ (l:List α) (i:Nat),(l.map f).eraseIdx i=(l.eraseIdx i).map f
 | [],_=>rfl
 | _::_,0=>rfl
 | x::l,i+1=>by
  show f x::(l.map f).eraseIdx i=f x::(l.eraseIdx i).map f
  rw [oU f l i]
theorem erase_filter:∀ (r:List Tie) (i:Nat) (g:Tie),(r.map (·.m)).Nodup→r[i]?=some g→r.eraseIdx i=r.filter (unlike g)
 | [],_,_,_,h=>by cases h
 | t::r,0,g,nd,h=>by
  cases h
  obtain ⟨n1,n2⟩:=List.nodup_cons.mp (show (t.m::r.map (·.m)).Nodup from nd)
  rw [List.filter_cons_of_neg (by unfold unlike;rw [Eh];decide)]
  show r=_
  refine (List.filter_eq_self.mpr fun x hx=>?_).symm
  unfold unlike
  rw [wF fun z=>n1 (by rw [← z];exact List.mem_map.mpr ⟨x,hx,rfl⟩)]
  rfl
 | t::r,i+1,g,nd,h=>by
  obtain ⟨n1,n2⟩:=List.nodup_cons.mp (show (t.m::r.map (·.m)).Nodup from nd)
  have hg:r[i]?=some g:=h
  rw [List.filter_cons_of_pos (by unfold unlike;rw [wF fun z=>n1 (by rw [z];exact List.mem_map.mpr ⟨g,List.mem_of_getElem? hg,rfl⟩)];rfl)]
  show t::r.eraseIdx i=_
  rw [erase_filter r i g n2 hg]
theorem We.KH {i:Nat} {e:FE} {ρ:Env} {ds0:List Dat} {Q:Val→Env→Prop} (h:We e ρ fun v ρ1=>fy v fun j=>∃ ds d ρ2,ρ1[i]?=some (.ow (.lst ds))∧(0≤j∧j≤BIG)∧ds[j.toNat]?=some d∧ρ1.set i (.ow (.lst (ds.eraseIdx j.toNat)))=ρ2∧Q (.val d) ρ2) (h0:ρ[i]?=some (.ow (.lst ds0))):We (cL i e) ρ Q:=by
 obtain ⟨v,ρ1,h1,j,rfl,ds,d,ρ2,h2,h3,h4,h5,q⟩:=h
 refine ⟨_,_,?_,q⟩
 unfold cL
 rw [h0]
 dsimp only
 rw [h1]
 dsimp only
 rw [h2]
 dsimp only
 rw [if_pos h3,h4]
 dsimp only
 rw [h5]
theorem yG (n a t:Int) (hn:2≤n) (a0:0≤a) (a1:a<n) (t0:0≤t) (t1:t<n-1):0≤(a+1+t) % n∧(a+1+t) % n<n∧(a+1+t) % n≠a:=by
 have h:=cY (a+1+t) n (by omega)
 refine ⟨h.1,h.2,?_⟩
 by_cases q:a+1+t<n
 ·rw [Int.emod_eq_of_lt (by omega) q];omega
 ·have e:(a+1+t) % n=(a+1+t-n) % n:=by rw [Int.sub_emod_right]
  rw [e,Int.emod_eq_of_lt (by omega) (by omega)];omega
noncomputable def cR (ws:List (List Step)) (o:Option (List Int)):Dat:=.tup [.int (ws.length:Nat),.lst (ws.map msD),aO o]
noncomputable def mE (ws:List (List Step)) (o:Option (List Int)):Dp:=.t [.s (.int (ws.length:Nat)),.l (ws.map msP),.s (aO o)]
theorem Bs (ws:List (List Step)):(Dp.l (ws.map msP)).dat=.lst (ws.map msD):=by
 unfold Dp.dat
 rw [Dp.ji,List.map_map]
 congr 1
 exact List.map_congr_left fun w _=>by
  show Dp.dat (msP w)=msD w
  unfold msP Dp.dat
  rw [Dp.As]
  rfl
theorem rX (ws:List (List Step)) (o:Option (List Int)):(mE ws o).dat=cR ws o:=by
 show Dat.tup [.int (ws.length:Nat),Dp.dat (.l (ws.map msP)),aO o]=_
 rw [Bs]
 rfl
theorem oV:∀ ws:List (List Step),bu (ws.map msP)=true
 | []=>by unfold bu;rfl
 | w::ws=>by
  rw [List.map_cons]
  unfold bu
  rw [oV ws]
  unfold msP aW
  rw [jn]
  rfl
theorem mF:∀ ns:List Int,lT (ns.map Dat.int)=true
 | []=>by unfold lT;rfl
 | i::ns=>by
  rw [List.map_cons]
  unfold lT
  rw [l8,mF ns]
  rfl
theorem yH (o:Option (List Int)):kE (aO o)=true:=by
 cases o with
 | none=>unfold aO kE;rfl
 | some S=>unfold aO tupI kE;exact mF S
theorem oW (ws:List (List Step)) (o:Option (List Int)):aW (mE ws o)=true:=by
 have h1:aW (.l (ws.map msP))=true:=by unfold aW;exact oV ws
 have h2:aW (.s (aO o))=true:=by unfold aW;exact yH o
 have h3:aW (.s (.int (ws.length:Nat)))=true:=by unfold aW;exact l8 _
 unfold mE aW
 unfold bu bu bu bu
 rw [h1,h2,h3]
 rfl
theorem ia (k:Nat):∀ ns:List Int,cQ k (ns.map Dat.int)=true
 | []=>by unfold cQ;rfl
 | i::ns=>by
  rw [List.map_cons]
  unfold cQ
  rw [ia k ns]
  unfold dB
  rfl
theorem Ei (w:List Step):dB 5 (msD w)=true:=by
 unfold msD dB
 rw [ia]
 cases mso w with
 | nil=>rfl
 | cons x l=>rfl
theorem d_ (ws:List (List Step)) (o:Option (List Int)):dB 5 (cR ws o)=true:=by
 have h1:∀ ws:List (List Step),cQ 5 (ws.map msD)=true:=fun ws=>by
  induction ws with
  | nil=>unfold cQ;rfl
  | cons w ws ih=>
   rw [List.map_cons]
   unfold cQ
   rw [ih,Ei]
   rfl
 have h2:dB 5 (.lst (ws.map msD))=true:=by
  unfold dB
  rw [h1]
  cases ws with
  | nil=>rfl
  | cons w ws=>rfl
 have h3:dB 5 (aO o)=true:=by
  cases o with
  | none=>unfold aO dB;rfl
  | some S=>unfold aO tupI dB;exact ia 5 S
 have h4:dB 5 (.int (ws.length:Nat))=true:=by unfold dB;rfl
 unfold cR dB
 unfold cQ cQ cQ cQ
 rw [h2,h3,h4]
 rfl
theorem wG (ws:List (List Step)) (o:Option (List Int)):eqD (cR ws o) (cR ws o)=true:=eq_self _ ws o
theorem rY (ws:List (List Step)) (o:Option (List Int)):okD 8 (cR ws o)=true:=Eg _ ws o
noncomputable def LE (ns:List Int) (at_:Int) (x:Int) (n:Nat) (many:Int) (r:List Tie) (a b most start:Int) (c10 c11 c12 c13 c14 c15:Cell):Env:=
 [.sh (.lst (ns.map Dat.int)),.sh (.int at_),.ow (aQ x),.sh (.int n),.sh (.int many),.ow (aK r),.sh (.int a),.sh (.int b),.sh (.int most),.sh (.int start),c10,c11,c12,c13,c14,c15]
theorem Bt (ns:List Int) (at_:Int) (x:Int) (n:Nat) (n2:2≤n) (n10:n≤10) (many:Int) (r:List Tie) (hg:Good n 0 r) (hl:r.length≤60) (a b most start:Int) (a0:0≤a) (a1:a<n) (b0:0≤b) (b1:b<n) (hab:a≠b) (m0:0≤most) (m1:most≤90) (ws:List (List Step)) (o:Option (List Int))
  (eh:dF [.int n,aK r,.int a,.int b,.int most,.int start]=some (.val (cR ws o))) (c14 c15:Cell) {N:Env→Prop} {R:RV→Env→Prop} {B C:Env→Prop} (nx:∀ x c5 c10 c11 c12 c13 c14 c15,N [.sh (.lst (ns.map Dat.int)),.sh (.int at_),.ow (aQ x),.sh (.int n),.sh (.int many),c5,.sh (.int a),.sh (.int b),.sh (.int most),.sh (.int start),c10,c11,c12,c13,c14,c15]) :
  Ws (av (sIf (tOr (tV (e2 gNe (eFk 5 dF ([(eV 3),(eV 10),(eV 6),(eV 7),(eV 8)]++[(eV 9)])) (eV 12))) (tV (e2 gNe (eV 10) (eV 5)))) (sR (eC (.bl false))) sNx)
  (sIf (tV (e2 gNe (eV 5) (cF []))) (av (sA 14 (cL 10 (eFm aT 2 [(eB dS [(eV 5)])])))
  (av (sA 15 (eF jr [(a_ 5 1 (bN 16) (tV (e2 gNe (eV 16) (eV 14))) (eV 16)),(eV 9)]))
  (sIf (b9 (tV (eF d9 [(eV 3),(eV 15),(eV 6),(eV 7),(eV 8),(eFk 5 dF [(eV 3),(eV 10),(eV 6),(eV 7),(eV 8),(eV 9)])]))) (sR (eC (.bl false))) sNx))) sNx))
   (LE ns at_ x n many r a b most start (.ow (aK r)) .un (.sh (cR ws o)) .un c14 c15) N R B C:=by
 unfold LE
 cases hr:r with
 | nil=>
  rw [hr] at eh
  subst hr
  refine Ws.seq (Ws.If (Wt.Or (Wt.V (We.e2 (We.Fk ?_)))))
  refine Was.cons (We.v rfl (Was.cons (We.w rfl (Was.cons (We.v rfl (Was.cons (We.v rfl (Was.cons (We.v rfl (Was.cons (We.v rfl (Was.nil ?_))))))))))))
  refine ⟨_,_,_,rfl,eh,d_ ws o,?_⟩
  refine We.v rfl (Wg2.qq (d:=cR ws o) (rY ws o) (wG ws o) (Wb.mk (Wif.f ?_)) rfl rfl)
  refine Wt.V (We.e2 (We.v rfl (We.w rfl (Wg2.qq (d:=aK []) rfl rfl (Wb.mk (Wif.f (Ws.nx ?_))) rfl rfl))))
  refine Ws.If (Wt.V (We.e2 (We.w rfl (We.L (Was.nil (WT.mk ?_ rfl rfl (by decide)))))))
  exact Wg2.AZ (xs:=[]) (Wb.mk (Wif.f (Ws.nx (nx _ _ _ _ _ _ _ _)))) rfl rfl rfl
 | cons t0 r0=>
  subst hr
  refine Ws.seq (Ws.If (Wt.Or (Wt.V (We.e2 (We.Fk ?_)))))
  refine Was.cons (We.v rfl (Was.cons (We.w rfl (Was.cons (We.v rfl (Was.cons (We.v rfl (Was.cons (We.v rfl (Was.cons (We.v rfl (Was.nil ?_))))))))))))
  refine ⟨_,_,_,rfl,eh,d_ ws o,?_⟩
  refine We.v rfl (Wg2.qq (d:=cR ws o) (rY ws o) (wG ws o) (Wb.mk (Wif.f ?_)) rfl rfl)
  refine Wt.V (We.e2 (We.w rfl (We.w rfl (Wg2.qq (d:=aK (t0::r0)) (uH _) (Ig _) (Wb.mk (Wif.f (Ws.nx ?_))) rfl rfl))))
  refine Ws.If (Wt.V (We.e2 (We.w rfl (We.L (Was.nil (WT.mk ?_ rfl rfl (by decide)))))))
  refine Wg2.AZ (xs:=(t0::r0).map bM) (Wb.mk (Wif.t ?_)) rfl rfl (uH (t0::r0))
  generalize hR:t0::r0=r at hg hl
  refine Ws.seq (Ws.A (We.KH (We.drw (m:=((r.map bM).length:Nat)) rfl (by rw [← hR];simp) (by rw [List.length_map];unfold fG;omega) rfl fun i x2 i0 i1 ρ3 e=>?_) rfl) (by decide))
  subst e
  rw [List.length_map] at i1
  have hi:i.toNat<r.length:=by omega
  have hgi:r[i.toNat]?=some r[i.toNat]:=by simp [hi]
  refine fy.mk ⟨_,bM r[i.toNat],_,rfl,⟨i0,by unfold BIG;omega⟩,by rw [List.getElem?_map,hgi];rfl,rfl,?_⟩
  refine WA.val ?_ (by first | (dsimp only [List.set];first | done | rfl) | rfl)
  generalize hgg:r[i.toNat]=g at hgi
  have ef:=erase_filter r i.toNat g hg.nd hgi
  have em:(r.map bM).eraseIdx i.toNat=(r.filter (unlike g)).map bM:=by rw [oU,ef]
  have fl:(r.filter (unlike g)).length≤r.length:=List.length_filter_le _ _
  refine Ws.seq (Ws.A (We.F (Was.cons (We.Ks bM r (unlike g) bM ?_ rfl rfl rfl (by decide) (by unfold SZ;omega) (fun u _=>?_) fun u _ _=>?_))) (by decide))
  rotate_left
  ·exact Wt.V (We.e2 (We.v rfl (We.v rfl (Wg2.KG (u:=u) (t:=g) (Wb.mk ⟨rfl,rfl⟩) rfl rfl))))
  ·exact We.v rfl (Wk.val ⟨rfl,rfl⟩)
  refine Was.cons (We.v rfl (Was.nil (WF.box (jx (r.filter (unlike g)) (by omega) start) ?_ rfl rfl rfl rfl)))
  refine WA.new ?_ (by first | (dsimp only [List.set];first | done | rfl) | rfl)
  rw [em]
  have hg':Good n 0 (r.filter (unlike g)):=hg.filter _
  generalize r.filter (unlike g)=r' at hg' fl
  obtain ⟨ws',o',e1,_,A⟩:=jQ n (by omega) r' hg' (by omega) a b a0 a1 b0 b1 hab most m0 m1 start
  have sl:=qo r' start
  have er:=mD n10 (ql r' start) hg'.since.pl hg'.since.nd (by omega) a b most m1 ws' o' A
  refine Ws.If (Wt.Not (Wt.V (We.F ?_)))
  refine Was.cons (We.v rfl (Was.cons (We.w rfl (Was.cons (We.v rfl (Was.cons (We.v rfl (Was.cons (We.v rfl (Was.cons (We.Fk ?_)))))))))))
  refine Was.cons (We.v rfl (Was.cons (We.w rfl (Was.cons (We.v rfl (Was.cons (We.v rfl (Was.cons (We.v rfl (Was.cons (We.v rfl (Was.nil ?_))))))))))))
  cases r' with
  | nil=>
   refine ⟨_,_,_,rfl,e1,d_ ws' o',?_⟩
   exact Was.nil (WF.val er (Wb.mk (Wif.f (Ws.nx (nx _ _ _ _ _ _ _ _)))) rfl rfl)
  | cons t1 r1=>
   refine ⟨_,_,_,rfl,e1,d_ ws' o',?_⟩
   exact Was.nil (WF.val er (Wb.mk (Wif.f (Ws.nx (nx _ _ _ _ _ _ _ _)))) rfl rfl)
theorem KI {n:Int} {r:List Tie} (h:Good n 0 r):ql r 0=r:=List.filter_eq_self.mpr fun t ht=>decide_eq_true (h.lo t ht)
noncomputable def SE (ns:List Int) (at_:Int) (x:Int) (n:Nat) (many:Int) (r:List Tie) (a b most start:Int) (D:Dat) (c12 c13 c14 c15:Cell):Env:=
 [.sh (.lst (ns.map Dat.int)),.sh (.int at_),.sh (aQ x),.sh (.int n),.sh (.int many),.sh (aK r),.sh (.int a),.sh (.int b),.sh (.int most),.sh (.int start),.sh (aK r),.sh D,shC c12,shC c13,shC c14,shC c15]
theorem uK (ns:List Int) (at_:Int) (x:Int) (n:Nat) (many:Int) (r:List Tie) (a b most start:Int) (ws:List (List Step)) (o:Option (List Int)) (c12 c13 c14 c15:Cell) :
  see 11 (LE ns at_ x n many r a b most start (.ow (aK r)) .un c12 c13 c14 c15) (mE ws o)=SE ns at_ x n many r a b most start (cR ws o) c12 c13 c14 c15:=by
 rw [← rX]
 rfl
theorem Ej (ns:List Int) (at_:Int) (x:Int) (n:Nat) (many:Int) (r:List Tie) (a b most start:Int) (ws:List (List Step)) (o:Option (List Int)) (hw:ws.length≤1000) (c12 c13 c14 c15:Cell) :
  Wp' (pT [(pO (e2 gIx (eV 11) (eC (.int 0)))),(jl (iS (e2 gIx (eV 11) (eC (.int 1)))) 1 (bN 16) (pO (eB fJ [(eV 16)]))),(pO (e2 gIx (eV 11) (eC (.int 2))))]) (SE ns at_ x n many r a b most start (cR ws o) c12 c13 c14 c15) fun q _=>q=mE ws o:=by
 unfold SE cR
 refine Wp'.T (Wpa.cons (Wp'.val (d:=.int (ws.length:Nat)) (We.e2 (We.v rfl (We.c (Wg2.ix (v:=.int (ws.length:Nat)) ⟨rfl,?_⟩ rfl rfl rfl))))))
 refine Wpa.cons (Wp'.Comp msD ws msP (fun ρ=>∃ c,ρ=SE ns at_ x n many r a b most start (cR ws o) c12 c13 c14 c15++[c]) (ρ1:=SE ns at_ x n many r a b most start (cR ws o) c12 c13 c14 c15) ?_ (by unfold SZ;omega) ⟨_,rfl⟩ ?_ ?_)
 ·apply Wi.get
  exact Wi.S (We.e2 (We.v rfl (We.c (Wg2.ix (v:=.lst (ws.map msD)) (Wk.val (cW ⟨rfl,rfl⟩)) rfl rfl rfl))))
 ·rintro w hw ρ ⟨c,rfl⟩
  refine ⟨SE ns at_ x n many r a b most start (cR ws o) c12 c13 c14 c15++[.sh (msD w)],rfl,?_⟩
  exact Wp'.new (ds:=(mso w).map Dat.int) (We.B (Was.cons (We.v rfl (Was.nil (WB.list (xs:=(mso w).map Dat.int) ⟨rfl,rfl,_,rfl⟩ rfl)))))
 ·rintro ρ2 ⟨c,rfl⟩
  exact Wpa.cons (Wp'.val (d:=aO o) (We.e2 (We.v rfl (We.c (Wg2.ix (v:=aO o) ⟨rfl,Wpa.nil ⟨by exact Nat.le_of_ble_eq_true rfl,rfl⟩⟩ rfl rfl rfl)))))
theorem Ek (ns:List Int) (at_:Int) (x:Int) (n:Nat) (n2:2≤n) (n10:n≤10) (many:Int) (r:List Tie) (hg:Good n 0 r) (hl:r.length≤60) (a b most start:Int) (a0:0≤a) (a1:a<n) (b0:0≤b) (b1:b<n) (hab:a≠b) (m0:0≤most) (m1:most≤90) (c11 c12 c13 c14 c15:Cell)
  {N:Env→Prop} {R:RV→Env→Prop} {B C:Env→Prop} (nx:∀ x c5 c10 c11 c12 c13 c14 c15,N [.sh (.lst (ns.map Dat.int)),.sh (.int at_),.ow (aQ x),.sh (.int n),.sh (.int many),c5,.sh (.int a),.sh (.int b),.sh (.int most),.sh (.int start),c10,c11,c12,c13,c14,c15]) :
  Ws (fY 11 cy [(eV 3),(eV 10),(eV 6),(eV 7),(eV 8),(eV 9)]
  (mIf 11 (b9 (tV (eF d9 [(eV 3),(eF jr [(eV 5),(eV 9)]),(eV 6),(eV 7),(eV 8),(eV 11)]))) (sR (eC (.bl false)))
  (mIf 11 (b9 (tV (eF d9 [(eV 3),(eV 5),(eV 6),(eV 7),(eV 8),(eFk 5 (fun ds=>dF (ds++[.int 0])) [(eV 3),(eV 10),(eV 6),(eV 7),(eV 8)])]))) (sR (eC (.bl false)))
  (kF (j6 11 12 (pT [(pO (e2 gIx (eV 11) (eC (.int 0)))),(jl (iS (e2 gIx (eV 11) (eC (.int 1)))) 1 (bN 16) (pO (eB fJ [(eV 16)]))),(pO (e2 gIx (eV 11) (eC (.int 2))))]))
  (kF (j8 11 1 13 0)
  (rm 1
  (av (sIf (tOr (tV (e2 gNe (eFk 5 dF ([(eV 3),(eV 10),(eV 6),(eV 7),(eV 8)]++[(eV 9)])) (eV 12))) (tV (e2 gNe (eV 10) (eV 5)))) (sR (eC (.bl false))) sNx)
  (sIf (tV (e2 gNe (eV 5) (cF []))) (av (sA 14 (cL 10 (eFm aT 2 [(eB dS [(eV 5)])])))
  (av (sA 15 (eF jr [(a_ 5 1 (bN 16) (tV (e2 gNe (eV 16) (eV 14))) (eV 16)),(eV 9)]))
  (sIf (b9 (tV (eF d9 [(eV 3),(eV 15),(eV 6),(eV 7),(eV 8),(eFk 5 dF [(eV 3),(eV 10),(eV 6),(eV 7),(eV 8),(eV 9)])]))) (sR (eC (.bl false))) sNx))) sNx)))))))) (LE ns at_ x n many r a b most start (.ow (aK r)) c11 c12 c13 c14 c15) N R B C:=by
 obtain ⟨ws,o,e1,eP,A⟩:=jQ n (by omega) r hg (by omega) a b a0 a1 b0 b1 hab most m0 m1 start
 obtain ⟨ws0,o0,e0,_,A0⟩:=jQ n (by omega) r hg (by omega) a b a0 a1 b0 b1 hab most m0 m1 0
 rw [KI hg] at A0
 have sl:=qo r start
 have wl:ws.length≤90:=by have:=A.le;omega
 have er:=mD n10 (ql r start) hg.since.pl hg.since.nd (by omega) a b most m1 ws o A
 have er0:=mD n10 r hg.pl hg.nd hl a b most m1 ws0 o0 A0
 unfold LE
 refine Ws.KA (Was.cons (We.v rfl (Was.cons (We.w rfl (Was.cons (We.v rfl (Was.cons (We.v rfl (Was.cons (We.v rfl (Was.cons (We.v rfl (Was.nil ⟨_,mE ws o,LE ns at_ x n many r a b most start (.ow (aK r)) .un c12 c13 c14 c15,eP,?_,rfl,oW ws o,rfl⟩))))))))))))) (by decide)
 refine Wm.no ?_ ?_ (uK ns at_ x n many r a b most start ws o c12 c13 c14 c15)
 ·unfold SE
  refine Wt.Not (Wt.V (We.F ?_))
  refine Was.cons (We.v rfl (Was.cons (We.F ?_)))
  refine Was.cons (We.v rfl (Was.cons (We.v rfl (Was.nil (WF.box (jx r (by omega) start) ?_ rfl rfl rfl rfl)))))
  exact Was.cons (We.v rfl (Was.cons (We.v rfl (Was.cons (We.v rfl (Was.cons (We.v rfl (Was.nil (WF.val er (Wb.mk rfl) rfl rfl)))))))))
 refine Wm.no ?_ ?_ (uK ns at_ x n many r a b most start ws o c12 c13 c14 c15)
 ·unfold SE
  refine Wt.Not (Wt.V (We.F ?_))
  refine Was.cons (We.v rfl (Was.cons (We.v rfl (Was.cons (We.v rfl (Was.cons (We.v rfl (Was.cons (We.v rfl (Was.cons (We.Fk ?_)))))))))))
  refine Was.cons (We.v rfl (Was.cons (We.v rfl (Was.cons (We.v rfl (Was.cons (We.v rfl (Was.cons (We.v rfl (Was.nil ⟨_,_,_,rfl,e0,d_ ws0 o0,?_⟩))))))))))
  exact Was.nil (WF.val er0 (Wb.mk rfl) rfl rfl)
 refine Wm.seq (Wc.L8 (Ej ns at_ x n many r a b most start ws o (by omega) c12 c13 c14 c15) ?_ (uK ns at_ x n many r a b most start ws o c12 c13 c14 c15) (oW ws o) (rX ws o) rfl (by decide))
 unfold mE
 refine Wm.seq (Wc.L_ (rs:=ws.map fun w=>(mso w).map Dat.int) ?_ ?_ ?_ (by decide) rfl)
 rotate_left
 ·show some (Dp.l (ws.map msP))=_
  rw [List.map_map]
  rfl
 ·intro l hl
  obtain ⟨w,hw,rfl⟩:=List.mem_map.mp hl
  have h1:=A.KC
  have h2:(mso w).length≤(ws.map mso).flatten.length:=(List.sublist_flatten_of_mem (List.mem_map.mpr ⟨w,hw,rfl⟩)).length_le
  rw [List.length_map]
  unfold SZ
  omega
 refine Wm.clr ?_ rfl rfl
 exact Bt ns at_ x n n2 n10 many r hg hl a b most start a0 a1 b0 b1 hab m0 m1 ws o e1 c14 c15 nx
theorem Ih:∀ (ns:List Int) (i:Int),0≤i→i<ns.length→at' ns i∈ns:=fun ns i h0 h1=>by
 unfold at'
 rw [List.getD_eq_getElem?_getD,List.getElem?_eq_getElem (show i.toNat<ns.length by omega)]
 exact List.getElem_mem _
theorem wH (ns:List Int) (at_:Int) (h0:0≤at_) (h1:at_<100) (x:Int) (n:Nat) (n2:2≤n) (n10:n≤10) (many:Int) (k0:0≤many) (k1:many≤60) (c5 c6 c7 c8 c9 c10 c11 c12 c13 c14 c15:Cell)
  {N:Env→Prop} {R:RV→Env→Prop} {B C:Env→Prop} (nx:∀ c2 c3 c4 c5 c6 c7 c8 c9 c10 c11 c12 c13 c14 c15,N [.sh (.lst (ns.map Dat.int)),.sh (.int at_),c2,c3,c4,c5,c6,c7,c8,c9,c10,c11,c12,c13,c14,c15]) :
  Ws (av (sA 5 (eFn oK (eF jq [(eV 0),(e2 bL (eV 1) (eC (.int 1)))]) [(eV 3),(eV 4)]))
  (av (sA 2 (eF jq [(eV 0),(e2 bL (eV 1) (eC (.int 2)))]))
  (av (sA 6 (eFm aT 2 [(eV 3)]))
  (av (sA 7 (e2 fH (e2 bL (e2 bL (eV 6) (eC (.int 1))) (eFm aT 2 [(e2 kB (eV 3) (eC (.int 1)))])) (eV 3)))
  (av (sA 8 (e2 gIx (cF [(eC (.int 1)),(eC (.int 2)),(eC (.int 3)),(eC (.int 4)),(eC (.int 60)),(e2 bL (eC (.int 1)) (eFm aT 2 [(eC (.int 60))]))]) (eFm aT 2 [(eC (.int 6))])))
  (av (sA 9 (e2 gIx (cF [(eFm oM 2 [(eV 5)]),(e2 gF (eC (.int 10)) (eC (.int 31)))]) (eB tM [(e2 gEq (eFm aT 2 [(eC (.int 12))]) (eC (.int 0)))])))
  (av (sA 10 (eB fJ [(eV 5)]))
  (fY 11 cy [(eV 3),(eV 10),(eV 6),(eV 7),(eV 8),(eV 9)]
  (mIf 11 (b9 (tV (eF d9 [(eV 3),(eF jr [(eV 5),(eV 9)]),(eV 6),(eV 7),(eV 8),(eV 11)]))) (sR (eC (.bl false)))
  (mIf 11 (b9 (tV (eF d9 [(eV 3),(eV 5),(eV 6),(eV 7),(eV 8),(eFk 5 (fun ds=>dF (ds++[.int 0])) [(eV 3),(eV 10),(eV 6),(eV 7),(eV 8)])]))) (sR (eC (.bl false)))
  (kF (j6 11 12 (pT [(pO (e2 gIx (eV 11) (eC (.int 0)))),(jl (iS (e2 gIx (eV 11) (eC (.int 1)))) 1 (bN 16) (pO (eB fJ [(eV 16)]))),(pO (e2 gIx (eV 11) (eC (.int 2))))]))
  (kF (j8 11 1 13 0)
  (rm 1
  (av (sIf (tOr (tV (e2 gNe (eFk 5 dF ([(eV 3),(eV 10),(eV 6),(eV 7),(eV 8)]++[(eV 9)])) (eV 12))) (tV (e2 gNe (eV 10) (eV 5)))) (sR (eC (.bl false))) sNx)
  (sIf (tV (e2 gNe (eV 5) (cF []))) (av (sA 14 (cL 10 (eFm aT 2 [(eB dS [(eV 5)])])))
  (av (sA 15 (eF jr [(a_ 5 1 (bN 16) (tV (e2 gNe (eV 16) (eV 14))) (eV 16)),(eV 9)]))
  (sIf (b9 (tV (eF d9 [(eV 3),(eV 15),(eV 6),(eV 7),(eV 8),(eFk 5 dF [(eV 3),(eV 10),(eV 6),(eV 7),(eV 8),(eV 9)])]))) (sR (eC (.bl false))) sNx))) sNx))))))))))))))) [.sh (.lst (ns.map Dat.int)),.sh (.int at_),.ow (aQ x),.sh (.int n),.sh (.int many),c5,c6,c7,c8,c9,c10,c11,c12,c13,c14,c15] N R B C:=by
 obtain ⟨y,ey⟩:=qk ns (at_+1) (by omega) (by omega)
 obtain ⟨z,ez⟩:=qk ns (at_+2) (by omega) (by omega)
 obtain ⟨r,y',er,hg,hl⟩:=yD y n many (by omega) (by omega) k0 k1
 refine Ws.seq (Ws.A (We.Fn (Was.cons (We.F (Was.cons (We.v rfl (Was.cons (We.e2 (We.v rfl (We.c (Wg2.add ?_ rfl rfl)))))))))) (by decide))
 refine Was.nil (WF.box ey ?_ rfl rfl rfl rfl)
 refine Was.cons (We.v rfl (Was.cons (We.v rfl (Was.nil ⟨_,_,_,_,_,rfl,rfl,er,?_⟩))))
 refine WA.new ?_ (by first | (dsimp only [List.set];first | done | rfl) | rfl)
 refine Ws.seq (Ws.A (We.F (Was.cons (We.v rfl (Was.cons (We.e2 (We.v rfl (We.c (Wg2.add ?_ rfl rfl)))))))) (by decide))
 refine Was.nil (WF.box ez ?_ rfl rfl rfl rfl)
 refine WA.new ?_ (by first | (dsimp only [List.set];first | done | rfl) | rfl)
 refine Ws.seq (Ws.A ?_ (by decide))
 refine We.drw (m:=n) rfl (by omega) (by unfold fG;omega) rfl fun a x3 a0 a1 ρ3 e=>?_
 subst e
 refine WA.val ?_ (by first | (dsimp only [List.set];first | done | rfl) | rfl)
 refine Ws.seq (Ws.A (We.e2 (We.e2 (We.e2 (We.v rfl (We.c (Wg2.add ?_ rfl rfl)))))) (by decide))
 refine We.drw (m:=(n:Int)-1) rfl (by omega) (by unfold fG;omega) rfl fun t x4 t0 t1 ρ3 e=>?_
 subst e
 refine Wg2.add ?_ rfl rfl
 refine We.v rfl (Wg2.mod ?_ rfl rfl (by omega))
 obtain ⟨b0,b1,hab⟩:=yG n a t (by omega) a0 a1 t0 t1
 generalize (a+1+t) % (n:Int)=b at b0 b1 hab
 refine WA.val ?_ (by first | (dsimp only [List.set];first | done | rfl) | rfl)
 refine Ws.seq (Ws.A (We.e2 (We.L ?_)) (by decide))
 refine Was.cons (We.c (Was.cons (We.c (Was.cons (We.c (Was.cons (We.c (Was.cons (We.c ?_)))))))))
 refine Was.cons (We.e2 (We.c ?_))
 refine We.drw (m:=60) rfl (by decide) (by decide) rfl fun u x5 u0 u1 ρ3 e=>?_
 subst e
 refine Wg2.add (Was.nil (WT.mk ?_ rfl rfl (by exact Nat.le_of_ble_eq_true rfl))) rfl rfl
 refine We.drw (m:=6) rfl (by decide) (by decide) rfl fun v x6 v0 v1 ρ3 e=>?_
 subst e
 refine Fq (ns:=[1,2,3,4,60,1+u]) v0 v1 ?_ rfl rfl
 have hm:=Ih [1,2,3,4,60,1+u] v v0 v1
 have hm2:1≤at' [1,2,3,4,60,1+u] v∧at' [1,2,3,4,60,1+u] v≤60:=by
  generalize at' [1,2,3,4,60,1+u] v=q at hm
  simp at hm
  omega
 generalize at' [1,2,3,4,60,1+u] v=most at hm2
 refine WA.val ?_ (by first | (dsimp only [List.set];first | done | rfl) | rfl)
 obtain ⟨mo,x7,emo,mo0⟩:=yE x6 r (fun t ht=>hg.lo t ht) (by omega)
 refine Ws.seq (Ws.A (We.e2 (We.L ?_)) (by decide))
 refine Was.cons (We.Fm (Was.cons (We.w rfl (Was.nil (WFm.flat emo ?_ rfl rfl rfl rfl rfl)))) rfl)
 refine Was.cons (We.e2 (We.c (We.c (Wg2.pow ?_ rfl rfl (by decide) rfl))))
 refine Was.nil (WT.mk ?_ rfl rfl (by exact Nat.le_of_ble_eq_true rfl))
 refine We.B (Was.cons (We.e2 ?_))
 refine We.drw (m:=12) rfl (by decide) (by decide) rfl fun w x8 w0 w1 ρ3 e=>?_
 subst e
 refine We.c (Wg2.eq (Was.nil (WB.int (b:=decide (w=0)) ?_ rfl)) rfl rfl)
 have hs:∃ start:Int,gIx (.lst [.int mo,.int ((10:Int) ^ 31)]) (.int (b2i (decide (w=0))))=some (.val (.int start)):=by
  by_cases q:w=0
  ·exact ⟨(10:Int) ^ 31,by rw [decide_eq_true q];rfl⟩
  ·exact ⟨mo,by rw [decide_eq_false q];rfl⟩
 obtain ⟨start,es⟩:=hs
 refine ⟨_,_,_,rfl,rfl,es,?_⟩
 refine WA.val ?_ (by first | (dsimp only [List.set];first | done | rfl) | rfl)
 refine Ws.seq (Ws.A (We.B (Was.cons (We.w rfl (Was.nil (WB.list (xs:=r.map bM) ?_ rfl))))) (by decide))
 refine WA.new ?_ (by first | (dsimp only [List.set];first | done | rfl) | rfl)
 exact Ek ns at_ _ n n2 n10 many r hg (by omega) a b most start a0 a1 b0 b1 (Ne.symm hab) (by omega) (by omega) _ _ _ _ _ fun x c5 c10 c11 c12 c13 c14 c15=>nx _ _ _ _ _ _ _ _ _ _ _ _ _ _
theorem El (ns:List Int) (at_:Int) (h0:0≤at_) (h1:at_<100) (c2 c3 c4 c5 c6 c7 c8 c9 c10 c11 c12 c13 c14 c15:Cell) {N:Env→Prop} {R:RV→Env→Prop} {B C:Env→Prop}
  (nx:∀ c2 c3 c4 c5 c6 c7 c8 c9 c10 c11 c12 c13 c14 c15,N [.sh (.lst (ns.map Dat.int)),.sh (.int at_),c2,c3,c4,c5,c6,c7,c8,c9,c10,c11,c12,c13,c14,c15]) :
  Ws uy [.sh (.lst (ns.map Dat.int)),.sh (.int at_),c2,c3,c4,c5,c6,c7,c8,c9,c10,c11,c12,c13,c14,c15] N R B C:=by
 obtain ⟨x,ex⟩:=qk ns at_ h0 (by omega)
 obtain ⟨n0,x1,en,n1,n10⟩:=Eb x
 obtain ⟨n,hn⟩:∃ n:Nat,(if n0>2 then n0 else 2)=(n:Int):=⟨(if n0>2 then n0 else 2).toNat,by split<;>omega⟩
 have hn2:2≤n∧n≤10:=by split at hn<;>omega
 unfold uy
 refine Ws.seq (Ws.A (We.F (Was.cons (We.v rfl (Was.cons (We.v rfl (Was.nil (WF.box ex ?_ rfl rfl rfl rfl))))))) (by decide))
 refine WA.new ?_ (by first | (dsimp only [List.set];first | done | rfl) | rfl)
 refine Ws.seq (Ws.A (We.B (Was.cons (We.c (Was.cons (We.Fm (Was.nil (WFm.any en ?_ rfl rfl rfl)) rfl))))) (by decide))
 refine Was.nil (WB.max2 ?_ rfl)
 rw [hn]
 refine WA.val ?_ (by first | (dsimp only [List.set];first | done | rfl) | rfl)
 refine Ws.seq (Ws.A (We.c (WA.val ?_ (by first | (dsimp only [List.set];first | done | rfl) | rfl))) (by decide))
 refine Ws.seq (Ws.If (Wt.V (We.e2 ?_)))
 refine We.drw (m:=5) rfl (by decide) (by decide) rfl fun u x2 u0 u1 ρ3 e=>?_
 subst e
 refine We.c (Wg2.eq (Wb.mk ?_) rfl rfl)
 refine Wif.dec (fun hu=>?_) fun hu=>?_
 ·refine Ws.seq (Ws.A (We.e2 (We.c ?_)) (by decide))
  refine We.drw (m:=3) rfl (by decide) (by decide) rfl fun v x3 v0 v1 ρ3 e=>?_
  subst e
  refine Wg2.add ?_ rfl rfl
  obtain ⟨m,hm⟩:∃ m:Nat,2+v=(m:Int):=⟨(2+v).toNat,by omega⟩
  rw [hm]
  refine WA.val ?_ (by first | (dsimp only [List.set];first | done | rfl) | rfl)
  refine Ws.A (We.c (WA.val ?_ (by first | (dsimp only [List.set];first | done | rfl) | rfl))) (by decide)
  exact wH ns at_ h0 h1 _ m (by omega) (by omega) 60 (by omega) (by omega) _ _ _ _ _ _ _ _ _ _ _ nx
 ·refine Ws.nx ?_
  exact wH ns at_ h0 h1 _ n hn2.1 hn2.2 14 (by omega) (by omega) _ _ _ _ _ _ _ _ _ _ _ nx
theorem math (ns:List Int) (h:ns.length≤63):l_ [.lst (ns.map Dat.int)]=some (.val (.bl true)):=by
 apply Wr.eq
 unfold l_
 (refine Dm.Wr.fn ?_ rfl rfl;dsimp only [List.map,List.replicate,List.cons_append,List.nil_append])
 obtain ⟨top,et,t0,t1⟩:∃ top:Int,top=(if (if (12:Int)<((ns.length:Nat):Int) then 12 else ((ns.length:Nat):Int))>1 then (if (12:Int)<((ns.length:Nat):Int) then 12 else ((ns.length:Nat):Int)) else 1)∧1≤top∧top≤12:=⟨_,rfl,by split<;>omega,by split<;>split<;>omega⟩
 refine Ws.seq (Ws.For (Wi.Rs (i:=0) (j:=top) (k:=3) rfl ?_ rfl ⟨by decide,by unfold BIG;omega,by unfold BIG;omega,by decide,by decide⟩ ?_))
 ·rw [et]
  exact We.get (We.B (Was.cons (We.c (Was.cons (We.B (Was.cons (We.B (Was.cons (We.v rfl (Was.nil (WB.qc (enc:=Dat.int) (xs:=ns) (Was.cons (We.c (Was.nil (WB.min2 (Was.nil (WB.max2 ⟨rfl,rfl⟩ rfl)) rfl)))) rfl)))))))))))
 unfold gZ
 refine Ws.inv (fun i:Nat=>Dat.int (0+(i:Nat)*3)) _ _ (List.range (cj 0 top 3)) _ _ _ _ _ (fun p q ρ=>∃ c1 c2 c3 c4 c5 c6 c7 c8 c9 c10 c11 c12 c13 c14 c15:Cell,ρ=[.sh (.lst (ns.map Dat.int)),c1,c2,c3,c4,c5,c6,c7,c8,c9,c10,c11,c12,c13,c14,c15]) ⟨_,_,_,_,_,_,_,_,_,_,_,_,_,_,_,rfl⟩ ?_ ?_
 ·rintro p i q ρ e ⟨c1,c2,c3,c4,c5,c6,c7,c8,c9,c10,c11,c12,c13,c14,c15,rfl⟩
  have hi:i<cj 0 top 3:=List.mem_range.mp (by rw [e];simp)
  unfold cj at hi
  rw [if_pos (by omega)] at hi
  refine Dm.cD rfl (by first | (dsimp only [List.set];first | done | rfl) | rfl) ?_
  exact El ns _ (by omega) (by omega) _ _ _ _ _ _ _ _ _ _ _ _ _ _ fun c2 c3 c4 c5 c6 c7 c8 c9 c10 c11 c12 c13 c14 c15=>⟨_,_,_,_,_,_,_,_,_,_,_,_,_,_,_,rfl⟩
 ·rintro ρ ⟨c1,c2,c3,c4,c5,c6,c7,c8,c9,c10,c11,c12,c13,c14,c15,rfl⟩
  exact Ws.R (We.c rfl)
end P
set_option maxHeartbeats 4000000
namespace Q
open PySem L2 Br Dm P
noncomputable def top (i:Nat):Stmt:=PySem.Challenge.pw_sinceply_k25_hangs_told.main.body.getD i (.Pass ⟨0,0,0,0⟩)
structure Txt (mg:Str→Option Value) (K:PySem.W.Frag) (base:Heap) (uL uM uN uO uP rZ r8 uQ uR uS mG mH mJ gS mK mL mO mP mQ mR mS mT mU mV mW mX mY mZ:Addr) (m5 m6 m7 m8 m9 ko kq ng ni nj ic ie ig gj ir iu iw iy iz iA iB iC iD iE iF iG iH jR:FuncData) (iI:Tok):Prop where
 Fv:mg "all" = none
 Bu:mg "bool" = none
 Bv:mg "dict" = none
 wI:mg "int" = none
 bx:mg "isinstance" = none
 ee:mg "len" = none
 nk:mg "list" = none
 wJ:mg "max" = none
 Bw:mg "min" = none
 gB:mg "range" = none
 Bx:mg "set" = none
 nu:mg "sorted" = none
 KJ:mg "sum" = none
 kQ:mg "tuple" = none
 KL:mg "steps_of" = some (.ref uL)
 KN:mg "free_steps" = some (.ref uM)
 KP:mg "led_steps" = some (.ref uN)
 Em:mg "shortest_ways" = some (.ref uO)
 KQ:mg "lead_along" = some (.ref uP)
 KR:mg "parted" = some (.ref rZ)
 KS:mg "ways_apart" = some (.ref r8)
 Mf:mg "is_whole" = some (.ref uQ)
 Mg:mg "is_within" = some (.ref uR)
 KU:mg "is_place" = some (.ref uS)
 KW:mg "is_pair" = some (.ref mG)
 Fw:mg "look_at_pair" = some (.ref mH)
 Fx:mg "since" = some (.ref mJ)
 wK:mg "hang_of" = some (.ref gS)
 By:mg "_law_pool" = some (.ref mK)
 b7:mg "_law_take" = some (.ref mL)
 KY:mg "_law_many" = some (.ref mO)
 KZ:mg "_law_record" = some (.ref mP)
 K0:mg "_law_moment" = some (.ref mQ)
 Fy:mg "_law_since" = some (.ref mR)
 Fz:mg "_law_whole" = some (.ref mS)
 FA:mg "_law_wholes" = some (.ref mT)
 K1:mg "_law_rim" = some (.ref mU)
 K2:mg "_law_leads" = some (.ref mV)
 K3:mg "_law_lead_all" = some (.ref mW)
 K4:mg "_law_is_side" = some (.ref mX)
 BA:mg "_law_right" = some (.ref mY)
 Mi:mg "law" = some (.ref mZ)
 Ii:Fun K "steps_of" "steps_of" (top 2) uL m5
 Ij:Fun K "free_steps" "free_steps" (top 3) uM m6
 Ik:Fun K "led_steps" "led_steps" (top 4) uN m7
 BB:Fun K "shortest_ways" "shortest_ways" (top 5) uO m8
 Il:Fun K "lead_along" "lead_along" (top 6) uP m9
 En:Binds K m7 ["steps","heads"] []
 yI:Binds K m8 ["steps","a"] []
 Eo:Fun K "parted" "parted" (top 7) rZ ko
 Ep:Binds K m5 ["n","ties"] []
 Er:Binds K m6 ["steps","heads"] []
 Es:Binds K m9 ["heads","way"] []
 Et:Binds K ko ["steps","heads","a","b","count"] []
 Eu:Fun K "ways_apart" "ways_apart" (top 1) r8 kq
 K5:Fun K "is_whole" "is_whole" (top 12) uQ ng
 Im:Binds K ng ["thing"] []
 K6:Fun K "is_within" "is_within" (top 13) uR ni
 Io:Binds K ni ["thing","low","high"] []
 Ip:Fun K "is_place" "is_place" (top 14) uS nj
 Ew:Binds K nj ["n","thing"] []
 FD:Fun K "is_pair" "is_pair" (top 15) mG ic
 BC:Binds K ic ["n","a","b"] []
 BE:Fun K "look_at_pair" "look_at_pair" (top 16) mH ie
 BF:Fun K "since" "since" (top 18) mJ ig
 Ex:Binds K kq ["n","ties","a","b","most"] []
 wL:Binds K ie ["n","a","b"] []
 wM:Binds K ig ["record","t"] []
 kr:Dd K "hang_of" "hang_of" (top 20) gS gj
 wN:Fun K "_law_pool" "_law_pool" (top 22) mK ir
 bZ:Fun K "_law_take" "_law_take" (top 23) mL iu
 bV:Binds K iu ["pool","many"] []
 FF:Fun K "_law_many" "_law_many" (top 24) mO iw
 FG:Fun K "_law_record" "_law_record" (top 25) mP iy
 FH:Fun K "_law_moment" "_law_moment" (top 26) mQ iz
 BG:Fun K "_law_since" "_law_since" (top 27) mR iA
 BH:Fun K "_law_whole" "_law_whole" (top 28) mS iB
 wO:Binds K iB ["thing"] []
 BI:Fun K "_law_wholes" "_law_wholes" (top 29) mT iC
 FJ:Fun K "_law_rim" "_law_rim" (top 30) mU iD
 wQ:Binds K iC ["thing"] []
 FL:Fun K "_law_leads" "_law_leads" (top 31) mV iE
 BJ:Binds K iE ["ties","a","b","way"] []
 FO:Fun K "_law_lead_all" "_law_lead_all" (top 32) mW iF
 FQ:Fun K "_law_is_side" "_law_is_side" (top 33) mX iG
 BK:Binds K iD ["ties","side"] []
 BL:Binds K iF ["ties","a","b","ways"] []
 BN:Binds K iG ["n","side","a","b"] []
 wR:Fun K "_law_right" "_law_right" (top 34) mY iH
 wU:Binds K gj ["n","record","a","b","most","t"] []
 uT:Binds K gj ["n","record","a","b","most","t"] [.int 0 iI]
 iJ:jy K gj ["n","record","a","b","most","t"] ["t"] (kw1 5) (kw1 5)
 r9:Binds K ir ["script","k"] []
 BO:Binds K iw ["pool"] []
 BP:Binds K iy ["pool","n","most"] []
 BQ:Binds K iz ["pool","record"] []
 wV:Binds K iA ["record","start"] []
 r_:Binds K iH ["n","ties","a","b","most","found"] []
 K7:Fun K "law" "law" (top 35) mZ jR
section
variable {P':Program} {w:World} {K:PySem.W.Frag} {mg:Str→Option Value} {base:Heap} {uL uM uN uO uP rZ r8 uQ uR uS mG mH mJ gS mK mL mO mP mQ mR mS mT mU mV mW mX mY mZ:Addr}
variable {m5 m6 m7 m8 m9 ko kq ng ni nj ic ie ig gj ir iu iw iy iz iA iB iC iD iE iF iG iH jR:FuncData} {iI:Tok}
theorem sd:aE ["n","ties","steps","moment","a","b"] ["n","ties"] (ai (top 2)):=fsc rfl rfl rfl rfl (by decide +kernel)
theorem Iq:(["n","ties","steps","moment","a","b","place"]:List Str).Nodup:=by decide +kernel
theorem K8:aE ["steps","heads"] ["steps","heads"] (ai (top 3)):=fsc rfl rfl rfl rfl (by decide +kernel)
theorem Ir:(["steps","heads","row"]:List Str).Nodup:=by decide +kernel
theorem Iu:(["steps","heads","row","step"]:List Str).Nodup:=by decide +kernel
theorem K9:aE ["steps","heads"] ["steps","heads"] (ai (top 4)):=fsc rfl rfl rfl rfl (by decide +kernel)
theorem Iv:(["steps","heads","row"]:List Str).Nodup:=by decide +kernel
theorem Iw:(["steps","heads","row","step"]:List Str).Nodup:=by decide +kernel
theorem se:aE ["steps","a","ways","pending","place","step"] ["steps","a"] (ai (top 5)):=fsc rfl rfl rfl rfl (by decide +kernel)
theorem BR:aE ["heads","way","moment","place"] ["heads","way"] (ai (top 6)):=fsc rfl rfl rfl rfl (by decide +kernel)
theorem fh:aE ["steps","heads","a","b","count","left","ways","time","way","moment"] ["steps","heads","a","b","count"] (ai (top 7)):=fsc rfl rfl rfl rfl (by decide +kernel)
theorem Iz:(["steps","heads","a","b","count","left","ways","time","way","moment","step"]:List Str).Nodup:=by decide +kernel
theorem IA:(["steps","heads","a","b","count","left","ways","time","way","moment","step"]:List Str).Nodup:=by decide +kernel
theorem cS:aE ["n","ties","a","b","most","steps","heads","side","count","found"] ["n","ties","a","b","most"] (ai (top 1)):=fsc rfl rfl rfl rfl (by decide +kernel)
theorem K_:aE ["thing"] ["thing"] (ai (top 12)):=fsc rfl rfl rfl rfl (by decide +kernel)
theorem La:aE ["thing","low","high"] ["thing","low","high"] (ai (top 13)):=fsc rfl rfl rfl rfl (by decide +kernel)
theorem Lb:aE ["n","thing"] ["n","thing"] (ai (top 14)):=fsc rfl rfl rfl rfl (by decide +kernel)
theorem IB:aE ["n","a","b"] ["n","a","b"] (ai (top 15)):=fsc rfl rfl rfl rfl (by decide +kernel)
theorem IC:aE ["n","a","b"] ["n","a","b"] (ai (top 16)):=fsc rfl rfl rfl rfl (by decide +kernel)
theorem ID:aE ["record","t"] ["record","t"] (ai (top 18)):=fsc rfl rfl rfl rfl (by decide +kernel)
theorem Ey:(["record","t","tie"]:List Str).Nodup:=by decide +kernel
theorem qt:aE ["n","record","a","b","most","t","found"] ["n","record","a","b","most","t"] (ai (top 20)):=fsc rfl rfl rfl rfl (by decide +kernel)
theorem eW:aE ["script","k","cell","number","found","turn"] ["script","k"] (ai (top 22)):=fsc rfl rfl rfl rfl (by decide +kernel)
theorem BS:aE ["pool","many","digit"] ["pool","many"] (ai (top 23)):=fsc rfl rfl rfl rfl (by decide +kernel)
theorem IE:aE ["pool"] ["pool"] (ai (top 24)):=fsc rfl rfl rfl rfl (by decide +kernel)
theorem b8:aE ["pool","n","most","many","kind","step","times","way","moment","found","k","one","other"] ["pool","n","most"] (ai (top 25)):=fsc rfl rfl rfl rfl (by decide +kernel)
theorem BU:aE ["pool","record","at"] ["pool","record"] (ai (top 26)):=fsc rfl rfl rfl rfl (by decide +kernel)
theorem IF:aE ["record","start"] ["record","start"] (ai (top 27)):=fsc rfl rfl rfl rfl (by decide +kernel)
theorem Ez:(["record","start","tie"]:List Str).Nodup:=by decide +kernel
theorem IG:aE ["thing"] ["thing"] (ai (top 28)):=fsc rfl rfl rfl rfl (by decide +kernel)
theorem II:aE ["thing"] ["thing"] (ai (top 29)):=fsc rfl rfl rfl rfl (by decide +kernel)
theorem EA:(["thing","part"]:List Str).Nodup:=by decide +kernel
theorem IJ:aE ["ties","side"] ["ties","side"] (ai (top 30)):=fsc rfl rfl rfl rfl (by decide +kernel)
theorem EB:(["ties","side","tie"]:List Str).Nodup:=by decide +kernel
theorem jS:aE ["ties","a","b","way","ends","tie","here","moment"] ["ties","a","b","way"] (ai (top 31)):=fsc rfl rfl rfl rfl (by decide +kernel)
theorem uU:aE ["ties","a","b","ways","met","way"] ["ties","a","b","ways"] (ai (top 32)):=fsc rfl rfl rfl rfl (by decide +kernel)
theorem IK:aE ["n","side","a","b"] ["n","side","a","b"] (ai (top 33)):=fsc rfl rfl rfl rfl (by decide +kernel)
theorem EC:(["n","side","a","b","place"]:List Str).Nodup:=by decide +kernel
theorem qu:aE ["n","ties","a","b","most","found","count","ways","side"] ["n","ties","a","b","most","found"] (ai (top 34)):=fsc rfl rfl rfl rfl (by decide +kernel)
theorem bE:aE ["script","at","pool","n","many","record","a","b","most","start","handed","found","kept","way","gone","fewer"] ["script"] (ai (top 35)):=fsc rfl rfl rfl rfl (by decide +kernel)
theorem ED:(["script","at","pool","n","many","record","a","b","most","start","handed","found","kept","%13","gone","fewer","way"]:List Str).Nodup:=by decide +kernel
theorem EE:(["script","at","pool","n","many","record","a","b","most","start","handed","found","kept","way","gone","fewer","tie"]:List Str).Nodup:=by decide +kernel
variable (T:Txt mg K base uL uM uN uO uP rZ r8 uQ uR uS mG mH mJ gS mK mL mO mP mQ mR mS mT mU mV mW mX mY mZ m5 m6 m7 m8 m9 ko kq ng ni nj ic ie ig gj ir iu iw iy iz iA iB iC iD iE iF iG iH jR iI)
include T
theorem FU :
  aR P' w K mg base CX0 1 uL m5 ["n","ties"] (spD ym):=by
 refine T.Ii.ok sd (fun vs H Q E h=>aV h) (fun cdv A outer s H vs Q E hr h=>?_)
 exact ⟨_,(Hv 2 ["n","ties","steps","moment","a","b"] ["place"] sd.nd (c_n 6 Iq rfl rfl) (zW rfl T.gB (aa (d_v 0) ah)) (E2 PassesOwn.never rfl (i_S (d_v 1)) (g_t rfl (dM 3 sd.nd (dM 4 sd.nd (dM 5 sd.nd tW))))
  (E1 (LM (lC hr (d_v 4) (d_v 5)) (Hu (E3 (d_v 4) (n5 (aa (d_v 3) (aa (d_v 5) ah))))
  (E1 (E3 (d_v 5) (n5 (aa (d_v 3) (aa (d_v 4) ah)))))) J8)))
  (aA (s_r (d_v 2)))),dh (n:=2) (m:=4) rfl h⟩
theorem FW :
  aR P' w K mg base CX0 1 uM m6 ["steps","heads"] (spD A8):=by
 refine T.Ij.ok K8 (fun vs H Q E h=>aV h) (fun cdv A outer s H vs Q E hr h=>?_)
 exact ⟨_,(aA (s_r (gO 0 ["steps","heads"] ["row"] (c_n 2 Ir rfl rfl) (d_v 0) (fun _ _ _ _ _=>jF) (fun _ _ _ _ _=>(gO 2 ["steps","heads","row"] ["step"] (c_n 3 Iu rfl rfl) (d_v 2) (fun _ _ _ _ _=>jG (lC hr (z_ hr (d_v 1) (bA (d_v 3) d_i)) (bA (d_v 3) d_i))) (fun _ _ _ _ _=>(d_v 3))))))),dh (n:=2) (m:=0) rfl h⟩
theorem FY :
  aR P' w K mg base CX0 1 uN m7 ["steps","heads"] (spD yo):=by
 refine T.Ik.ok K9 (fun vs H Q E h=>aV h) (fun cdv A outer s H vs Q E hr h=>?_)
 exact ⟨_,(aA (s_r (gO 0 ["steps","heads"] ["row"] (c_n 2 Iv rfl rfl) (d_v 0) (fun _ _ _ _ _=>jF) (fun _ _ _ _ _=>(gO 2 ["steps","heads","row"] ["step"] (c_n 3 Iw rfl rfl) (d_v 2) (fun _ _ _ _ _=>jG (xK hr (z_ hr (d_v 1) (bA (d_v 3) d_i)) (bA (d_v 3) d_i))) (fun _ _ _ _ _=>(d_v 3))))))),dh (n:=2) (m:=0) rfl h⟩
theorem wW :
  aR P' w K mg base CX0 1 uO m8 ["steps","a"] (spD qd):=by
 refine T.BB.ok se (fun vs H Q E h=>aV h) (fun cdv A outer s H vs Q E hr h=>?_)
 exact ⟨_,(ak (s_a 2 se.nd (LJ (d_v 1) (cO ah)))
  (ak (s_a 3 se.nd (cO (aa (d_v 1) ah)))
  (ak (G1 100 PassesOwn.never (LL (d_v 3))
  (ak (s_a 4 se.nd (vH 3 d_i))
  (aA (gM PassesOwn.never rfl (i_S (bA (d_v 0) (d_v 4))) (g_n 5 se.nd)
  (aA (dG (z8 hr (bA (d_v 5) d_i) (d_v 2)) (ak (tY 2 hr (bA (d_v 5) d_i) (bH (pN hr (d_v 2) (d_v 4)) (cO (aa (d_v 5) ah))))
  (aA (zX 3 (bA (d_v 5) d_i)))) b5))))))
  (aA (s_r (d_v 2)))))),dh (n:=2) (m:=4) rfl h⟩
theorem FZ :
  aR P' w K mg base CX0 1 uP m9 ["heads","way"] (spM A9):=by
 refine T.Il.ok BR (fun vs H Q E h=>gm h) (fun cdv A outer s H vs Q E hr h=>?_)
 exact ⟨_,(aA (gM PassesOwn.never rfl (i_S (d_v 1)) (g_t rfl (dM 2 BR.nd (dM 3 BR.nd tW)))
  (aA (dG (z7 hr (d_v 2) (d_v 0)) (aA (s_e (ud 0 (d_v 2)))) (aA (tY 0 hr (d_v 2) (d_v 3))))))),qV (n:=2) (m:=2) rfl h⟩
theorem Lc :
  aR P' w K mg base CX0 2 rZ ko ["steps","heads","a","b","count"] (spD ux):=by
 refine T.Eo.ok fh (fun vs H Q E h=>aV h) (fun cdv A outer s H vs Q E hr h=>?_)
 exact ⟨_,(ak (s_a 5 fh.nd (Ai rfl T.Bv (aa (d_v 1) ah)))
  (ak (s_a 6 fh.nd (cO ah))
  (ak (gM PassesOwn.never rfl (zW rfl T.gB (aa (d_v 4) ah)) (g_n 7 fh.nd)
  (ak (LG 8 ["steps","heads","a","b","count","left","ways","time","way","moment"] ["step"] fh.nd (c_n 10 Iz rfl rfl) (i_S (pN hr (aJ (wW T) (Br.hm hr) rfl T.Em T.BB.kp T.yI (aa (fU (FY T) (Br.hm hr) rfl T.KP T.Ik.kp T.En (aa (d_v 0) (aa (d_v 5) ah))) (aa (d_v 2) ah))) (d_v 3))) (fun _ _ _ _ _=>jF) (fun _ _ _ _ _=>(bA (d_v 10) d_i)))
  (ak (gM PassesOwn.never rfl (i_S (d_v 8)) (g_n 9 fh.nd)
  (aA (s_e (ud 5 (d_v 9)))))
  (aA (zX 6 (d_v 8))))))
  (aA (s_r (d_v 6)))))),dh (n:=5) (m:=5) rfl h⟩
theorem uV :
  aR P' w K mg base CX0 2 rZ ko ["steps","heads","a","b","count"] (spP cu):=by
 refine T.Eo.ok fh (fun vs H Q E h=>pU h) (fun cdv A outer s H vs Q E hr h=>?_)
 exact ⟨_,(g6 (s_a 5 fh.nd (Ai rfl T.Bv (aa (d_v 1) ah)))
  (HQ 6 fh.nd (E2 PassesOwn.never rfl (zW rfl T.gB (aa (d_v 4) ah)) (g_n 7 fh.nd)
  (Kq 8 (L6 8 ["steps","heads","a","b","count","left","ways","time","way","moment"] ["step"] fh.nd (c_n 10 IA rfl rfl) (i_S (pN hr (aJ (wW T) (Br.hm hr) rfl T.Em T.BB.kp T.yI (aa (fU (FY T) (Br.hm hr) rfl T.KP T.Ik.kp T.En (aa (d_v 0) (aa (d_v 5) ah))) (aa (d_v 2) ah))) (d_v 3))) (fun _ _ _ _ _=>jF) (fun _ _ _ _ _=>(bA (d_v 10) d_i))) PassesOwn.never rfl (g_n 9 fh.nd) (ud 5 (d_v 9)))))),Ax (n:=5) (m:=5) rfl h⟩
theorem Ld :
  aR P' w K mg base CX0 3 r8 kq ["n","ties","a","b","most"] (spD DX):=by
 refine T.Eu.ok cS (fun vs H Q E h=>aV h) (fun cdv A outer s H vs Q E hr h=>?_)
 exact ⟨_,(ak (s_a 5 cS.nd (aJ (FU T) (Br.hm hr) rfl T.KL T.Ii.kp T.Ep (aa (d_v 0) (aa (d_v 1) ah))))
  (ak (s_a 6 cS.nd Hg)
  (ak (s_a 7 cS.nd d_n)
  (ak (s_a 8 cS.nd d_i)
  (ak (G1 100 PassesOwn.never (t_w (w_and (GZ (d_v 8) (d_v 4)) (zV (Ab (d_v 7) d_n))))
  (ak (s_a 9 cS.nd (aJ (wW T) (Br.hm hr) rfl T.Em T.BB.kp T.yI (aa (fU (FW T) (Br.hm hr) rfl T.KN T.Ij.kp T.Er (aa (d_v 5) (aa (d_v 6) ah))) (aa (d_v 2) ah))))
  (aA (dG (z7 hr (d_v 3) (d_v 9)) (ak (s_e (aL (FZ T) (Br.hm hr) rfl T.KQ T.Il.kp T.Es (aa (d_v 6) (aa (pN hr (d_v 9) (d_v 3)) ah))))
  (aA (s_a 8 cS.nd (bH (d_v 8) d_i)))) (aA (s_a 7 cS.nd (vA rfl T.kQ (aa (vL rfl rfl T.nu (aa (d_v 9) ah)) ah))))))))
  (aA (s_r (n5 (aa (fU (Lc T) (Br.hm hr) rfl T.KR T.Eo.kp T.Et (@aa _ _ _ _ _ (d_v 5) (@aa _ _ _ _ _ (d_v 6) (@aa _ _ _ _ _ (d_v 2) (@aa _ _ _ _ _ (d_v 3) (@aa _ _ _ _ _ (d_v 8) ah rfl) rfl) rfl) rfl) rfl)) (aa (d_v 7) ah)))))))))),dh (n:=5) (m:=5) rfl h⟩
theorem nv :
  aR P' w K mg base CX0 3 r8 kq ["n","ties","a","b","most"] (spP bU):=by
 refine T.Eu.ok cS (fun vs H Q E h=>pU h) (fun cdv A outer s H vs Q E hr h=>?_)
 exact ⟨_,(g6 (s_a 5 cS.nd (aJ (FU T) (Br.hm hr) rfl T.KL T.Ii.kp T.Ep (aa (d_v 0) (aa (d_v 1) ah))))
  (g6 (s_a 6 cS.nd Hg)
  (g6 (s_a 7 cS.nd d_n)
  (g6 (s_a 8 cS.nd d_i)
  (g6 (G1 100 PassesOwn.never (t_w (w_and (GZ (d_v 8) (d_v 4)) (zV (Ab (d_v 7) d_n))))
  (ak (s_a 9 cS.nd (aJ (wW T) (Br.hm hr) rfl T.Em T.BB.kp T.yI (aa (fU (FW T) (Br.hm hr) rfl T.KN T.Ij.kp T.Er (aa (d_v 5) (aa (d_v 6) ah))) (aa (d_v 2) ah))))
  (aA (dG (z7 hr (d_v 3) (d_v 9)) (ak (s_e (aL (FZ T) (Br.hm hr) rfl T.KQ T.Il.kp T.Es (aa (d_v 6) (aa (pN hr (d_v 9) (d_v 3)) ah))))
  (aA (s_a 8 cS.nd (bH (d_v 8) d_i)))) (aA (s_a 7 cS.nd (vA rfl T.kQ (aa (vL rfl rfl T.nu (aa (d_v 9) ah)) ah))))))))
  (q_r (E6 (Av (HK (uV T) (Br.hm hr) rfl T.KR T.Eo.kp T.Et (@aa _ _ _ _ _ (d_v 5) (@aa _ _ _ _ _ (d_v 6) (@aa _ _ _ _ _ (d_v 2) (@aa _ _ _ _ _ (d_v 3) (@aa _ _ _ _ _ (d_v 8) ah rfl) rfl) rfl) rfl) rfl)) (Av (p_o (d_v 7)) Kc))))))))),Ax (n:=5) (m:=5) rfl h⟩
theorem Le :
  aR P' w K mg base CX0 1 uQ ng ["thing"] (spD DY):=by
 refine T.K5.ok K_ (fun vs H Q E h=>aV h) (fun cdv A outer s H vs Q E hr h=>?_)
 exact ⟨_,(aA (s_r (i9 (jZ vC (by rfl) rfl T.wI rfl T.bx (d_v 0)) (n6 (EV (jZ qQ (by rfl) rfl T.Bu rfl T.bx (d_v 0))))))),dh (n:=1) (m:=0) rfl h⟩
theorem Lf :
  aR P' w K mg base CX0 2 uR ni ["thing","low","high"] (spD DZ):=by
 refine T.K6.ok La (fun vs H Q E h=>aV h) (fun cdv A outer s H vs Q E hr h=>?_)
 exact ⟨_,(aA (s_r (i9 (aJ (Le T) (Br.hm hr) rfl T.Mf T.K5.kp T.Im (aa (d_v 0) ah)) (n6 (vD y_ zQ y_ zQ (d_v 1) (d_v 0) (d_v 2)))))),dh (n:=3) (m:=0) rfl h⟩
theorem F0 :
  aR P' w K mg base CX0 3 uS nj ["n","thing"] (spD A_):=by
 refine T.Ip.ok Lb (fun vs H Q E h=>aV h) (fun cdv A outer s H vs Q E hr h=>?_)
 exact ⟨_,(aA (s_r (aJ (Lf T) (Br.hm hr) rfl T.Mg T.K6.kp T.Io (aa (d_v 1) (aa d_i (aa (vz (d_v 0) d_i) ah)))))),dh (n:=2) (m:=0) rfl h⟩
theorem IL :
  aR P' w K mg base CX0 4 mG ic ["n","a","b"] (spD wc):=by
 refine T.FD.ok IB (fun vs H Q E h=>aV h) (fun cdv A outer s H vs Q E hr h=>?_)
 exact ⟨_,(aA (s_r (i9 (aJ (F0 T) (Br.hm hr) rfl T.KU T.Ip.kp T.Ew (aa (d_v 0) (aa (d_v 1) ah))) (i9 (aJ (F0 T) (Br.hm hr) rfl T.KU T.Ip.kp T.Ew (aa (d_v 0) (aa (d_v 2) ah))) (n6 (LC hr (d_v 1) (d_v 2))))))),dh (n:=3) (m:=0) rfl h⟩
theorem BV :
  aR P' w K mg base CX0 5 mH ie ["n","a","b"] (spD oH):=by
 refine T.BE.ok IC (fun vs H Q E h=>aV h) (fun cdv A outer s H vs Q E hr h=>?_)
 exact ⟨_,(aA (dG (dY (dZ (aJ (IL T) (Br.hm hr) rfl T.KW T.FD.kp T.BC (aa (d_v 0) (aa (d_v 1) (aa (d_v 2) ah)))))) (aA C3) b5)),dh (n:=3) (m:=0) rfl h⟩
theorem BW :
  aR P' w K mg base CX0 1 mJ ig ["record","t"] (spD oJ):=by
 refine T.BF.ok ID (fun vs H Q E h=>aV h) (fun cdv A outer s H vs Q E hr h=>?_)
 exact ⟨_,(aA (s_r (gO 0 ["record","t"] ["tie"] (c_n 2 Ey rfl rfl) (d_v 0) (fun _ _ _ _ _=>jG (G0 (bA (d_v 2) d_i) (d_v 1))) (fun _ _ _ _ _=>(d_v 2))))),dh (n:=2) (m:=0) rfl h⟩
theorem uW :
  aR P' w K mg base CX0 6 gS gj ["n","record","a","b","most","t"] (spD dF):=by
 refine T.kr.ok qt (fun vs H Q E h=>aV h) (fun cdv A outer s H vs Q E hr h=>?_)
 exact ⟨_,(ak (s_e (aJ (BV T) (Br.hm hr) rfl T.Fw T.BE.kp T.wL (aa (d_v 0) (aa (d_v 2) (aa (d_v 3) ah)))))
  (ak (s_a 6 qt.nd (aJ (Ld T) (Br.hm hr) rfl T.KS T.Eu.kp T.Ex (@aa _ _ _ _ _ (d_v 0) (@aa _ _ _ _ _ (aJ (BW T) (Br.hm hr) rfl T.Fx T.BF.kp T.wM (aa (d_v 1) (aa (d_v 5) ah))) (@aa _ _ _ _ _ (d_v 2) (@aa _ _ _ _ _ (d_v 3) (@aa _ _ _ _ _ (d_v 4) ah rfl) rfl) rfl) rfl) rfl)))
  (aA (s_r (n5 (aa (fQ rfl T.ee (aa (bA (d_v 6) d_i) ah)) (aa (bA (d_v 6) d_i) (aa (bA (d_v 6) d_i) ah)))))))),dh (n:=6) (m:=1) rfl h⟩
theorem sj :
  aR P' w K mg base CX0 6 gS gj ["n","record","a","b","most","t"] (spP cy):=by
 refine T.kr.ok qt (fun vs H Q E h=>pU h) (fun cdv A outer s H vs Q E hr h=>?_)
 exact ⟨_,(g6 (s_e (aJ (BV T) (Br.hm hr) rfl T.Fw T.BE.kp T.wL (aa (d_v 0) (aa (d_v 2) (aa (d_v 3) ah)))))
  (HP 6 qt.nd (nv T) (Br.hm hr) rfl T.KS T.Eu.kp T.Ex (@aa _ _ _ _ _ (d_v 0) (@aa _ _ _ _ _ (aJ (BW T) (Br.hm hr) rfl T.Fx T.BF.kp T.wM (aa (d_v 1) (aa (d_v 5) ah))) (@aa _ _ _ _ _ (d_v 2) (@aa _ _ _ _ _ (d_v 3) (@aa _ _ _ _ _ (d_v 4) ah rfl) rfl) rfl) rfl) rfl) (L5 (fQ rfl T.ee (aa (bA (d_v 6) d_i) ah)) (Kp 0 (Kp 1 L3))))),Ax (n:=6) (m:=1) rfl h⟩
theorem uX :
  aR P' w K mg base CX0 1 mK ir ["script","k"] (spD jq):=by
 refine T.wN.ok eW (fun vs H Q E h=>aV h) (fun cdv A outer s H vs Q E hr h=>?_)
 exact ⟨_,(ak (s_a 2 eW.nd d_i)
  (ak (dG (GZ (d_v 1) (fQ rfl T.ee (aa (d_v 0) ah))) (aA (s_a 2 eW.nd (bA (d_v 0) (d_v 1)))) b5)
  (ak (dG (G0 (d_v 2) (i8 d_i d_i)) (aA (s_r (cO (aa (fP (d_v 2) (pQ (pQ (pQ (pQ (i8 d_i d_i) (i8 d_i d_i)) (i8 d_i d_i)) (i8 d_i d_i)) (i8 d_i d_i))) ah)))) b5)
  (ak (s_a 3 eW.nd (fP (bH (bH (bH (d_v 2) (gK (gK d_i (d_v 1)) (d_v 1))) (gK d_i (d_v 1))) d_i) d_i))
  (ak (s_a 4 eW.nd d_i)
  (ak (gM PassesOwn.never rfl (zW rfl T.gB (aa d_i ah)) (g_n 5 eW.nd)
  (ak (s_a 3 eW.nd (fP (bH (bH (gK (d_v 3) d_i) (gK d_i (d_v 5))) d_i) d_i))
  (ak (s_a 3 eW.nd (fP (gK (d_v 3) (d_v 3)) d_i))
  (aA (s_a 4 eW.nd (bH (gK (d_v 4) d_i) (fP (bH (gK (d_v 3) d_i) (d_v 1)) d_i)))))))
  (aA (s_r (cO (aa (d_v 4) ah)))))))))),dh (n:=2) (m:=4) rfl h⟩
theorem bF :
  aR P' w K mg base CX0 1 mL iu ["pool","many"] (spM aT):=by
 refine T.bZ.ok BS (fun vs H Q E h=>gm h) (fun cdv A outer s H vs Q E hr h=>?_)
 exact ⟨_,(ak (s_a 2 BS.nd (fP (bA (d_v 0) d_i) (d_v 1)))
  (ak (JV 0 d_i (JR (bA (d_v 0) d_i) (d_v 1)))
  (aA (s_r (d_v 2))))),qV (n:=2) (m:=1) rfl h⟩
theorem IM :
  aR P' w K mg base CX0 2 mO iw ["pool"] (spM rL):=by
 refine T.FF.ok IE (fun vs H Q E h=>gm h) (fun cdv A outer s H vs Q E hr h=>?_)
 exact ⟨_,(aA (s_r (bA (cO (@aa _ _ _ _ _ d_i (@aa _ _ _ _ _ d_i (@aa _ _ _ _ _ d_i (@aa _ _ _ _ _ d_i (@aa _ _ _ _ _ d_i (@aa _ _ _ _ _ d_i (@aa _ _ _ _ _ d_i (@aa _ _ _ _ _ d_i ah rfl) rfl) rfl) rfl) rfl) rfl) rfl) rfl)) (aL (bF T) (Br.hm hr) rfl T.b7 T.bZ.kp T.bV (aa (d_v 0) (aa d_i ah)))))),qV (n:=1) (m:=0) rfl h⟩
theorem IP :
  aR P' w K mg base CX0 2 mP iy ["pool","n","most"] (spM oK):=by
 refine T.FG.ok b8 (fun vs H Q E h=>gm h) (fun cdv A outer s H vs Q E hr h=>?_)
 exact ⟨_,(ak (s_a 3 b8.nd (aL (bF T) (Br.hm hr) rfl T.b7 T.bZ.kp T.bV (aa (d_v 0) (aa (bH (d_v 2) d_i) ah))))
  (ak (s_a 4 b8.nd (aL (bF T) (Br.hm hr) rfl T.b7 T.bZ.kp T.bV (aa (d_v 0) (aa d_i ah))))
  (ak (s_a 5 b8.nd (bA (cO (aa d_i (aa d_i (aa (i8 d_i d_i) (aa d_i ah))))) (d_v 4)))
  (ak (s_a 6 b8.nd (bA (cO (aa d_i (aa (i8 d_i d_i) ah))) (EX rfl T.wI (aa (xJ hr (d_v 4) d_i) ah))))
  (ak (s_a 7 b8.nd (aL (bF T) (Br.hm hr) rfl T.b7 T.bZ.kp T.bV (aa (d_v 0) (aa d_i ah))))
  (ak (s_a 8 b8.nd (gK (aL (bF T) (Br.hm hr) rfl T.b7 T.bZ.kp T.bV (aa (d_v 0) (aa (d_v 5) ah))) (d_v 6)))
  (ak (s_a 9 b8.nd (cO ah))
  (ak (gM PassesOwn.never rfl (zW rfl T.gB (aa (d_v 3) ah)) (g_n 10 b8.nd)
  (ak (s_a 11 b8.nd (aL (bF T) (Br.hm hr) rfl T.b7 T.bZ.kp T.bV (aa (d_v 0) (aa (d_v 1) ah))))
  (ak (s_a 12 b8.nd (aL (bF T) (Br.hm hr) rfl T.b7 T.bZ.kp T.bV (aa (d_v 0) (aa (d_v 1) ah))))
  (ak (dG (xK hr (d_v 7) d_i) (aA (s_a 12 b8.nd (fP (bH (d_v 11) d_i) (d_v 1)))) b5)
  (ak (dG (xK hr (d_v 7) d_i) (aA (s_a 12 b8.nd (fP (fP (bH (bH (d_v 11) (fP (d_v 12) d_i)) d_i) (tT rfl rfl T.Bw (aa (d_v 1) (aa d_i ah)))) (d_v 1)))) b5)
  (ak (zX 9 (n5 (aa (d_v 8) (aa (tT rfl rfl T.Bw (aa (d_v 11) (aa (d_v 12) ah))) (aa (pK rfl rfl T.wJ (aa (d_v 11) (aa (d_v 12) ah))) ah)))))
  (aA (s_a 8 b8.nd (bH (bH (d_v 8) d_i) (gK (aL (bF T) (Br.hm hr) rfl T.b7 T.bZ.kp T.bV (aa (d_v 0) (aa (d_v 5) ah))) (d_v 6)))))))))))
  (aA (s_r (d_v 9))))))))))),qV (n:=3) (m:=10) rfl h⟩
theorem IQ :
  aR P' w K mg base CX0 2 mQ iz ["pool","record"] (spM oM):=by
 refine T.FH.ok BU (fun vs H Q E h=>gm h) (fun cdv A outer s H vs Q E hr h=>?_)
 exact ⟨_,(ak (dG (xK hr (d_v 1) (cO ah)) (aA (s_r (aL (bF T) (Br.hm hr) rfl T.b7 T.bZ.kp T.bV (aa (d_v 0) (aa d_i ah))))) b5)
  (ak (s_a 2 BU.nd (bA (bA (d_v 1) (aL (bF T) (Br.hm hr) rfl T.b7 T.bZ.kp T.bV (aa (d_v 0) (aa (fQ rfl T.ee (aa (d_v 1) ah)) ah)))) d_i))
  (aA (s_r (bA (cO (@aa _ _ _ _ _ d_i (@aa _ _ _ _ _ (d_v 2) (@aa _ _ _ _ _ (bH (d_v 2) d_i) (@aa _ _ _ _ _ (pK rfl rfl T.wJ (aa d_i (aa (vz (d_v 2) d_i) ah))) (@aa _ _ _ _ _ (bH (bA (bA (d_v 1) (JS d_i)) d_i) d_i) (@aa _ _ _ _ _ (d_v 2) ah rfl) rfl) rfl) rfl) rfl) rfl)) (aL (bF T) (Br.hm hr) rfl T.b7 T.bZ.kp T.bV (aa (d_v 0) (aa d_i ah)))))))),qV (n:=2) (m:=1) rfl h⟩
theorem BX :
  aR P' w K mg base CX0 1 mR iA ["record","start"] (spD jr):=by
 refine T.BG.ok IF (fun vs H Q E h=>aV h) (fun cdv A outer s H vs Q E hr h=>?_)
 exact ⟨_,(aA (s_r (gO 0 ["record","start"] ["tie"] (c_n 2 Ez rfl rfl) (d_v 0) (fun _ _ _ _ _=>jG (G0 (bA (d_v 2) d_i) (d_v 1))) (fun _ _ _ _ _=>(d_v 2))))),dh (n:=2) (m:=0) rfl h⟩
theorem BY :
  aR P' w K mg base CX0 1 mS iB ["thing"] (spD we):=by
 refine T.BH.ok IG (fun vs H Q E h=>aV h) (fun cdv A outer s H vs Q E hr h=>?_)
 exact ⟨_,(aA (s_r (i9 (jZ vC (by rfl) rfl T.wI rfl T.bx (d_v 0)) (n6 (EV (jZ qQ (by rfl) rfl T.Bu rfl T.bx (d_v 0))))))),dh (n:=1) (m:=0) rfl h⟩
theorem BZ :
  aR P' w K mg base CX0 2 mT iC ["thing"] (spD l9):=by
 refine T.BI.ok II (fun vs H Q E h=>aV h) (fun cdv A outer s H vs Q E hr h=>?_)
 exact ⟨_,(aA (s_r (EW rfl rfl T.Fv (aa (gO 0 ["thing"] ["part"] (c_n 1 EA rfl rfl) (d_v 0) (fun _ _ _ _ _=>jF) (fun _ _ _ _ _=>(aJ (BY T) (Br.hm hr) rfl T.Fz T.BH.kp T.wO (aa (d_v 1) ah)))) ah)))),dh (n:=1) (m:=0) rfl h⟩
theorem IS :
  aR P' w K mg base CX0 1 mU iD ["ties","side"] (spD wg):=by
 refine T.FJ.ok IJ (fun vs H Q E h=>aV h) (fun cdv A outer s H vs Q E hr h=>?_)
 exact ⟨_,(aA (s_r (gO 0 ["ties","side"] ["tie"] (c_n 2 EB rfl rfl) (d_v 0) (fun _ _ _ _ _=>jG (lC hr (zw hr (bA (d_v 2) d_i) (d_v 1)) (zw hr (bA (d_v 2) d_i) (d_v 1)))) (fun _ _ _ _ _=>(bA (d_v 2) d_i))))),dh (n:=2) (m:=0) rfl h⟩
theorem IT :
  aR P' w K mg base CX0 3 mV iE ["ties","a","b","way"] (spD wj):=by
 refine T.FL.ok jS (fun vs H Q E h=>aV h) (fun cdv A outer s H vs Q E hr h=>?_)
 exact ⟨_,(ak (dG (t_w (w_or (dY (dZ (jZ qS (by rfl) rfl T.nk rfl T.bx (d_v 3)))) (w_or (dY (dZ (aJ (BZ T) (Br.hm hr) rfl T.FA T.BI.kp T.wQ (aa (d_v 3) ah)))) (n8 (lC hr (qW rfl rfl T.ee rfl T.Bx (d_v 3)) (fQ rfl T.ee (aa (d_v 3) ah))))))) (aA (s_r d_b)) b5)
  (ak (s_a 4 jS.nd Hg)
  (ak (gM PassesOwn.never rfl (i_S (d_v 0)) (g_n 5 jS.nd)
  (aA (tY 4 hr (bA (d_v 5) d_i) (n5 (aa (bA (d_v 5) d_i) (aa (bA (d_v 5) d_i) ah))))))
  (ak (s_a 6 jS.nd (d_v 1))
  (ak (gM PassesOwn.never rfl (i_S (d_v 3)) (g_n 7 jS.nd)
  (ak (dG (t_w (w_or (z8 hr (d_v 7) (d_v 4)) (w_or (JU hr (d_v 6) (pN hr (d_v 4) (d_v 7))) (n8 (xK hr (bA (pN hr (d_v 4) (d_v 7)) d_i) (bA (pN hr (d_v 4) (d_v 7)) d_i)))))) (aA (s_r d_b)) b5)
  (aA (s_a 6 jS.nd (vz (Hh rfl rfl T.KJ (aa (pN hr (d_v 4) (d_v 7)) ah)) (d_v 6))))))
  (aA (s_r (xJ hr (d_v 6) (d_v 2))))))))),dh (n:=4) (m:=4) rfl h⟩
theorem IU :
  aR P' w K mg base CX0 4 mW iF ["ties","a","b","ways"] (spD wk):=by
 refine T.FO.ok uU (fun vs H Q E h=>aV h) (fun cdv A outer s H vs Q E hr h=>?_)
 exact ⟨_,(ak (dG (dY (dZ (jZ qS (by rfl) rfl T.nk rfl T.bx (d_v 3)))) (aA (s_r d_b)) b5)
  (ak (s_a 4 uU.nd (cO ah))
  (ak (gM PassesOwn.never rfl (i_S (d_v 3)) (g_n 5 uU.nd)
  (ak (dG (dY (dZ (aJ (IT T) (Br.hm hr) rfl T.K2 T.FL.kp T.BJ (aa (d_v 0) (aa (d_v 1) (aa (d_v 2) (aa (d_v 5) ah))))))) (aA (s_r d_b)) b5)
  (aA (J3 4 (d_v 5)))))
  (aA (s_r (xJ hr (qW rfl rfl T.ee rfl T.Bx (d_v 4)) (fQ rfl T.ee (aa (d_v 4) ah)))))))),dh (n:=4) (m:=2) rfl h⟩
theorem IV :
  aR P' w K mg base CX0 3 mX iG ["n","side","a","b"] (spD wo):=by
 refine T.FQ.ok IK (fun vs H Q E h=>aV h) (fun cdv A outer s H vs Q E hr h=>?_)
 exact ⟨_,(ak (dG (t_w (w_or (dY (dZ (jZ kit_tuple (by rfl) rfl T.kQ rfl T.bx (d_v 1)))) (w_or (dY (dZ (aJ (BZ T) (Br.hm hr) rfl T.FA T.BI.kp T.wQ (aa (d_v 1) ah)))) (n8 (lC hr (tU rfl T.nk (aa (d_v 1) ah)) (yf rfl rfl T.nu rfl T.Bx (d_v 1))))))) (aA (s_r d_b)) b5)
  (aA (s_r (i9 (EW rfl rfl T.Fv (aa (gO 1 ["n","side","a","b"] ["place"] (c_n 4 EC rfl rfl) (d_v 1) (fun _ _ _ _ _=>jF) (fun _ _ _ _ _=>(vD y_ zQ y9 zP d_i (d_v 4) (d_v 0)))) ah)) (i9 (zw hr (d_v 2) (d_v 1)) (n6 (JT hr (d_v 3) (d_v 1)))))))),dh (n:=4) (m:=0) rfl h⟩
theorem uY :
  aR P' w K mg base CX0 5 mY iH ["n","ties","a","b","most","found"] (spD d9):=by
 refine T.wR.ok qu (fun vs H Q E h=>aV h) (fun cdv A outer s H vs Q E hr h=>?_)
 exact ⟨_,(ak (dG (t_w (w_or (dY (dZ (jZ kit_tuple (by rfl) rfl T.kQ rfl T.bx (d_v 5)))) (w_or (lC hr (fQ rfl T.ee (aa (d_v 5) ah)) d_i) (n8 (dY (dZ (aJ (BY T) (Br.hm hr) rfl T.Fz T.BH.kp T.wO (aa (bA (d_v 5) d_i) ah)))))))) (aA (s_r d_b)) b5)
  (ak (s_u rfl (dM 6 qu.nd (dM 7 qu.nd (dM 8 qu.nd tW))) (d_v 5))
  (ak (dG (t_w (w_or (LF (d_v 6) (d_v 4)) (w_or (dY (dZ (aJ (IU T) (Br.hm hr) rfl T.K3 T.FO.kp T.BL (aa (d_v 1) (aa (d_v 2) (aa (d_v 3) (aa (d_v 7) ah))))))) (n8 (lC hr (fQ rfl T.ee (aa (d_v 7) ah)) (d_v 6)))))) (aA (s_r d_b)) b5)
  (ak (dG (Ab (d_v 8) d_n) (aA (s_r (xJ hr (d_v 6) (d_v 4)))) b5)
  (aA (s_r (i9 (LD (d_v 6) (d_v 4)) (i9 (aJ (IV T) (Br.hm hr) rfl T.K4 T.FQ.kp T.BN (aa (d_v 0) (aa (d_v 8) (aa (d_v 2) (aa (d_v 3) ah))))) (n6 (xJ hr (fQ rfl T.ee (aa (aJ (IS T) (Br.hm hr) rfl T.K1 T.FJ.kp T.BK (aa (d_v 1) (aa (d_v 8) ah))) ah)) (d_v 6))))))))))),dh (n:=6) (m:=3) rfl h⟩
theorem IW :
  aR P' w K mg base CX0 7 mZ jR ["script"] (spD l_):=by
 refine T.K7.ok bE (fun vs H Q E h=>aV h) (fun cdv A outer s H vs Q E hr h=>?_)
 exact ⟨_,(ak (gM PassesOwn.never rfl (LO rfl T.gB (aa d_i (aa (pK rfl rfl T.wJ (aa d_i (aa (tT rfl rfl T.Bw (aa (fQ rfl T.ee (aa (d_v 0) ah)) (aa d_i ah))) ah))) (aa d_i ah)))) (g_n 1 bE.nd)
  (ak (s_a 2 bE.nd (aJ (uX T) (Br.hm hr) rfl T.By T.wN.kp T.r9 (aa (d_v 0) (aa (d_v 1) ah))))
  (ak (s_a 3 bE.nd (pK rfl rfl T.wJ (aa d_i (aa (aL (IM T) (Br.hm hr) rfl T.KY T.FF.kp T.BO (aa (d_v 2) ah)) ah))))
  (ak (s_a 4 bE.nd d_i)
  (ak (dG (xK hr (aL (bF T) (Br.hm hr) rfl T.b7 T.bZ.kp T.bV (aa (d_v 2) (aa d_i ah))) d_i) (ak (s_a 3 bE.nd (bH d_i (aL (bF T) (Br.hm hr) rfl T.b7 T.bZ.kp T.bV (aa (d_v 2) (aa d_i ah)))))
  (aA (s_a 4 bE.nd d_i))) b5)
  (ak (s_a 5 bE.nd (Dq (IP T) (Br.hm hr) rfl T.KZ T.FG.kp T.BP (aa (aJ (uX T) (Br.hm hr) rfl T.By T.wN.kp T.r9 (aa (d_v 0) (aa (bH (d_v 1) d_i) ah))) (aa (d_v 3) (aa (d_v 4) ah)))))
  (ak (s_a 2 bE.nd (aJ (uX T) (Br.hm hr) rfl T.By T.wN.kp T.r9 (aa (d_v 0) (aa (bH (d_v 1) d_i) ah))))
  (ak (s_a 6 bE.nd (aL (bF T) (Br.hm hr) rfl T.b7 T.bZ.kp T.bV (aa (d_v 2) (aa (d_v 3) ah))))
  (ak (s_a 7 bE.nd (fP (bH (bH (d_v 6) d_i) (aL (bF T) (Br.hm hr) rfl T.b7 T.bZ.kp T.bV (aa (d_v 2) (aa (vz (d_v 3) d_i) ah)))) (d_v 3)))
  (ak (s_a 8 bE.nd (bA (cO (@aa _ _ _ _ _ d_i (@aa _ _ _ _ _ d_i (@aa _ _ _ _ _ d_i (@aa _ _ _ _ _ d_i (@aa _ _ _ _ _ d_i (@aa _ _ _ _ _ (bH d_i (aL (bF T) (Br.hm hr) rfl T.b7 T.bZ.kp T.bV (aa (d_v 2) (aa d_i ah)))) ah rfl) rfl) rfl) rfl) rfl) rfl)) (aL (bF T) (Br.hm hr) rfl T.b7 T.bZ.kp T.bV (aa (d_v 2) (aa d_i ah)))))
  (ak (s_a 9 bE.nd (bA (cO (aa (aL (IQ T) (Br.hm hr) rfl T.K0 T.FH.kp T.BQ (aa (d_v 2) (aa (d_v 5) ah))) (aa (i8 d_i d_i) ah))) (EX rfl T.wI (aa (xJ hr (aL (bF T) (Br.hm hr) rfl T.b7 T.bZ.kp T.bV (aa (d_v 2) (aa d_i ah))) d_i) ah))))
  (ak (s_a 10 bE.nd (tU rfl T.nk (aa (d_v 5) ah)))
  (Dz 11 bE.nd (sj T) (Br.hm hr) rfl T.wK T.kr.kp T.wU (@aa _ _ _ _ _ (d_v 3) (@aa _ _ _ _ _ (d_v 10) (@aa _ _ _ _ _ (d_v 6) (@aa _ _ _ _ _ (d_v 7) (@aa _ _ _ _ _ (d_v 8) (@aa _ _ _ _ _ (d_v 9) ah rfl) rfl) rfl) rfl) rfl) rfl)
  (Ke (dY (dZ (aJ (uY T) (Br.hm hr) rfl T.BA T.wR.kp T.r_ (@aa _ _ _ _ _ (d_v 3) (@aa _ _ _ _ _ (aJ (BX T) (Br.hm hr) rfl T.Fy T.BG.kp T.wV (aa (d_v 5) (aa (d_v 9) ah))) (@aa _ _ _ _ _ (d_v 6) (@aa _ _ _ _ _ (d_v 7) (@aa _ _ _ _ _ (d_v 8) (@aa _ _ _ _ _ (d_v 11) ah rfl) rfl) rfl) rfl) rfl) rfl)))) (aA (s_r d_b))
  (Ke (dY (dZ (aJ (uY T) (Br.hm hr) rfl T.BA T.wR.kp T.r_ (@aa _ _ _ _ _ (d_v 3) (@aa _ _ _ _ _ (d_v 5) (@aa _ _ _ _ _ (d_v 6) (@aa _ _ _ _ _ (d_v 7) (@aa _ _ _ _ _ (d_v 8) (@aa _ _ _ _ _ (Ar 5 (uW T) (Br.hm hr) rfl T.wK T.kr.kp T.uT (@aa _ _ _ _ _ (d_v 3) (@aa _ _ _ _ _ (d_v 10) (@aa _ _ _ _ _ (d_v 6) (@aa _ _ _ _ _ (d_v 7) (@aa _ _ _ _ _ (d_v 8) ah rfl) rfl) rfl) rfl) rfl)) ah rfl) rfl) rfl) rfl) rfl) rfl)))) (aA (s_r d_b))
  (m_c (HJ 12 bE.nd (E6 (Av (p_o (bA (d_v 11) d_i)) (Av (LU ["script","at","pool","n","many","record","a","b","most","start","handed","found","kept","%13","gone","fewer"] ["way"] (c_n 16 ED rfl rfl) (i_S (bA (d_v 11) d_i)) (fun _ _ _ _ _=>(p_o (tU rfl T.nk (aa (d_v 16) ah))))) (Av (p_o (bA (d_v 11) d_i)) Kc)))))
  (m_c (HR 1 13 bE.nd PassesOwn.never rfl)
  (Kf (ak (dG (t_w (w_or (lC hr (yi 5 5 (uW T) (Br.hm hr) rfl T.wK T.kr.kp T.iJ (@aa _ _ _ _ _ (d_v 3) (@aa _ _ _ _ _ (d_v 10) (@aa _ _ _ _ _ (d_v 6) (@aa _ _ _ _ _ (d_v 7) (@aa _ _ _ _ _ (d_v 8) ah rfl) rfl) rfl) rfl) rfl) (d_v 9)) (d_v 12)) (n8 (lC hr (d_v 10) (d_v 5))))) (aA (s_r d_b)) b5)
  (aA (dG (lC hr (d_v 5) (cO ah)) (ak (s_a 14 bE.nd (vH 10 (aL (bF T) (Br.hm hr) rfl T.b7 T.bZ.kp T.bV (aa (d_v 2) (aa (fQ rfl T.ee (aa (d_v 5) ah)) ah)))))
  (ak (s_a 15 bE.nd (aJ (BX T) (Br.hm hr) rfl T.Fy T.BG.kp T.wV (aa (gO 5 ["script","at","pool","n","many","record","a","b","most","start","handed","found","kept","way","gone","fewer"] ["tie"] (c_n 16 EE rfl rfl) (d_v 5) (fun _ _ _ _ _=>jG (lC hr (d_v 16) (d_v 14))) (fun _ _ _ _ _=>(d_v 16))) (aa (d_v 9) ah))))
  (aA (dG (dY (dZ (aJ (uY T) (Br.hm hr) rfl T.BA T.wR.kp T.r_ (@aa _ _ _ _ _ (d_v 3) (@aa _ _ _ _ _ (d_v 15) (@aa _ _ _ _ _ (d_v 6) (@aa _ _ _ _ _ (d_v 7) (@aa _ _ _ _ _ (d_v 8) (@aa _ _ _ _ _ (Aq 5 (uW T) (Br.hm hr) rfl T.wK T.kr.kp T.wU (@aa _ _ _ _ _ (d_v 3) (@aa _ _ _ _ _ (d_v 10) (@aa _ _ _ _ _ (d_v 6) (@aa _ _ _ _ _ (d_v 7) (@aa _ _ _ _ _ (d_v 8) (@aa _ _ _ _ _ (d_v 9) ah rfl) rfl) rfl) rfl) rfl) rfl)) ah rfl) rfl) rfl) rfl) rfl) rfl)))) (aA (s_r d_b)) b5)))) b5)))))))))))))))))))))
  (aA (s_r d_b))),dh (n:=1) (m:=15) rfl h⟩
end
theorem all_mk {l:PySem.W.OpenLaw} {w:World} {K:PySem.W.Frag} {h:Heap} {mg:Str→Option Value} {fa uL uM uN uO uP rZ r8 uQ uR uS mG mH mJ gS mK mL mO mP mQ mR mS mT mU mV mW mX mY mZ:Addr} {m5 m6 m7 m8 m9 ko kq ng ni nj ic ie ig ir iu iw iy iz iA iB iC iD iE iF iG iH jR:FuncData} (X:K.In h) (G:h.Ns mainGlobals mg) (hfa:mg "law" = some (.ref fa))
  {IX ny:Option Addr} {IY:Array (Option Value)} {IZ nB nC nE jT nF:Value} {jU:Addr} {iI:Tok} {uZ:Nat} {sr:Value} {su:Option Addr} {sy:Array (Option Value)}
  (B0:bS K "steps_of" (top 2) uL m5)
  (B3:bS K "free_steps" (top 3) uM m6)
  (B4:bS K "led_steps" (top 4) uN m7)
  (B5:bS K "shortest_ways" (top 5) uO m8)
  (B6:bS K "lead_along" (top 6) uP m9)
  (B7:bS K "parted" (top 7) rZ ko)
  (B8:bS K "ways_apart" (top 1) r8 kq)
  (B9:bS K "is_whole" (top 12) uQ ng)
  (B_:bS K "is_within" (top 13) uR ni)
  (Ca:bS K "is_place" (top 14) uS nj)
  (sC:bS K "is_pair" (top 15) mG ic)
  (sD:bS K "look_at_pair" (top 16) mH ie)
  (sF:bS K "since" (top 18) mJ ig)
  (Cb:PySem.W.nsIn K mainGlobals "hang_of" = some (some (.ref gS))) (Cc:K.lookup gS=some ⟨IZ,IX,.func (PySem.W.fnOf "hang_of" "hang_of" (aI (top 20)) (aG (top 20)) (ai (top 20)) (.ref jU) nB nC nE ny jT nF),IY⟩) (Cd:PySem.W.codeIn K jT "hang_of" = true) (Ce:PySem.W.keepIn K (.ref gS)=true)
  (sG:K.lookup jU=some ⟨sr,su,.seq #[.int 0 iI] uZ,sy⟩)
  (sH:bS K "_law_pool" (top 22) mK ir)
  (sI:bS K "_law_take" (top 23) mL iu)
  (sJ:bS K "_law_many" (top 24) mO iw)
  (sL:bS K "_law_record" (top 25) mP iy)
  (sM:bS K "_law_moment" (top 26) mQ iz)
  (sN:bS K "_law_since" (top 27) mR iA)
  (sO:bS K "_law_whole" (top 28) mS iB)
  (sP:bS K "_law_wholes" (top 29) mT iC)
  (sQ:bS K "_law_rim" (top 30) mU iD)
  (sS:bS K "_law_leads" (top 31) mV iE)
  (sV:bS K "_law_lead_all" (top 32) mW iF)
  (sW:bS K "_law_is_side" (top 33) mX iG)
  (sX:bS K "_law_right" (top 34) mY iH)
  (oX:bS K "law" (top 35) mZ jR)
  (Cf:PySem.W.nsIn K mainGlobals "all" = some none)
  (u5:PySem.W.nsIn K mainGlobals "bool" = some none)
  (u6:PySem.W.nsIn K mainGlobals "dict" = some none)
  (Cg:PySem.W.nsIn K mainGlobals "int" = some none)
  (eX:PySem.W.nsIn K mainGlobals "isinstance" = some none)
  (Ci:PySem.W.nsIn K mainGlobals "len" = some none)
  (u7:PySem.W.nsIn K mainGlobals "list" = some none)
  (Cj:PySem.W.nsIn K mainGlobals "max" = some none)
  (Ck:PySem.W.nsIn K mainGlobals "min" = some none)
  (qv:PySem.W.nsIn K mainGlobals "range" = some none)
  (Cm:PySem.W.nsIn K mainGlobals "set" = some none)
  (nG:PySem.W.nsIn K mainGlobals "sorted" = some none)
  (Cn:PySem.W.nsIn K mainGlobals "sum" = some none)
  (qw:PySem.W.nsIn K mainGlobals "tuple" = some none) :
  ∃ fd:FuncData,(∀ (s:Shared) (v:Value),BindsTo s fd ⟨[v],[]⟩ [("script",v)])∧∀ base:Heap,K.In base→base.Ns mainGlobals mg→aR l.prog w K mg base CX0 7 fa fd ["script"] (spD l_):=by
 have e:=hfa.symm.trans (oX.m X G)
 cases e
 have Ep:=B0.F.cM (ps:=["n","ties"]) rfl fun _ _ _ _ _ _ _ _=>rfl
 have Er:=B3.F.cM (ps:=["steps","heads"]) rfl fun _ _ _ _ _ _ _ _=>rfl
 have En:=B4.F.cM (ps:=["steps","heads"]) rfl fun _ _ _ _ _ _ _ _=>rfl
 have yI:=B5.F.cM (ps:=["steps","a"]) rfl fun _ _ _ _ _ _ _ _=>rfl
 have Es:=B6.F.cM (ps:=["heads","way"]) rfl fun _ _ _ _ _ _ _ _=>rfl
 have Et:=B7.F.Al (ps:=["steps","heads","a","b","count"]) rfl fun _ _ _ _ _ _ _ _ _ _ _=>rfl
 have Ex:=B8.F.Al (ps:=["n","ties","a","b","most"]) rfl fun _ _ _ _ _ _ _ _ _ _ _=>rfl
 have Im:=B9.F.pR (ps:=["thing"]) rfl fun _ _ _ _ _ _ _=>rfl
 have Io:=B_.F.pS (ps:=["thing","low","high"]) rfl fun _ _ _ _ _ _ _ _ _=>rfl
 have Ew:=Ca.F.cM (ps:=["n","thing"]) rfl fun _ _ _ _ _ _ _ _=>rfl
 have BC:=sC.F.pS (ps:=["n","a","b"]) rfl fun _ _ _ _ _ _ _ _ _=>rfl
 have wL:=sD.F.pS (ps:=["n","a","b"]) rfl fun _ _ _ _ _ _ _ _ _=>rfl
 have wM:=sF.F.cM (ps:=["record","t"]) rfl fun _ _ _ _ _ _ _ _=>rfl
 have kr:=De (st:=top 20) Cc Cd Ce
 have wU:Binds K (PySem.W.fnOf "hang_of" "hang_of" (aI (top 20)) (aG (top 20)) (ai (top 20)) (.ref jU) nB nC nE ny jT nF) ["n","record","a","b","most","t"] []:=fun s us hIn hl=>match us,hl with | [_,_,_,_,_,_],_=>PySem.W.binds_K hIn rfl sG rfl rfl rfl
 have uT:Binds K (PySem.W.fnOf "hang_of" "hang_of" (aI (top 20)) (aG (top 20)) (ai (top 20)) (.ref jU) nB nC nE ny jT nF) ["n","record","a","b","most","t"] [.int 0 iI]:=fun s us hIn hl=>Dr (C:=fun us=>BindsTo s (PySem.W.fnOf "hang_of" "hang_of" (aI (top 20)) (aG (top 20)) (ai (top 20)) (.ref jU) nB nC nE ny jT nF) ⟨us,[]⟩ ((["n","record","a","b","most","t"]:List Str).zip (us++[.int 0 iI]))) (by simpa using hl) fun _ _ _ _ _=>PySem.W.binds_K hIn rfl sG rfl rfl rfl
 have iJ:jy K (PySem.W.fnOf "hang_of" "hang_of" (aI (top 20)) (aG (top 20)) (ai (top 20)) (.ref jU) nB nC nE ny jT nF) ["n","record","a","b","most","t"] ["t"] (kw1 5) (kw1 5):=DQ fun s v0 v1 v2 v3 v4 v5 hIn=>PySem.W.binds_K hIn rfl sG rfl rfl rfl
 have r9:=sH.F.cM (ps:=["script","k"]) rfl fun _ _ _ _ _ _ _ _=>rfl
 have bV:=sI.F.cM (ps:=["pool","many"]) rfl fun _ _ _ _ _ _ _ _=>rfl
 have BO:=sJ.F.pR (ps:=["pool"]) rfl fun _ _ _ _ _ _ _=>rfl
 have BP:=sL.F.pS (ps:=["pool","n","most"]) rfl fun _ _ _ _ _ _ _ _ _=>rfl
 have BQ:=sM.F.cM (ps:=["pool","record"]) rfl fun _ _ _ _ _ _ _ _=>rfl
 have wV:=sN.F.cM (ps:=["record","start"]) rfl fun _ _ _ _ _ _ _ _=>rfl
 have wO:=sO.F.pR (ps:=["thing"]) rfl fun _ _ _ _ _ _ _=>rfl
 have wQ:=sP.F.pR (ps:=["thing"]) rfl fun _ _ _ _ _ _ _=>rfl
 have BK:=sQ.F.cM (ps:=["ties","side"]) rfl fun _ _ _ _ _ _ _ _=>rfl
 have BJ:=sS.F.uf (ps:=["ties","a","b","way"]) rfl fun _ _ _ _ _ _ _ _ _ _=>rfl
 have BL:=sV.F.uf (ps:=["ties","a","b","ways"]) rfl fun _ _ _ _ _ _ _ _ _ _=>rfl
 have BN:=sW.F.uf (ps:=["n","side","a","b"]) rfl fun _ _ _ _ _ _ _ _ _ _=>rfl
 have r_:=sX.F.Hz (ps:=["n","ties","a","b","most","found"]) rfl fun _ _ _ _ _ _ _ _ _ _ _ _=>rfl
 refine ⟨_,fun s v=>oX.L0 (fun _ _ _ _ _ _ _=>rfl) s v,fun base Xb _=>?_⟩
 have T:Txt mg K base _ _ _ _ _ _ _ _ _ _ _ _ _ _ _ _ _ _ _ _ _ _ _ _ _ _ _ _ _ _ _ _ _ _ _ _ _ _ _ _ _ _ _ _ _ _ _ _ _ _ _ _ _ _ _ _ _:=⟨mno X G Cf,mno X G u5,mno X G u6,mno X G Cg,mno X G eX,mno X G Ci,mno X G u7,mno X G Cj,mno X G Ck,mno X G qv,mno X G Cm,mno X G nG,mno X G Cn,mno X G qw,B0.m X G,B3.m X G,B4.m X G,B5.m X G,B6.m X G,B7.m X G,B8.m X G,B9.m X G,B_.m X G,Ca.m X G,sC.m X G,sD.m X G,sF.m X G,mgo X G Cb,sH.m X G,sI.m X G,sJ.m X G,sL.m X G,sM.m X G,sN.m X G,sO.m X G,sP.m X G,sQ.m X G,sS.m X G,sV.m X G,sW.m X G,sX.m X G,oX.m X G,B0.F,B3.F,B4.F,B5.F,B6.F,En,yI,B7.F,Ep,Er,Es,Et,B8.F,B9.F,Im,B_.F,Io,Ca.F,Ew,sC.F,BC,sD.F,sF.F,Ex,wL,wM,kr,sH.F,sI.F,bV,sJ.F,sL.F,sM.F,sN.F,sO.F,wO,sP.F,sQ.F,wQ,sS.F,BJ,sV.F,sW.F,BK,BL,BN,sX.F,wU,uT,iJ,r9,BO,BP,BQ,wV,r_,oX.F⟩
 exact IW T
theorem walk {l:PySem.W.OpenLaw} {q:Program} {loose:List Str} {XP:(Str→Option Value)→Heap→Prop} {YP:World→Heap→Prop} {d:DefRec} {K:Params→PySem.W.Frag} (hn:l.most=some 63) (hdf:d.params.defaults=[])
  (hY:∀ (w:World) (h:Heap),YP w h→(K w.params).In h) (M:∀ ns:List Int,ns.length≤63→l_ [.lst (ns.map Dat.int)]=some (.val (.bl true))) (hK:∀ w:World,z0 (K w.params)=true)
  (F:∀ (w:World) (mg:Str→Option Value) (fa:Addr) (h:Heap),(K w.params).In h→h.Ns mainGlobals mg→mg d.name=some (.ref fa) →
   ∃ fd:FuncData,(∀ (s:Shared) (u:Value),BindsTo s fd ⟨[u],[]⟩ [("script",u)])∧∀ base:Heap,(K w.params).In base→base.Ns mainGlobals mg→aR l.prog w (K w.params) mg base CX0 7 fa fd ["script"] (spD l_)) :
  PySem.W.WalkO q loose XP YP l.row.toRowW d [] (fun f vs=>PySem.call f vs):=
 L2.CF (n:=63) (k:=7) (x := "script") (CX:=fun _=>CX0) (sp:=fun _=>spD l_) hn (by decide) hdf ⟨rfl,by decide,by decide,rfl⟩ hY F
  (fun w H a ns hl hO hS=>G6 (M ns hl) (hK w) hS) fun _ _ _ _ _ z=>z
open PySem PySem.W PySem.W.X
theorem Co {q:Program} {loose:List Str} {XP:(Str→Option Value)→Heap→Prop} {r:RowW} {d:DefRec} {kwd:List (Str×Expr)} {run:Value→List Value→Sem Value} {K:Params→Frag} {as:List Addr} {n t:Nat} (e:∀ P,as=(K P).map (·.1))
  (W:WalkO q loose XP (fun w h=>(K w.params).In h) r d kwd run):WalkX q loose XP (obsZ as) (valZ K n t) r d kwd run:=
 fun w s₀ s₁ mg mb G y a o pm cd doc dV kV ho hd hcd hD hmg hg args vals as' L=>W w s₀ s₁ mg mb G (InK.keeps w _ _ (z_facts e y).2.1 L.keeps) a o pm cd doc dV kV ho hd hcd hD hmg hg args vals as'
end Q
noncomputable def PySem.W.Fast.tw10624594746476602639:PySem.Program:=PySem.Challenge.pw_sinceply_k25_hangs_told
theorem PySem.W.Fast.te10624594746476602639:PySem.Challenge.pw_sinceply_k25_hangs_told=PySem.W.Fast.tw10624594746476602639:=rfl
namespace PySem.W.Fast
def tw12507334542198165047:=0
def tw16622850993722721582:=0
def tw16561452505419464967:=0
def tw4048080597687975217:=0
def tw15413414555196886821:=0
def tw14167445152121001929:=0
def tw2761241373590429843:=0
def tw3213519423371303020:=0
def tw235115861827434400:=0
def tw5807351320161101339:=0
def tw13425490697118880450:=0
def tw3122193916843487317:=0
def tw15844363246864486481:=0
def tw899592936622215024:=0
def tw11068428402285523643:=0
def tw4612915282345118455:=0
def tw14844663992857377626:=0
def tw2263434012695737305:=0
def tw9120800617715450987:=0
def tw2832763682965863737:=0
def tw2338617434852183278:=0
def tw3930059084586477630:=0
def tw4973635794146225908:=0
def tw2950940526820997299:=0
def tw9012630434600744058:=0
def tw2487221829788869949:=0
def tw7305303827771606227:=0
def tw6875473665786855229:=0
def tw4418079880553791307:=0
def tw4652341785963708066:=0
def tw14381845171160234779:=0
def tw2363304548764547982:=0
def tw13991560622409477945:=0
def tw11094937734179519750:=0
def tw6688420526429892006:=0
def tw16153555760383963025:=0
def tw4586056211812743268:=0
def tw4126900103228820030:=0
def tw3573021000642760861:=0
def tw9055395754691015976:=0
def tw18419753268217467692:=0
def tw1389458771118290106:=0
def tw3342880752343584731:=0
def tw11683854064843115251:=0
def tw2888694466560250222:=0
def tw11025039314033039338:=0
def tw1911971876927265399:=0
def tw7961871412215278484:=0
def tw17724358395107101260:=0
def tw616630676677731528:=0
def tw10768875962425111491:=0
def tw4379233709044555755:=0
def tw8965310839811284057:=0
def tw13927024027278417430:=0
def tw2742440996186909329:=0
def tw14142993073541153774:=0
def tw14731279839938206557:=0
def tw3745456059845352181:=0
def tw8698920294021734608:=0
def tw12324298426802526422:=0
def tw16175828719001694423:=0
def tw16047077642839156147:=0
def tw3510188921234296169:=0
def tw3612281557285138914:=0
def tw13124685265809845457:=0
def tw18073245933693206407:=0
def tw14147925006734247100:=0
def tw12422532669527321942:=0
def tw16513591780932077466:=0
def tw3491989491284585002:=0
def tw15515690784418762640:=0
def tw1532447846335835317:=0
def tw18346316470716846971:=0
def tw4612016785860590043:=0
def tw4622212559797464906:=0
def tw8856784299446649155:=0
def tw12732171045055330934:=0
def tw9090713520546418447:=0
def tw2237891051436280275:=0
def tw4992945168090010005:=0
def tw12153571517989380127:=0
def tw14403811128773171392:=0
def tw77946585498702108:=0
def tw15805753495439766397:=0
def tw13876015318420350068:=0
def tw18401628207572356930:=0
def tw14182954585232264021:=0
def tw14462439269613384222:=0
def tw9784545781475502401:=0
def tw10643242644947702219:=0
def tw7160506741442425353:=0
def tw5686618897268047555:=0
def tw9343311773296957567:=0
def tw14007294944428767767:=0
def tw14402211804771793685:=0
def tw5590164952056130894:=0
def tw6825112535117514542:=0
def tw489190680589225270:=0
def tw6529072626323818936:=0
def tw5617345084668033484:=0
def tw13801405498345803777:=0
def tw3826349926431939345:=0
def tw10745206292943614411:=0
def tw14958521516274886465:=0
def tw17590417421185735797:=0
def tw10741240202205379161:=0
def tw11246300975009970030:=0
def tw16368787875427251971:=0
def tw6876719135945507485:=0
def tw2516479805479008802:=0
def tw4821918565263280406:=0
def tw6938738565330979225:=0
def tw12054605645749730975:=0
def tw8389452511289776436:=0
def tw15908951631343114589:=0
def tw15419923577150877514:=0
def tw6649749079455407136:=0
def tw18330639909225181113:=0
def tw909248540340771069:=0
def tw8381936285642736411:=0
def tw14370477569430795527:=0
def tw17852664619544414682:=0
def tw14639302909191473848:=0
def tw5435581370353072853:=0
def tw2819154402550591134:=0
def tw17046027154451397147:=0
def tw14021429357104839084:=0
def tw1506920177958341553:=0
def tw11207708954134367380:=0
def tw6313768626674993819:=0
def tw11427233228445910634:=0
def tw3431520906568233810:=0
def tw117146581985277114:=0
def tw6363519646062334217:=0
def tw11392065440473742845:=0
def tw13125669957547993959:=0
def tw17090253074963208059:=0
def tw12052115659886635666:=0
def tw13595378306086201917:=0
def tw12474038069128625453:=0
def tw16444447199356977074:=0
def tw17410547550681055678:=0
def tw411861726272079260:=0
def tw18267397992962232282:=0
def tw9736734837433451179:=0
def tw5740463003839488942:=0
def tw412101170938072360:=0
def tw3557076683298306775:=0
def tw14064187795164181313:=0
def tw6151192475343120348:=0
def tw3845818316554706924:=0
def tw11611294055623052863:=0
def tw10752207537322938583:=0
def tw17151851462511811938:=0
def tw6764648868349589679:=0
def tw9809558021269761220:=0
def tw7893484733488236132:=0
def tw2985048645570237099:=0
def tw17102729507071759448:=0
def tw5447134798712338513:=0
def tw3815315221553751771:=0
def tw10484391847999425717:=0
def tw12237648607274630385:=0
def tw18270859798230230247:=0
def tw7870564592948557801:=0
def tw564374551155967416:=0
def tw10165332125826913275:=0
def tw16666311989333243483:=0
def tw13338329973076255561:=0
def tw9018718627269152656:=0
def tw14826265628721521194:=0
def tw3849714795571449889:=0
def tw12651035970749836892:=0
def tw4249832509442587154:=0
def tw17499282016224499267:=0
def tw11918593807967102013:=0
def tw6163596032863254590:=0
def tw9159447243019284209:=0
def tw12356387180978605341:=0
def tw239707064326203338:=0
def tw13111108851321366561:=0
def tw2396223038606328139:=0
def tw2707065417707149370:=0
def tw7031053281164908313:=0
def tw6319012481308196133:=0
def tw14540371150203487946:=0
def tw2728183149459532069:=0
def tw10819076038079034565:=0
def tw16587945402880823224:=0
def tw4269340692807022775:=0
def tw12595143808045742462:=0
def tw13768459561247077483:=0
def tw3570499504177043460:=0
end PySem.W.Fast
open PySem PySem.W PyProof.Rows
set_option maxRecDepth 100000 in
set_option maxHeartbeats 0 in
theorem PySem.Challenge.cw_sinceply_k25_hangs_told_holds : PySem.Challenge.rw_sinceply_k25_hangs_told.Holds := by
 w_on;o_law;z_head;(case hw=>w_witness2)
 k_fill
 refine' Q.Co (fun _=>rfl) (Q.walk (l:=PySem.Challenge.rw_sinceply_k25_hangs_told) rfl rfl (fun w h Y=>Y) P.math ?noL ?fnS)
 case noL=>intro w;rfl
 case fnS=>
  intro w mg fa h KX G hmg
  refine' Q.all_mk KX G hmg ?B0 ?B3 ?B4 ?B5 ?B6 ?B7 ?B8 ?B9 ?B_ ?Ca ?sC ?sD ?sF ?Cb ?Cc ?Cd ?Ce ?sG ?sH ?sI ?sJ ?sL ?sM ?sN ?sO ?sP ?sQ ?sS ?sV ?sW ?sX ?oX ?Cf ?u5 ?u6 ?Cg ?eX ?Ci ?u7 ?Cj ?Ck ?qv ?Cm ?nG ?Cn ?qw
  (case B0=>refine' Br.aN ?e ?l ?c ?k;(case e=>k_is);(case l=>k_is);(case c=>k_is);(case k=>k_is))
  (case B3=>refine' Br.aN ?e ?l ?c ?k;(case e=>k_is);(case l=>k_is);(case c=>k_is);(case k=>k_is))
  (case B4=>refine' Br.aN ?e ?l ?c ?k;(case e=>k_is);(case l=>k_is);(case c=>k_is);(case k=>k_is))
  (case B5=>refine' Br.aN ?e ?l ?c ?k;(case e=>k_is);(case l=>k_is);(case c=>k_is);(case k=>k_is))
  (case B6=>refine' Br.aN ?e ?l ?c ?k;(case e=>k_is);(case l=>k_is);(case c=>k_is);(case k=>k_is))
  (case B7=>refine' Br.aN ?e ?l ?c ?k;(case e=>k_is);(case l=>k_is);(case c=>k_is);(case k=>k_is))
  (case B8=>refine' Br.aN ?e ?l ?c ?k;(case e=>k_is);(case l=>k_is);(case c=>k_is);(case k=>k_is))
  (case B9=>refine' Br.aN ?e ?l ?c ?k;(case e=>k_is);(case l=>k_is);(case c=>k_is);(case k=>k_is))
  (case B_=>refine' Br.aN ?e ?l ?c ?k;(case e=>k_is);(case l=>k_is);(case c=>k_is);(case k=>k_is))
  (case Ca=>refine' Br.aN ?e ?l ?c ?k;(case e=>k_is);(case l=>k_is);(case c=>k_is);(case k=>k_is))
  (case sC=>refine' Br.aN ?e ?l ?c ?k;(case e=>k_is);(case l=>k_is);(case c=>k_is);(case k=>k_is))
  (case sD=>refine' Br.aN ?e ?l ?c ?k;(case e=>k_is);(case l=>k_is);(case c=>k_is);(case k=>k_is))
  (case sF=>refine' Br.aN ?e ?l ?c ?k;(case e=>k_is);(case l=>k_is);(case c=>k_is);(case k=>k_is))
  (case Cb=>k_is)
  (case Cc=>k_is)
  (case Cd=>k_is)
  (case Ce=>k_is)
  (case sG=>k_is)
  (case sH=>refine' Br.aN ?e ?l ?c ?k;(case e=>k_is);(case l=>k_is);(case c=>k_is);(case k=>k_is))
  (case sI=>refine' Br.aN ?e ?l ?c ?k;(case e=>k_is);(case l=>k_is);(case c=>k_is);(case k=>k_is))
  (case sJ=>refine' Br.aN ?e ?l ?c ?k;(case e=>k_is);(case l=>k_is);(case c=>k_is);(case k=>k_is))
  (case sL=>refine' Br.aN ?e ?l ?c ?k;(case e=>k_is);(case l=>k_is);(case c=>k_is);(case k=>k_is))
  (case sM=>refine' Br.aN ?e ?l ?c ?k;(case e=>k_is);(case l=>k_is);(case c=>k_is);(case k=>k_is))
  (case sN=>refine' Br.aN ?e ?l ?c ?k;(case e=>k_is);(case l=>k_is);(case c=>k_is);(case k=>k_is))
  (case sO=>refine' Br.aN ?e ?l ?c ?k;(case e=>k_is);(case l=>k_is);(case c=>k_is);(case k=>k_is))
  (case sP=>refine' Br.aN ?e ?l ?c ?k;(case e=>k_is);(case l=>k_is);(case c=>k_is);(case k=>k_is))
  (case sQ=>refine' Br.aN ?e ?l ?c ?k;(case e=>k_is);(case l=>k_is);(case c=>k_is);(case k=>k_is))
  (case sS=>refine' Br.aN ?e ?l ?c ?k;(case e=>k_is);(case l=>k_is);(case c=>k_is);(case k=>k_is))
  (case sV=>refine' Br.aN ?e ?l ?c ?k;(case e=>k_is);(case l=>k_is);(case c=>k_is);(case k=>k_is))
  (case sW=>refine' Br.aN ?e ?l ?c ?k;(case e=>k_is);(case l=>k_is);(case c=>k_is);(case k=>k_is))
  (case sX=>refine' Br.aN ?e ?l ?c ?k;(case e=>k_is);(case l=>k_is);(case c=>k_is);(case k=>k_is))
  (case oX=>refine' Br.aN ?e ?l ?c ?k;(case e=>k_is);(case l=>k_is);(case c=>k_is);(case k=>k_is))
  (case Cf=>k_is)
  (case u5=>k_is)
  (case u6=>k_is)
  (case Cg=>k_is)
  (case eX=>k_is)
  (case Ci=>k_is)
  (case u7=>k_is)
  (case Cj=>k_is)
  (case Ck=>k_is)
  (case qv=>k_is)
  (case Cm=>k_is)
  (case nG=>k_is)
  (case Cn=>k_is)
  (case qw=>k_is)
end
