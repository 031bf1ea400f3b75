import PyProof.Rows.All
import Wide.All
import OpenK.AllK
import Wide.FinOn
import Lean
import PyProof.EqAt
import PyProof.EqKinds
import PyProof.TupleCall
import KE.KRevIter
import PyProof.EnumMake
import PyProof.EnumFor
import PyProof.ListRange
import PyProof.Rows.Range3
import PyProof.ZipIter
import PyProof.SumWalk
import PyProof.WalksMore
import PyProof.Rows.SetFrom
import PyProof.SetRoads
import PyProof.Rows.SortRunsK
import PyProof.Rows.SortWalk
import KE.KSortTup
import PyProof.Rows.Own
import PyProof.StationsW
import OpenK.KRaise
import KE.KIsAll
import PyProof.ExcArgsOwn
import PyProof.RulesAs
import PyProof.Ns1
import PyProof.Rows.Catch
import OpenK.KOwn
import PyProof.ExcBaseAll.ValueError
import KE.KDictSum
import PyProof.AttrMiss
import PyProof.IsiH_list
import KE.KDictOf
import PyProof.DictList
import KE.KDictList
import PyProof.FactsAll.set
import PyProof.Rows.TupAdd
import KE.KDictMeth
import PyProof.DictWalks
import PyProof.TupleKey
import PyProof.DictStraight
import PyProof.IsRules
import KE.KRevSl
import PyProof.Rows.CallKwBuiltin
import PyProof.Rows.SortShell
import PySem.Challenge.RW_sinceply_k18_nets_known
noncomputable section
set_option Elab.async false
set_option linter.all false

set_option maxRecDepth 100000
namespace L2
open PySem PySem.Spec PyProof.Rows
noncomputable abbrev Key:=Sum Int Str
noncomputable def zg:Key→Value→Bool
 | .inl k,v=>Value.isInt k v
 | .inr x,v=>Value.isStrOf x v
noncomputable def E3 (w:World):Key→Int
 | .inl k=>hashInt k
 | .inr x=>hashStr w x
theorem aZ:∀ {k:Key} {v:Value},zg k v=true→(∃ i t,k=Sum.inl i∧v=Value.int i t)∨(∃ x t,k=Sum.inr x∧v=Value.str x t)
 | .inl i,v,h=>by
  obtain ⟨t,e⟩:=Value.isInt_shape (k:=i) (v:=v) h
  exact .inl ⟨i,t,rfl,e⟩
 | .inr x,v,h=>by
  obtain ⟨t,e⟩:=Value.isStrOf_shape (x:=x) (v:=v) h
  exact .inr ⟨x,t,rfl,e⟩
theorem Ad (a b:Int):decide ((Sum.inl a:Key)=Sum.inl b)=(a == b):=by
 by_cases e:a=b
 ·subst e;simp
 ·have h:¬ (Sum.inl a:Key)=Sum.inl b:=fun q=>e (Sum.inl.inj q)
  rw [decide_eq_false h]
  exact (beq_eq_false_iff_ne.mpr e).symm
theorem Ae (a b:Str):decide ((Sum.inr a:Key)=Sum.inr b)=decide (a=b):=by
 by_cases e:a=b
 ·subst e;simp
 ·have h:¬ (Sum.inr a:Key)=Sum.inr b:=fun q=>e (Sum.inr.inj q)
  rw [decide_eq_false h,decide_eq_false e]
theorem Af (a:Int) (b:Str):decide ((Sum.inl a:Key)=Sum.inr b)=false:=decide_eq_false (fun q=>nomatch q)
theorem Ag (a:Str) (b:Int):decide ((Sum.inr a:Key)=Sum.inl b)=false:=decide_eq_false (fun q=>nomatch q)
noncomputable def qE (prog:Program) (w:World):PySem.KeyKind prog w Key where
 is:=zg
 hash:=E3 w
 inj:=fun v a b ha hb=>by
  rcases aZ ha with ⟨i,t,rfl,rfl⟩ | ⟨x,t,rfl,rfl⟩
  ·rcases aZ hb with ⟨j,u,rfl,e⟩ | ⟨y,u,rfl,e⟩
   ·injection e with e1 _;rw [e1]
   ·exact nomatch e
  ·rcases aZ hb with ⟨j,u,rfl,e⟩ | ⟨y,u,rfl,e⟩
   ·exact nomatch e
   ·injection e with e1 _;rw [e1]
 byValue:=fun k v h=>by
  rcases aZ h with ⟨i,t,rfl,rfl⟩ | ⟨x,t,rfl,rfl⟩<;>rfl
 pyHash:=fun hv h=>by
  rcases aZ hv with ⟨i,t,rfl,rfl⟩ | ⟨x,t,rfl,rfl⟩
  ·exact wpAny_pyHash_int h
  ·exact wpAny_pyHash_str h
 eqBool:=fun hu hv h=>by
  rcases aZ hu with ⟨i,t,rfl,rfl⟩ | ⟨x,t,rfl,rfl⟩
  ·rcases aZ hv with ⟨j,u,rfl,rfl⟩ | ⟨y,u,rfl,rfl⟩
   ·rw [Ad] at h;exact wpAny_eqBool_int h
   ·rw [Af] at h;exact SeqAt.EqAt.int_str i t y u _ _ _ _ h
  ·rcases aZ hv with ⟨j,u,rfl,rfl⟩ | ⟨y,u,rfl,rfl⟩
   ·rw [Ag] at h;exact SeqAt.EqAt.str_int x t j u _ _ _ _ h
   ·rw [Ae] at h;exact wpAny_eqBool_str h
 «strs»:=fun k x t v h=>by
  rcases aZ h with ⟨i,u,rfl,e⟩ | ⟨y,u,rfl,e⟩
  ·exact nomatch e
  ·injection e with e1 _
   subst e1
   cases v<;>rfl
inductive V where
 | non | bl (b:Bool) | int (i:Int) | str (x:Str) | byt (b:Array UInt8) | flt (b:UInt64) | ref (a:Addr) | ty (n:String)
 deriving DecidableEq
noncomputable def RelV:V→Value→Prop
 | .non,u=>u=Value.none
 | .bl b,u=>u=Value.bool b
 | .int i,u=>∃ t,u=Value.int i t
 | .str x,u=>∃ t,u=Value.str x t
 | .byt b,u=>∃ t,u=Value.bytes b t
 | .flt b,u=>∃ t,u=Value.float b t
 | .ref a,u=>u=Value.ref a
 | .ty n,u=>u=Value.type n
noncomputable abbrev Vals:List V→List Value→Prop:=Paired RelV
theorem Vals.length {xs:List V} {us:List Value} (r:Vals xs us):xs.length=us.length:=Paired.length r
theorem Vals.get:∀ {xs:List V} {us:List Value} {i:Nat} {x:V},Vals xs us→xs[i]?=some x→∃ u,us[i]?=some u∧RelV x u
 | _,_,_,_,.nil,e=>by simp at e
 | _,_,0,_,.cons r _,e=>by simp at e;subst e;exact ⟨_,rfl,r⟩
 | _,_,i+1,x,.cons _ t,e=>by
  obtain ⟨u,h1,h2⟩:=Vals.get (i:=i) (x:=x) t (by simpa using e)
  exact ⟨u,by simpa using h1,h2⟩
theorem Vals.set {x:V} {u:Value} (r:RelV x u):∀ {xs:List V} {us:List Value} (i:Nat),Vals xs us→Vals (xs.set i x) (us.set i u)
 | _,_,_,.nil=>.nil
 | _,_,0,.cons _ t=>.cons r t
 | _,_,i+1,.cons q t=>.cons q (Vals.set r i t)
theorem Vals.append:∀ {xs ys:List V} {us ws:List Value},Vals xs us→Vals ys ws→Vals (xs++ys) (us++ws)
 | _,_,_,_,.nil,s=>s
 | _,_,_,_,.cons r t,s=>.cons r (Vals.append t s)
theorem Vals.take:∀ {xs:List V} {us:List Value} (n:Nat),Vals xs us→Vals (xs.take n) (us.take n)
 | _,_,0,_=>.nil
 | _,_,_+1,.nil=>.nil
 | _,_,n+1,.cons r t=>.cons r (Vals.take n t)
theorem Vals.drop:∀ {xs:List V} {us:List Value} (n:Nat),Vals xs us→Vals (xs.drop n) (us.drop n)
 | _,_,0,r=>r
 | _,_,_+1,.nil=>.nil
 | _,_,n+1,.cons _ t=>Vals.drop n t
noncomputable def Ah:Option V→Option Value→Prop
 | some v,some u=>RelV v u
 | none,none=>True
 | _,_=>False
noncomputable def KV {κ:Type}:List (κ×V)→List (κ×Value)→Prop:=Paired fun (p:κ×V) (q:κ×Value)=>p.1=q.1∧RelV p.2 q.2
noncomputable def kV:Key→V
 | .inl i=>.int i
 | .inr x=>.str x
inductive HO where
 | lst (xs:List V)
 | tup (xs:List V)
 | dK (kvs:List (Key×V)) | dT (kvs:List (List Key×V))
 | set (S:Int→Bool) (n:Nat)
 | ins (C dx:Addr) (fs:List (Str×V))
 | own (x:Addr)
 | xd (fs:List (Str×V))
 | met (f x:Addr)
 | rng (lo hi:Int)
 | frz (o:Obj) (u:HO)
 | tbl (ps:Array Value)
 | ext (φ:Heap→Prop)
noncomputable abbrev Hp:=Addr→Option HO
noncomputable def upd (H:Hp) (a:Addr) (o:HO):Hp:=fun b=>if b=a then some o else H b
theorem aD {H:Hp} {a:Addr} {o:HO}:upd H a o a=some o:=by unfold upd;rw [if_pos rfl]
theorem aC {H:Hp} {a b:Addr} {o:HO} (h:b≠a):upd H a o b=H b:=by unfold upd;rw [if_neg h]
theorem aG {H:Hp} {a b:Addr} {o:HO} (h:H a=some o) (h':H b=none):a≠b:=by
 intro e;subst e;rw [h] at h';cases h'
section
variable (P:Program) (w:World)
noncomputable def bw (H:Hp) (h:Heap) (a:Addr):HO→Prop
 | .lst xs=>xs.length≤sizeLine∧∃ (its:List Value) (n:Nat),Vals xs its∧h.get? a=some { cls:=.type "list",data:=.seq its.toArray n }
 | .tup xs=>xs.length≤sizeLine∧∃ its:List Value,Vals xs its∧IsTup h a its.toArray
 | .dK kvs=>kvs.length≤sizeLine∧(a == sysModules)=false∧∃ vs,KV kvs vs∧h.DictOf (qE P w) a vs
 | .dT kvs=>kvs.length≤sizeLine∧(a == sysModules)=false∧∃ xs:List (List Key×Addr×Value),
   Paired (fun (p:List Key×V) (q:List Key×Addr×Value)=>p.1=q.1∧H q.2.1=some (.tup (p.1.map kV))∧RelV p.2 q.2.2) kvs xs ∧
   ∃ o es ep,h.get? a=some o∧o.ExactDict∧o.data=.dict es ep∧es.toList=xs.map (entryOfKey (tupleKind (qE P w)))∧(xs.map (·.1)).Nodup
 | .set S n=>h.SetOf (intKind P w) a S n
 | .ins C dx fs=>H dx=some (.own a)∧fs.length≤1000∧dx≠a∧h.get? a=some (PySem.W.instObj C dx) ∧
   ∃ mA,h.Ns1 dx mA∧(∀ f,Ah (fs.lookup f) (mA f))∧PySem.Within mA (fs.map (·.1))
 | .own _=>∃ o,h.get? a=some o
 | .xd fs=>∃ mA,h.Ns1 a mA∧∀ f,Ah (fs.lookup f) (mA f)
 | .rng lo hi=>∃ t u v,h.get? a=some { cls:=.type "range",data:=.fields #[.int lo t,.int hi u,.int 1 v] }
 | .frz o u=>h.get? a=some o∧bw H h a u
 | .tbl ps=>h.get? a=some { cls:=.none,data:=.fields ps }
 | .met f x=>h.get? a=some (PySem.W.methodObj (.ref f) (.ref x))
 | .ext φ=>φ h∧(∃ o,h.get? a=some o)∧∀ h1 h2:Heap,φ h1→(∀ o,h1.get? a=some o→h2.get? a=some o)→φ h2
noncomputable def HOk (H:Hp) (h:Heap):Prop:=∀ a o,H a=some o→bw P w H h a o
end
section
variable {P:Program} {w:World} {H H':Hp} {h h':Heap} {a:Addr} {o:HO}
theorem bw.lt (x:bw P w H h a o):a<h.objs.size:=by
 cases o with
 | lst xs=>obtain ⟨_,_,_,_,e⟩:=x;exact Heap.lt_size e
 | tup xs=>obtain ⟨_,_,_,p⟩:=x;exact p.lt
 | dK kvs=>obtain ⟨_,_,_,_,o,_,_,e,_⟩:=x;exact Heap.lt_size e
 | dT kvs=>obtain ⟨_,_,_,_,o,_,_,e,_⟩:=x;exact Heap.lt_size e
 | set S n=>obtain ⟨o,_,_,_,e,_⟩:=x;exact Heap.lt_size e
 | ins C dx fs=>obtain ⟨_,_,_,e,_⟩:=x;exact Heap.lt_size e
 | own y=>obtain ⟨_,e⟩:=x;exact Heap.lt_size e
 | xd fs=>obtain ⟨_,⟨_,_,_,e,_⟩,_⟩:=x;exact Heap.lt_size e
 | rng lo hi=>obtain ⟨_,_,_,e⟩:=x;exact Heap.lt_size e
 | frz ob u=>obtain ⟨e,_⟩:=x;exact Heap.lt_size e
 | tbl ps=>exact Heap.lt_size (show h.get? a=some _ from x)
 | met f y=>exact Heap.lt_size (show h.get? a=some _ from x)
 | ext φ=>obtain ⟨_,⟨_,e⟩,_⟩:=x;exact Heap.lt_size e
theorem Paired.Cu {α β:Type} {F G:α→β→Prop}:∀ {l₁:List α} {l₂:List β},Paired F l₁ l₂→(∀ a b,F a b→G a b)→Paired G l₁ l₂
 | _,_,.nil,_=>.nil
 | _,_,.cons r t,f=>.cons (f _ _ r) (Paired.Cu t f)
theorem bw.stay (x:bw P w H h a o) (k:∀ b u,(b=a∨H b=some (.own a))→h.get? b=some u→h'.get? b=some u)
  (ho:∀ b,H b=some (.own a)→H' b=some (.own a)) (ht:∀ b xs,H b=some (.tup xs)→H' b=some (.tup xs)):bw P w H' h' a o:=by
 induction o with
 | lst xs=>obtain ⟨z,its,n,r,e⟩:=x;exact ⟨z,its,n,r,k _ _ (.inl rfl) e⟩
 | tup xs=>obtain ⟨z,its,r,ob,e,c⟩:=x;exact ⟨z,its,r,ob,k _ _ (.inl rfl) e,c⟩
 | dK kvs=>obtain ⟨z,y,vs,r,ob,es,ep,e,c⟩:=x;exact ⟨z,y,vs,r,ob,es,ep,k _ _ (.inl rfl) e,c⟩
 | dT kvs=>
  obtain ⟨z,y,xs,r,ob,es,ep,e,c⟩:=x
  exact ⟨z,y,xs,Paired.Cu r fun p q z=>⟨z.1,ht _ _ z.2.1,z.2.2⟩,ob,es,ep,k _ _ (.inl rfl) e,c⟩
 | set S n=>obtain ⟨ob,es,ep,t,e,c⟩:=x;exact ⟨ob,es,ep,t,k _ _ (.inl rfl) e,c⟩
 | ins C dx fs=>
  obtain ⟨d,z,ne,e,mA,⟨od,es,ep,e2,c⟩,r⟩:=x
  exact ⟨ho _ d,z,ne,k _ _ (.inl rfl) e,mA,⟨od,es,ep,k _ _ (.inr d) e2,c⟩,r⟩
 | own y=>obtain ⟨ob,e⟩:=x;exact ⟨ob,k _ _ (.inl rfl) e⟩
 | xd fs=>obtain ⟨mA,⟨od,es,ep,e,c⟩,r⟩:=x;exact ⟨mA,⟨od,es,ep,k _ _ (.inl rfl) e,c⟩,r⟩
 | rng lo hi=>obtain ⟨t,u,v,e⟩:=x;exact ⟨t,u,v,k _ _ (.inl rfl) e⟩
 | frz ob u ih=>obtain ⟨e,q⟩:=x;exact ⟨k _ _ (.inl rfl) e,ih q⟩
 | tbl ps=>
  have e:h.get? a=some { cls:=.none,data:=.fields ps }:=x
  show h'.get? a=some { cls:=.none,data:=.fields ps }
  exact k a _ (.inl rfl) e
 | met f y=>
  have e:h.get? a=some (PySem.W.methodObj (.ref f) (.ref y)):=x
  show h'.get? a=some (PySem.W.methodObj (.ref f) (.ref y))
  exact k a _ (.inl rfl) e
 | ext φ=>obtain ⟨p,⟨o,e⟩,st⟩:=x;exact ⟨st _ _ p fun o q=>k _ _ (.inl rfl) q,⟨o,k _ _ (.inl rfl) e⟩,st⟩
theorem HOk.lt (x:HOk P w H h) (e:H a=some o):a<h.objs.size:=(x a o e).lt
theorem HOk.fresh (x:HOk P w H h) (e:h.objs.size≤a):H a=none:=by
 cases q:H a with
 | none=>rfl
 | some u=>exact absurd (Nat.lt_of_lt_of_le (x.lt q) e) (Nat.lt_irrefl _)
theorem HOk.kept (x:HOk P w H h) (k:∀ b u,h.get? b=some u→h'.get? b=some u):HOk P w H h':=fun a o e=>
 (x a o e).stay (fun b u _ q=>k b u q) (fun _ q=>q) fun _ _ q=>q
theorem HOk.laid (x:HOk P w H h) (k:∀ b u,h.get? b=some u→h'.get? b=some u) (hp:h.objs.size≤a) (new:bw P w (upd H a o) h' a o):HOk P w (upd H a o) h':=fun b u e=>by
 have hn:=x.fresh hp
 by_cases hb:b=a
 ·subst hb;rw [aD] at e;cases e;exact new
 ·rw [aC hb] at e
  exact (x b u e).stay (fun c v _ q=>k c v q) (fun c q=>by rw [aC (aG q hn)];exact q) fun c xs q=>by rw [aC (aG q hn)];exact q
end
noncomputable def Rd (H:Hp) (a:Addr) (u:HO):Prop:=H a=some u∨∃ o,H a=some (.frz o u)
theorem Rd.ok {P:Program} {w:World} {H:Hp} {h:Heap} {a:Addr} {u:HO} (r:Rd H a u) (x:HOk P w H h):bw P w H h a u:=by
 rcases r with r | ⟨o,r⟩
 ·exact x a u r
 ·obtain ⟨_,q⟩:=x a _ r
  exact q
noncomputable def Mut:Option HO→Prop
 | some (.lst _)=>True
 | some (.dK _)=>True
 | some (.dT _)=>True
 | some (.set _ _)=>True
 | some (.ins _ _ _)=>True
 | some (.ext _)=>True
 | _=>False
section
variable {P:Program} {w:World} {H:Hp} {h h':Heap} {x e:Addr} {o':HO}
theorem HOk.write (ok:HOk P w H h) (mu:Mut (H x)) (he:e=x∨H e=some (.own x)) (k:∀ b u,b≠e→h.get? b=some u→h'.get? b=some u) (heo:∃ u,h'.get? e=some u)
  (new:bw P w (upd H x o') h' x o'):HOk P w (upd H x o') h':=fun b u q=>by
 have Cv:∀ c y,H c=some (.own y)→c≠x:=fun c y r z=>by subst z;rw [r] at mu;exact mu
 have E4:∀ c xs,H c=some (.tup xs)→c≠x:=fun c xs r z=>by subst z;rw [r] at mu;exact mu
 by_cases hb:b=x
 ·subst hb;rw [aD] at q;cases q;exact new
 ·rw [aC hb] at q
  by_cases hbe:b=e
  ·have q':H b=some (.own x):=by
    rcases he with z | z
    ·exact absurd (hbe.trans z) hb
    ·rw [hbe];exact z
   rw [q] at q';cases q'
   obtain ⟨v,hv⟩:=heo
   exact ⟨v,by rw [hbe];exact hv⟩
  ·refine (ok b u q).stay (fun c v hc r=>k c v ?_ r) (fun c r=>by rw [aC (Cv c b r)];exact r) fun c xs r=>by rw [aC (E4 c xs r)];exact r
   rcases hc with rfl | hc
   ·exact hbe
   ·rintro rfl
    rcases he with z | z
    ·exact Cv c b hc z
    ·rw [hc] at z;cases z;exact hb rfl
end
structure Un (fs ex:List Addr) (H H':Hp) (h h':Heap):Prop where
 keep:∀ b o,h.get? b=some o→H b=none→b∉fs→b∉ex→h'.get? b=some o
 slot:∀ b o,h.get? b=some o→H b=none→b∈fs→b∉ex→∃ sl,h'.get? b=some { o with slots:=sl }
 free:∀ b o,h.get? b=some o→H b=none→b∉ex→H' b=none
 there:∀ b o,h.get? b=some o→b∉ex→∃ o',h'.get? b=some o'
 tups:∀ b xs,H b=some (.tup xs)→H' b=some (.tup xs)
 kW:∀ b o u,H b=some (.frz o u)→H' b=some (.frz o u)
 mJ:∀ b ps,H b=some (.tbl ps)→∃ more,H' b=some (.tbl (ps++more))
section
variable {fs fs' ex ex':List Addr} {H H1 H2:Hp} {h h1 h2 h':Heap} {a x e:Addr} {o:HO}
theorem Un.any (u:Un fs ex H H1 h h1) {b:Addr} {ob:Obj} (q:h.get? b=some ob) (n:H b=none) (hx:b∉ex):∃ sl,h1.get? b=some { ob with slots:=sl }:=by
 by_cases hb:b∈fs
 ·exact u.slot b ob q n hb hx
 ·exact ⟨ob.slots,u.keep b ob q n hb hx⟩
theorem Un.kept (k:∀ b u,h.get? b=some u→h'.get? b=some u):Un fs ex H H h h':=
 ⟨fun b ob q _ _ _=>k b ob q,fun b ob q _ _ _=>⟨ob.slots,k b ob q⟩,fun _ _ _ n _=>n,fun b ob q _=>⟨ob,k b ob q⟩,fun _ _ q=>q,fun _ _ _ q=>q,fun _ ps q=>⟨#[],by rw [q];simp⟩⟩
theorem Un.refl:Un fs ex H H h h:=Un.kept fun _ _ q=>q
theorem Un.laid (k:∀ b u,h.get? b=some u→h'.get? b=some u) (hp:h.objs.size≤a) (hn:H a=none):Un fs ex H (upd H a o) h h' where
 keep:=fun b u q _ _ _=>k b u q
 slot:=fun b u q _ _ _=>⟨u.slots,k b u q⟩
 free:=fun b u q n _=>by rw [aC (Nat.ne_of_lt (Nat.lt_of_lt_of_le (Heap.lt_size q) hp))];exact n
 there:=fun b u q _=>⟨u,k b u q⟩
 tups:=fun b xs q=>by rw [aC (aG q hn)];exact q
 kW:=fun b u xs q=>by rw [aC (aG q hn)];exact q
 mJ:=fun b ps q=>⟨#[],by rw [aC (aG q hn),q];simp⟩
theorem Un.write (mu:Mut (H x)) (he:e=x∨H e=some (.own x)) (k:∀ b u,b≠e→h.get? b=some u→h'.get? b=some u) (heo:∃ u,h'.get? e=some u):Un fs ex H (upd H x o) h h':=by
 have hx:∀ b,H b=none→b≠x:=fun b n z=>by subst z;rw [n] at mu;exact mu
 have hb:∀ b,H b=none→b≠e:=fun b n z=>by
  subst z
  rcases he with r | r
  ·exact hx b n r
  ·rw [n] at r;cases r
 have hm:∀ b u,H b=some u→¬ Mut (some u)→b≠x:=fun b u q nm z=>by subst z;rw [q] at mu;exact nm mu
 refine ⟨fun b u q n _ _=>k b u (hb b n) q,fun b u q n _ _=>⟨u.slots,k b u (hb b n) q⟩,fun b u q n _=>by rw [aC (hx b n)];exact n,fun b u q _=>?_,
  fun b xs q=>by rw [aC (hm b _ q fun z=>z)];exact q,fun b u xs q=>by rw [aC (hm b _ q fun z=>z)];exact q,fun b ps q=>⟨#[],by rw [aC (hm b _ q fun z=>z),q];simp⟩⟩
 by_cases hbe:b=e
 ·subst hbe;exact heo
 ·exact ⟨u,k b u hbe q⟩
end
noncomputable def trk (h:Heap) (H:Hp):List Addr:=(List.range h.objs.size).filter fun a=>(H a).isSome
noncomputable def kX (h:Heap) (H:Hp):Heap:=PySem.W.hideAll h (trk h H)
theorem se (h:Heap) (H:Hp):(kX h H).objs.size=h.objs.size:=PySem.W.hideAll_size _ _
theorem uh {h:Heap} {H:Hp} {b:Addr} {o:Obj} (e:h.get? b=some o) (n:H b=none):(kX h H).get? b=some o:=
 PySem.W.hideAll_get _ e fun hm=>by
  have q:(H b).isSome=true:=(List.mem_filter.mp hm).2
  rw [n] at q;simp at q
theorem xM {h:Heap} {H:Hp} {b:Addr} {o:Obj} (e:(kX h H).get? b=some o):h.get? b=some o∧H b=none:=by
 have e':h.get? b=some o:=PySem.W.of_hideAll (trk h H) e
 refine ⟨e',?_⟩
 cases q:H b with
 | none=>rfl
 | some x=>
  have hm:b∈trk h H:=List.mem_filter.mpr ⟨List.mem_range.mpr (Heap.lt_size e'),by simp [q]⟩
  have z:(kX h H).get? b=none:=PySem.W.hideAll_none (trk h H) hm
  rw [z] at e;cases e
structure Mod (K:PySem.W.Frag) (mg:Str→Option Value) (base:Heap):Prop where
 kin:K.In base
 glob:base.Ns mainGlobals mg
 blt:∃ mb,base.Ns builtinsNs mb∧∀ x:Str,x ≠ "__name__" → mb x=bootBuiltins x
 nolimit:base.NoLimit
structure Cx where
 prog:Program
 w:World
 K:PySem.W.Frag
 mg:Str→Option Value
 base:Heap
 A:Around
 N:List Str
 s₀:Shared
 H₀:Hp
 env:Env
 outer:List Env
 stack:List Env
 ex:List Addr
 fn:Str→Bool
 calm:Bool
 pn:List (Addr×Obj)
 xe:Value→Shared→Prop
noncomputable def frs (l:List Env):List Addr:=l.filterMap (·.frame)
noncomputable abbrev Cx.fs (X:Cx):List Addr:=frs X.outer
noncomputable def Vis (sc:Scope) (x:Str):Prop:=sc.names.lookup x=some .local∨sc.names.lookup x=some .cell∨sc.names.lookup x=some .free
noncomputable def Loc (sc:Scope) (x:Str):Prop:=sc.names.lookup x=some .local∨sc.names.lookup x=some .cell
noncomputable def Look (env:Env) (h:Heap) (m:Str→Option Value) (x:Str) (u:Value):Prop:=
 (env.kindOf x=some .local∧m x=some u)∨((env.kindOf x=some .cell∨env.kindOf x=some .free)∧∃ c,env.cells.lookup x=some c∧h.IsCell c (some u))
structure Cx.Ok (X:Cx):Prop where
 mod:Mod X.K X.mg X.base
 kind:X.env.scope.kind=.function
 glob:X.env.globals=mainGlobals
 blt:X.env.builtins=builtinsNs
 above:X.s₀.heap.objs.size≤X.env.locals
 inj:∀ x y c,X.env.cells.lookup x=some c→X.env.cells.lookup y=some c→x=y
 has:∀ x,(X.env.kindOf x=some .cell∨X.env.kindOf x=some .free)→∃ c,X.env.cells.lookup x=some c
 cab:∀ x c,X.fn x=true→X.env.cells.lookup x=some c→X.s₀.heap.objs.size≤c
 hd:X.calm=true→X.A.handled=none
 frames:X.A.frames=some X.stack
 stk:X.stack=X.outer∨(X.stack=X.env::X.outer∧X.env.frame=some X.env.locals)
 exf:∀ b∈X.ex,b≠X.env.locals∧∀ x c,X.env.cells.lookup x=some c→c≠b
 bs:∀ b o,X.base.get? b=some o→X.s₀.heap.get? b=some o∧X.H₀ b=none
 bsz:X.base.objs.size≤X.s₀.heap.objs.size
 um:∀ b o,X.base.get? b=some o→b∉X.ex
 xN:∀ b∈X.ex,b∉X.fs
 iu:X.s₀.heap.FunFrames X.base X.outer
 frf:∀ b∈X.fs,X.H₀ b=none
structure Inv (X:Cx) (pins:List (Addr×Obj)) (σ:List (Option V)) (H:Hp) (s:Shared):Prop where
 ok:X.Ok
 os:s.os=X.s₀.os
 bare:AllBare s.gens
 base:Un X.fs X.ex X.H₀ H X.s₀.heap s.heap
 loc:∃ m,s.heap.Ns X.env.locals m∧∀ (i:Nat) (x:Str) (v:V),X.N[i]?=some x→σ[i]?=some (some v)→Vis X.env.scope x→∃ u,RelV v u∧Look X.env s.heap m x u
 cell:∀ x c,X.env.cells.lookup x=some c→∃ v,s.heap.IsCell c v
 free:H X.env.locals=none
 eW:∀ x c,X.env.cells.lookup x=some c→H c=none
 pin:∀ p∈X.pn++pins,s.heap.get? p.1=some p.2∧H p.1=none∧p.1≠X.env.locals∧p.1∉X.fs∧∀ v,p.2.data≠.cell v
 hok:HOk X.prog X.w H s.heap
 len:σ.length=X.N.length
section
variable {X:Cx} {pins:List (Addr×Obj)} {σ:List (Option V)} {H H':Hp} {s:Shared} {h':Heap}
theorem Cx.Ok.E5 (ok:X.Ok) {b:Addr} {o:Obj} (e:X.base.get? b=some o):b∉X.fs:=fun hb=>by
 have:=(ok.iu.mem hb).1
 rw [e] at this;cases this
theorem Inv.bs (I:Inv X pins σ H s):∀ b o,X.base.get? b=some o→s.heap.get? b=some o∧H b=none:=fun b o e=>
 ⟨I.base.keep b o (I.ok.bs b o e).1 (I.ok.bs b o e).2 (I.ok.E5 e) (I.ok.um b o e),I.base.free b o (I.ok.bs b o e).1 (I.ok.bs b o e).2 (I.ok.um b o e)⟩
theorem Inv.bk (I:Inv X pins σ H s):∀ b o,X.base.get? b=some o→s.heap.get? b=some o:=fun b o e=>(I.bs b o e).1
theorem Inv.mod (I:Inv X pins σ H s):Mod X.K X.mg X.base:=I.ok.mod
theorem Inv.kIn (I:Inv X pins σ H s):X.K.In s.heap:=I.ok.mod.kin.keeps I.bk
theorem Inv.lt (I:Inv X pins σ H s):X.env.locals<s.heap.objs.size:=let ⟨_,hn,_⟩:=I.loc;hn.lt
theorem Inv.sz (I:Inv X pins σ H s):X.s₀.heap.objs.size≤s.heap.objs.size:=Nat.le_trans I.ok.above (Nat.le_of_lt I.lt)
theorem Inv.E6 (I:Inv X pins σ H s) {a:Addr} (h:s.heap.objs.size≤a):a∉X.fs:=fun hb=>by
 obtain ⟨_,o,ho,_⟩:=I.ok.iu.mem hb
 exact absurd (Nat.lt_of_lt_of_le (Heap.lt_size ho) (Nat.le_trans I.sz h)) (Nat.lt_irrefl _)
theorem Inv.cne (I:Inv X pins σ H s):∀ x c,X.env.cells.lookup x=some c→c≠X.env.locals:=fun x c e z=>by
 obtain ⟨v,o,ho,hd⟩:=I.cell x c e
 obtain ⟨m,⟨o',es,ep,ho',hd',_⟩,_⟩:=I.loc
 rw [z,ho'] at ho;cases ho;rw [hd'] at hd;cases hd
theorem Inv.iu (I:Inv X pins σ H s):s.heap.FunFrames X.base X.outer:=by
 have all:∀ (l:List Env),(∀ b∈frs l,b∈X.fs)→X.s₀.heap.FunFrames X.base l→s.heap.FunFrames X.base l:=by
  intro l
  induction l with
  | nil=>intro _ _;trivial
  | cons env r ih=>
   intro hs hl
   obtain ⟨hk,⟨L,o,hf,hn,ho,hd⟩,hr⟩:=hl
   have hL:L∈X.fs:=hs L (by unfold frs;rw [List.filterMap_cons,hf];exact List.mem_cons_self)
   obtain ⟨sl,e⟩:=I.base.slot L o ho (I.ok.frf L hL) hL fun z=>I.ok.xN L z hL
   exact ⟨hk,⟨L,_,hf,hn,e,hd⟩,ih (fun b hb=>hs b (by unfold frs;rw [List.filterMap_cons,hf];exact List.mem_cons_of_mem _ hb)) hr⟩
 exact all X.outer (fun _ hb=>hb) I.ok.iu
theorem Inv.stack (I:Inv X pins σ H s):s.heap.FunFrames X.base X.stack:=by
 rcases I.ok.stk with e | ⟨e,hf⟩
 ·rw [e];exact I.iu
 ·rw [e]
  obtain ⟨m,hn,_⟩:=I.loc
  refine .cons (by rw [I.ok.kind];decide) hf hn ?_ I.iu
  exact Heap.get?_none_of_le (Nat.le_trans I.ok.bsz I.ok.above)
theorem Inv.pe (I:Inv X pins σ H s):∀ b∈frs X.stack,b∈X.env.locals::X.fs:=fun b hb=>by
 rcases I.ok.stk with e | ⟨e,hf⟩
 ·rw [e] at hb;exact List.mem_cons_of_mem _ hb
 ·rw [e] at hb
  unfold frs at hb
  rw [List.filterMap_cons,hf] at hb
  exact hb
theorem Inv.qF (I:Inv X pins σ H s):∀ b∈frs X.stack,H b=none:=fun b hb=>by
 rcases List.mem_cons.mp (I.pe b hb) with e | hb
 ·rw [e];exact I.free
 ·obtain ⟨_,o,ho,_⟩:=I.ok.iu.mem hb
  exact I.base.free b o ho (I.ok.frf b hb) fun z=>I.ok.xN b z hb
theorem Inv.step {g':Array GenState} {t':Nat} {d':Drawn} {ch:List Addr} (I:Inv X pins σ H s)
  (hch:∀ b∈ch,(b∈X.ex∨X.s₀.heap.objs.size≤b)∧b≠X.env.locals∧(∀ x c,X.env.cells.lookup x=some c→c≠b)∧∀ p∈X.pn++pins,p.1≠b)
  (keep:∀ b o,b≠X.env.locals→b∉X.fs→b∉ch→s.heap.get? b=some o→H b=none→h'.get? b=some o)
  (slot:∀ b o,b≠X.env.locals→b∈X.fs→b∉ch→s.heap.get? b=some o→H b=none→∃ sl,h'.get? b=some { o with slots:=sl }) (free:∀ b o,b∉ch→s.heap.get? b=some o→H b=none→H' b=none)
  (there:∀ b o,b∉ch→s.heap.get? b=some o→∃ o',h'.get? b=some o')
  (tups:∀ b xs,H b=some (.tup xs)→H' b=some (.tup xs)) (kW:∀ b o u,H b=some (.frz o u)→H' b=some (.frz o u)) (mJ:∀ b ps,H b=some (.tbl ps)→∃ more,H' b=some (.tbl (ps++more)))
  (ns:∀ m,s.heap.Ns X.env.locals m→h'.Ns X.env.locals m) (hok:HOk X.prog X.w H' h') (hg:AllBare g') :
  Inv X pins σ H' { s with heap:=h',gens:=g',drawn:=d',toks:=t' }:=by
 have neL:∀ b o,X.s₀.heap.get? b=some o→b≠X.env.locals:=fun b o e=>Nat.ne_of_lt (Nat.lt_of_lt_of_le (Heap.lt_size e) I.ok.above)
 have neC:∀ b o,X.s₀.heap.get? b=some o→b∉X.ex→b∉ch:=fun b o e hx hb=>by
  rcases (hch b hb).1 with z | z
  ·exact hx z
  ·exact absurd (Nat.lt_of_lt_of_le (Heap.lt_size e) z) (Nat.lt_irrefl _)
 have cellK:∀ x c,X.env.cells.lookup x=some c→∀ v,s.heap.IsCell c v→h'.IsCell c v:=fun x c e v ⟨o,ho,hd⟩=>by
  have nch:c∉ch:=fun z=>(hch c z).2.2.1 x c e rfl
  by_cases hc:c∈X.fs
  ·obtain ⟨sl,q⟩:=slot c o (I.cne x c e) hc nch ho (I.eW x c e)
   exact ⟨_,q,hd⟩
  ·exact ⟨o,keep c o (I.cne x c e) hc nch ho (I.eW x c e),hd⟩
 refine ⟨I.ok,I.os,hg,⟨fun b o e n hb hx=>?_,fun b o e n hb hx=>?_,fun b o e n hx=>?_,fun b o e hx=>?_,fun b xs e=>tups b xs (I.base.tups b xs e),fun b o xs e=>kW b o xs (I.base.kW b o xs e),fun b ps e=>?_⟩,?_,fun x c e=>?_,?_,fun x c e=>?_,fun p hp=>?_,hok,I.len⟩
 ·exact keep b o (neL b o e) hb (neC b o e hx) (I.base.keep b o e n hb hx) (I.base.free b o e n hx)
 ·obtain ⟨sl,e1⟩:=I.base.slot b o e n hb hx
  obtain ⟨sl',e2⟩:=slot b _ (neL b o e) hb (neC b o e hx) e1 (I.base.free b o e n hx)
  exact ⟨sl',e2⟩
 ·obtain ⟨o',e1⟩:=I.base.there b o e hx
  exact free b o' (neC b o e hx) e1 (I.base.free b o e n hx)
 ·obtain ⟨o',e1⟩:=I.base.there b o e hx
  exact there b o' (neC b o e hx) e1
 ·obtain ⟨m1,e1⟩:=I.base.mJ b ps e
  obtain ⟨m2,e2⟩:=mJ b _ e1
  exact ⟨m1++m2,by rw [e2,Array.append_assoc]⟩
 ·obtain ⟨m,hn,hl⟩:=I.loc
  refine ⟨m,ns m hn,fun i x v e1 e2 e3=>?_⟩
  obtain ⟨u,r,l⟩:=hl i x v e1 e2 e3
  refine ⟨u,r,?_⟩
  rcases l with l | ⟨k,c,e,z⟩
  ·exact .inl l
  ·exact .inr ⟨k,c,e,cellK x c e _ z⟩
 ·obtain ⟨v,z⟩:=I.cell x c e
  exact ⟨v,cellK x c e v z⟩
 ·obtain ⟨m,⟨o,_,_,ho,_⟩,_⟩:=I.loc
  exact free _ o (fun z=>(hch _ z).2.1 rfl) ho I.free
 ·obtain ⟨v,o,ho,hd⟩:=I.cell x c e
  exact free c o (fun z=>(hch c z).2.2.1 x c e rfl) ho (I.eW x c e)
 ·obtain ⟨e,n,ne,nf,d⟩:=I.pin p hp
  have nch:p.1∉ch:=fun z=>(hch p.1 z).2.2.2 p hp rfl
  exact ⟨keep p.1 p.2 ne nf nch e n,free p.1 p.2 nch e n,ne,nf,d⟩
theorem Inv.un {t':Nat} (I:Inv X pins σ H s) (u:Un X.fs [] H H' s.heap h') (hok:HOk X.prog X.w H' h'):Inv X pins σ H' { s with heap:=h',toks:=t' }:=by
 obtain ⟨m,⟨o,es,ep,ho,r⟩,_⟩:=id I.loc
 obtain ⟨sl,hL⟩:=u.any ho I.free (by simp)
 exact I.step (g':=s.gens) (d':=s.drawn) (ch:=[]) (fun _ z=>nomatch z) (fun b o _ hb _ e n=>u.keep b o e n hb (by simp)) (fun b o _ hb _ e n=>u.slot b o e n hb (by simp)) (fun b o _ e n=>u.free b o e n (by simp)) (fun b o _ e=>u.there b o e (by simp)) u.tups u.kW u.mJ (fun m' hm=>by
  obtain ⟨o',es',ep',ho',r'⟩:=hm
  rw [ho] at ho';cases ho'
  exact ⟨_,es',ep',hL,r'⟩) hok I.bare
theorem Inv.call {g':Array GenState} {t':Nat} {d':Drawn} {ch:List Addr} (I:Inv X pins σ H s) (u:Un (frs X.stack) ch H H' s.heap h') (hok:HOk X.prog X.w H' h') (hg:AllBare g')
  (hch:∀ b∈ch,(b∈X.ex∨X.s₀.heap.objs.size≤b)∧b≠X.env.locals∧(∀ x c,X.env.cells.lookup x=some c→c≠b)∧∀ p∈X.pn++pins,p.1≠b) :
  Inv X pins σ H' { s with heap:=h',gens:=g',drawn:=d',toks:=t' }:=by
 obtain ⟨m,⟨o,es,ep,ho,r⟩,_⟩:=id I.loc
 obtain ⟨sl,hL⟩:=u.any ho I.free fun z=>(hch _ z).2.1 rfl
 exact I.step (ch:=ch) hch (fun b o hL hb hc e n=>u.keep b o e n (fun z=>(List.mem_cons.mp (I.pe b z)).elim hL hb) hc) (fun b o _ _ hc e n=>u.any e n hc) (fun b o hc e n=>u.free b o e n hc) (fun b o hc e=>u.there b o e hc) u.tups u.kW u.mJ (fun m' hm=>by
  obtain ⟨o',es',ep',ho',r'⟩:=hm
  rw [ho] at ho';cases ho'
  exact ⟨_,es',ep',hL,r'⟩) hok hg
theorem Inv.turned {t':Nat} {it:Addr} (I:Inv X pins σ H s) (k:∀ b o,b≠it→s.heap.get? b=some o→h'.get? b=some o) (hn:H it=none) (hL:it≠X.env.locals)
  (h1:it∈X.ex∨X.s₀.heap.objs.size≤it) (h2:∀ x c,X.env.cells.lookup x=some c→c≠it) (h3:∀ p∈X.pn++pins,p.1≠it):Inv X pins σ H { s with heap:=h',toks:=t' }:=by
 have nit:∀ b u,H b=some u→b≠it:=fun b u e z=>by rw [z,hn] at e;cases e
 refine I.step (g':=s.gens) (d':=s.drawn) (ch:=[it]) (fun b hb=>?_) (fun b o _ _ hc e _=>k b o (fun z=>hc (by simp [z])) e) (fun b o _ _ hc e _=>⟨o.slots,k b o (fun z=>hc (by simp [z])) e⟩) (fun _ _ _ _ n=>n)
  (fun b o hc e=>⟨o,k b o (fun z=>hc (by simp [z])) e⟩) (fun _ _ e=>e) (fun _ _ _ e=>e) (fun b ps e=>⟨#[],by rw [e];simp⟩) (fun m hm=>?_) (fun b u e=>?_) I.bare
 ·have e:b=it:=by simpa using hb
  subst e
  exact ⟨h1,hL,h2,h3⟩
 ·obtain ⟨o,es,ep,ho,r⟩:=hm
  exact ⟨o,es,ep,k _ o (Ne.symm hL) ho,r⟩
 ·refine (I.hok b u e).stay (fun c v hc q=>k c v ?_ q) (fun _ q=>q) fun _ _ q=>q
  rcases hc with z | z
  ·rw [z];exact nit b u e
  ·exact nit c _ z
theorem Inv.tok (I:Inv X pins σ H s) (t:Nat):Inv X pins σ H { s with toks:=t }:=I.un (h':=s.heap) (t':=t) Un.refl I.hok
theorem Inv.kept {t':Nat} (I:Inv X pins σ H s) (k:∀ b u,s.heap.get? b=some u→h'.get? b=some u):Inv X pins σ H { s with heap:=h',toks:=t' }:=I.un (Un.kept k) (I.hok.kept k)
theorem Inv.laid {a:Addr} {o:HO} {t':Nat} (I:Inv X pins σ H s) (k:∀ b u,s.heap.get? b=some u→h'.get? b=some u) (hp:s.heap.objs.size≤a) (new:bw X.prog X.w (upd H a o) h' a o) :
  Inv X pins σ (upd H a o) { s with heap:=h',toks:=t' }:=I.un (Un.laid k hp (I.hok.fresh hp)) (I.hok.laid k hp new)
theorem Inv.write {x e:Addr} {o:HO} {t':Nat} (I:Inv X pins σ H s) (mu:Mut (H x)) (he:e=x∨H e=some (.own x)) (k:∀ b u,b≠e→s.heap.get? b=some u→h'.get? b=some u) (heo:∃ u,h'.get? e=some u)
  (new:bw X.prog X.w (upd H x o) h' x o):Inv X pins σ (upd H x o) { s with heap:=h',toks:=t' }:=I.un (Un.write mu he k heo) (I.hok.write mu he k heo new)
theorem Inv.qG {zh:List (Addr×Obj)} (I:Inv X pins σ H s) (h:∀ p∈zh,s.heap.get? p.1=some p.2∧H p.1=none∧p.1≠X.env.locals∧p.1∉X.fs∧∀ v,p.2.data≠.cell v):Inv X zh σ H s:=
 ⟨I.ok,I.os,I.bare,I.base,I.loc,I.cell,I.free,I.eW,fun p hp=>(List.mem_append.mp hp).elim (fun z=>I.pin p (List.mem_append_left _ z)) (h p),I.hok,I.len⟩
theorem mK {N:List Str} (hN:N.Nodup) {i j:Nat} {x:Str} (a:N[i]?=some x) (b:N[j]?=some x):i=j:=by
 obtain ⟨h1,e1⟩:=List.getElem?_eq_some_iff.mp a
 obtain ⟨h2,e2⟩:=List.getElem?_eq_some_iff.mp b
 exact (List.getElem_inj hN).mp (e1.trans e2.symm)
theorem kg {M:Model} {A:Around} {E:Value→Shared→Prop} {i:Nat} {x:Str} {v:V} {u:Value} {Q:Unit→Shared→Prop} (I:Inv X pins σ H s) (hN:X.N.Nodup) (hi:X.N[i]?=some x) (hx:Loc X.env.scope x) (r:RelV v u)
  (h:∀ s',Inv X pins (σ.set i (some v)) H s'→(∃ a,Heap.SameBut a s.heap s'.heap∧(a=X.env.locals∨X.env.cells.lookup x=some a))→Q () s') (hf:X.fn x=true∨X.env.scope.names.lookup x=some .local:=by first | exact .inl rfl | exact .inr rfl | assumption):wpAny M A (storeName X.env x u) Q E s:=by
 obtain ⟨m,hn,hl⟩:=id I.loc
 have hcls:(X.env.scope.kind == .class||(X.env.scope.kind == .module&&X.env.locals != X.env.globals))=false:=by rw [I.ok.kind];rfl
 have hiσ:i<σ.length:=by rw [I.len];exact (List.getElem?_eq_some_iff.mp hi).1
 have cne:=I.cne
 have tracked:∀ {a:Addr} {h':Heap},(∃ o,s.heap.get? a=some o∧H a=none)→Heap.SameBut a s.heap h'→HOk X.prog X.w H h':=fun {a h'} ha hs b ob e=>by
  obtain ⟨_,_,hfree⟩:=ha
  refine (I.hok b ob e).stay (fun c w' hc q=>(hs.2 c ?_).trans q) (fun _ q=>q) fun _ _ q=>q
  rintro rfl
  rcases hc with rfl | hc
  ·rw [hfree] at e;cases e
  ·rw [hfree] at hc;cases hc
 rcases hx with hk | hk
 ·refine wpAny_storeName_local hk hn (fun h' hn' hs=>?_) hcls
  obtain ⟨oL,_,_,hoL,_⟩:=id hn
  refine h _ ⟨I.ok,I.os,I.bare,⟨fun b o e n hb hx=>?_,fun b o e n hb hx=>?_,I.base.free,fun b o e hx=>?_,I.base.tups,I.base.kW,I.base.mJ⟩,⟨_,hn',fun j y v' e1 e2 e3=>?_⟩,fun y c e=>?_,I.free,I.eW,fun p hp=>?_,tracked ⟨oL,hoL,I.free⟩ hs,by simpa using I.len⟩ ⟨_,hs,.inl rfl⟩
  ·exact (hs.2 b (Nat.ne_of_lt (Nat.lt_of_lt_of_le (Heap.lt_size e) I.ok.above))).trans (I.base.keep b o e n hb hx)
  ·obtain ⟨sl,e1⟩:=I.base.slot b o e n hb hx
   exact ⟨sl,(hs.2 b (Nat.ne_of_lt (Nat.lt_of_lt_of_le (Heap.lt_size e) I.ok.above))).trans e1⟩
  ·obtain ⟨o',e1⟩:=I.base.there b o e hx
   exact ⟨o',(hs.2 b (Nat.ne_of_lt (Nat.lt_of_lt_of_le (Heap.lt_size e) I.ok.above))).trans e1⟩
  ·by_cases hj:j=i
   ·subst hj
    rw [hi] at e1;cases e1
    rw [List.getElem?_set_self hiσ] at e2
    cases e2
    exact ⟨u,r,.inl ⟨hk,by simp⟩⟩
   ·rw [List.getElem?_set_ne (Ne.symm hj)] at e2
    obtain ⟨u',r',q⟩:=hl j y v' e1 e2 e3
    refine ⟨u',r',?_⟩
    rcases q with ⟨k,e⟩ | ⟨k,c,e,z⟩
    ·refine .inl ⟨k,?_⟩
     have:y≠x:=fun e=>hj (mK hN e1 (e▸hi))
     simp [this,e]
    ·exact .inr ⟨k,c,e,z.sameBut hs (cne y c e)⟩
  ·obtain ⟨w',z⟩:=I.cell y c e
   exact ⟨w',z.sameBut hs (cne y c e)⟩
  ·obtain ⟨e,n,ne,nf,d⟩:=I.pin p hp
   exact ⟨(hs.2 p.1 ne).trans e,n,ne,nf,d⟩
 ·have hfn:X.fn x=true:=by
   rcases hf with z | z
   ·exact z
   ·rw [z] at hk;cases hk
  obtain ⟨c,hc⟩:=I.ok.has x (.inl hk)
  obtain ⟨w',z⟩:=I.cell x c hc
  refine wpAny_storeName_cell I.ok.kind hk hc z (fun h' hc' hs=>?_)
  obtain ⟨oc,hoc,E7⟩:=id z
  refine h { s with heap:=h' } ⟨I.ok,I.os,I.bare,⟨fun b o e n hb hx=>?_,fun b o e n hb hx=>?_,I.base.free,fun b o e hx=>?_,I.base.tups,I.base.kW,I.base.mJ⟩,⟨m,hn.sameBut hs (Ne.symm (cne x c hc)),fun j y v' e1 e2 e3=>?_⟩,fun y c' e=>?_,I.free,I.eW,fun p hp=>?_,tracked ⟨oc,hoc,I.eW x c hc⟩ hs,by simpa using I.len⟩ ⟨c,hs,.inr hc⟩
  ·exact (hs.2 b (Nat.ne_of_lt (Nat.lt_of_lt_of_le (Heap.lt_size e) (I.ok.cab x c hfn hc)))).trans (I.base.keep b o e n hb hx)
  ·obtain ⟨sl,e1⟩:=I.base.slot b o e n hb hx
   exact ⟨sl,(hs.2 b (Nat.ne_of_lt (Nat.lt_of_lt_of_le (Heap.lt_size e) (I.ok.cab x c hfn hc)))).trans e1⟩
  ·obtain ⟨o',e1⟩:=I.base.there b o e hx
   exact ⟨o',(hs.2 b (Nat.ne_of_lt (Nat.lt_of_lt_of_le (Heap.lt_size e) (I.ok.cab x c hfn hc)))).trans e1⟩
  ·by_cases hj:j=i
   ·subst hj
    rw [hi] at e1;cases e1
    rw [List.getElem?_set_self hiσ] at e2
    cases e2
    exact ⟨u,r,.inr ⟨.inl hk,c,hc,hc'⟩⟩
   ·rw [List.getElem?_set_ne (Ne.symm hj)] at e2
    obtain ⟨u',r',q⟩:=hl j y v' e1 e2 e3
    refine ⟨u',r',?_⟩
    rcases q with q | ⟨k,c',e,z'⟩
    ·exact .inl q
    ·refine .inr ⟨k,c',e,z'.sameBut hs ?_⟩
     rintro rfl
     exact hj (mK hN e1 (I.ok.inj _ _ _ e hc▸hi))
  ·by_cases hcc:c'=c
   ·subst hcc;exact ⟨_,hc'⟩
   ·obtain ⟨w2,z2⟩:=I.cell y c' e
    exact ⟨w2,z2.sameBut hs hcc⟩
  ·obtain ⟨e,n,ne,nf,d⟩:=I.pin p hp
   refine ⟨(hs.2 p.1 ?_).trans e,n,ne,nf,d⟩
   intro q
   rw [q,hoc] at e
   have q':oc=p.2:=Option.some.inj e
   exact d w' (by rw [← q'];exact E7)
theorem mL {M:Model} {A:Around} {E:Value→Shared→Prop} {i:Nat} {x:Str} {v:V} {u:Value} {Q:Unit→Shared→Prop} (I:Inv X pins σ H s) (hN:X.N.Nodup) (hi:X.N[i]?=some x) (hx:Loc X.env.scope x) (r:RelV v u)
  (h:∀ s',Inv X pins (σ.set i (some v)) H s'→Q () s') (hf:X.fn x=true∨X.env.scope.names.lookup x=some .local:=by first | exact .inl rfl | exact .inr rfl | assumption):wpAny M A (storeName X.env x u) Q E s:=
 kg I hN hi hx r (fun s' I' _=>h s' I') hf
theorem Inv.Cw {s':Shared} {ch:List Addr} (I:Inv X pins σ H s) (ho:s'.os=s.os) (u:Un (frs X.stack) ch H H' s.heap s'.heap) (hok:HOk X.prog X.w H' s'.heap) (hg:AllBare s'.gens)
  (hch:∀ b∈ch,(b∈X.ex∨X.s₀.heap.objs.size≤b)∧b≠X.env.locals∧(∀ x c,X.env.cells.lookup x=some c→c≠b)∧∀ p∈X.pn++pins,p.1≠b):Inv X pins σ H' s':=by
 obtain ⟨h',g',d',t',o'⟩:=s'
 have e:o'=s.os:=ho
 subst e
 exact I.call (g':=g') (t':=t') (d':=d') u hok hg hch
end
noncomputable abbrev XK:=Value→Option Addr→Hp→Prop
noncomputable abbrev St:=List (Option V)
noncomputable abbrev VK:=V→Hp→Prop
noncomputable abbrev TE:=St→Hp→VK→Prop
noncomputable abbrev TT:=St→Hp→(Bool→Hp→Prop)→Prop
noncomputable abbrev TA:=St→Hp→(List V→Hp→Prop)→Prop
structure Ends where
 nx:St→Hp→Prop
 rt:VK
 bk:St→Hp→Prop:=fun _ _=>False
 ct:St→Hp→Prop:=fun _ _=>False
noncomputable abbrev TS:=Ends→St→Hp→Prop
noncomputable def EP (X:Cx) (pins:List (Addr×Obj)) (σ:St) (Q:VK) (u:Value) (s':Shared):Prop:=∃ v H',Inv X pins σ H' s'∧RelV v u∧Q v H'
noncomputable def TP (X:Cx) (pins:List (Addr×Obj)) (σ:St) (Q:Bool→Hp→Prop) (b:Bool) (s':Shared):Prop:=∃ H',Inv X pins σ H' s'∧Q b H'
noncomputable def AP (X:Cx) (pins:List (Addr×Obj)) (σ:St) (Q:List V→Hp→Prop) (us:List Value) (s':Shared):Prop:=∃ vs H',Inv X pins σ H' s'∧Vals vs us∧Q vs H'
noncomputable def SP (X:Cx) (pins:List (Addr×Obj)) (D:Ends) (f:Flow) (s':Shared):Prop:=
 match f with
 | .next=>∃ σ' H',Inv X pins σ' H' s'∧D.nx σ' H'
 | .brk=>∃ σ' H',Inv X pins σ' H' s'∧D.bk σ' H'
 | .cont=>∃ σ' H',Inv X pins σ' H' s'∧D.ct σ' H'
 | .ret u=>∃ v σ' H',Inv X pins σ' H' s'∧RelV v u∧D.rt v H'
noncomputable def PE (X:Cx) (e:Expr) (t:TE):Prop:=
 ∀ (pins:List (Addr×Obj)) (s:Shared) (σ:St) (H:Hp) (Q:VK),Inv X pins σ H s→t σ H Q→wpAny (model X.prog X.w) X.A (eval e X.env) (EP X pins σ Q) X.xe s
noncomputable def PT (X:Cx) (e:Expr) (t:TT):Prop:=
 ∀ (pins:List (Addr×Obj)) (s:Shared) (σ:St) (H:Hp) (Q:Bool→Hp→Prop),Inv X pins σ H s→t σ H Q→wpAny (model X.prog X.w) X.A (isTrue e X.env (eval e X.env)) (TP X pins σ Q) X.xe s
noncomputable def PW (X:Cx) (e:Expr) (t:TT):Prop:=
 ∀ (whole:Sem Value) (pins:List (Addr×Obj)) (s:Shared) (σ:St) (H:Hp) (Q:Bool→Hp→Prop),Inv X pins σ H s→t σ H Q→wpAny (model X.prog X.w) X.A (isTrue e X.env whole) (TP X pins σ Q) X.xe s
theorem PW.pt {X:Cx} {e:Expr} {t:TT} (h:PW X e t):PT X e t:=h _
noncomputable def PA (X:Cx) (es:List Expr) (t:TA):Prop:=
 ∀ (pos:Pos) (pins:List (Addr×Obj)) (s:Shared) (σ:St) (H:Hp) (Q:List V→Hp→Prop),Inv X pins σ H s→t σ H Q→wpAny (model X.prog X.w) X.A (spliced (backTo pos (starEach es X.env))) (AP X pins σ Q) X.xe s
noncomputable def PS (X:Cx) (st:Stmt) (t:TS):Prop:=
 ∀ (pins:List (Addr×Obj)) (s:Shared) (σ:St) (H:Hp) (D:Ends),Inv X pins σ H s→t D σ H→wpAny (model X.prog X.w) X.A (exec st X.env) (SP X pins D) X.xe s
noncomputable def PSs (X:Cx) (st:List Stmt) (t:TS):Prop:=
 ∀ (pins:List (Addr×Obj)) (s:Shared) (σ:St) (H:Hp) (D:Ends),Inv X pins σ H s→t D σ H→wpAny (model X.prog X.w) X.A (execs st X.env) (SP X pins D) X.xe s
theorem thn {α:Type} {t:Sem α} {Q Q':α→Shared→Prop} {M:Model} {A:Around} {E:Value→Shared→Prop} {s:Shared} (h:wpAny M A t Q E s) (hQ:∀ a s,Q a s→Q' a s):wpAny M A t Q' E s:=wpAny_mono h hQ fun _ _ x=>x
section
variable {X:Cx}
noncomputable def uo (i:Nat):TE:=fun σ H Q=>∃ v,σ[i]?=some (some v)∧Q v H
noncomputable def tC (v:V):TE:=fun _ H Q=>Q v H
theorem kY {i:Nat} {x:Str} {pos:Pos} (hN:X.N[i]?=some x) (hv:Vis X.env.scope x) (hd:(x == ("__debug__" : Str))=false:=by decide) (hcd:(x == ("__classdict__" : Str))=false:=by decide):PE X (.Name x pos) (uo i):=by
 intro pins s σ H Q I h
 obtain ⟨v,e,h⟩:=h
 obtain ⟨m,hn,hl⟩:=I.loc
 obtain ⟨u,r,l⟩:=hl i x v hN e hv
 have fin:EP X pins σ Q u s:=⟨v,H,I,r,h⟩
 rcases l with ⟨hk,hm⟩ | ⟨hk,c,hc,hcell⟩
 ·exact wpAny_Name (wpAny_loadName_local I.ok.kind hk hn hm fin) hd
 ·rcases hk with hk | hk
  ·exact wpAny_Name (wpAny_loadName_cell I.ok.kind hk hc hcell fin) hd
  ·exact wpAny_Name (wpAny_loadName_free I.ok.kind hk hc hcell fin hcd) hd
theorem Ai {i j pos}:PE X (.Constant (.int i) j pos) (tC (.int i)):=fun _ _ _ H _ I h=>wpAny_Constant_int ⟨.int i,H,I.tok _,⟨_,rfl⟩,h⟩
theorem Cy {b j pos}:PE X (.Constant (.bool b) j pos) (tC (.bl b)):=fun _ _ _ H _ I h=>Constant_bool ⟨.bl b,H,I,rfl,h⟩
theorem Aj {j pos}:PE X (.Constant .none j pos) (tC .non):=fun _ _ _ H _ I h=>Constant_none ⟨.non,H,I,rfl,h⟩
theorem Ak {x j pos}:PE X (.Constant (.str x) j pos) (tC (.str x)):=fun _ _ _ H _ I h=>Calls.Constant_str ⟨.str x,H,I.tok _,⟨_,rfl⟩,h⟩
noncomputable def Gl (X:Cx) (x:Str):Prop:=X.env.kindOf x=some .globalImplicit
theorem qH {E:Value→Shared→Prop} {pins:List (Addr×Obj)} {s:Shared} {σ:St} {H:Hp} {x:Str} {u:Value} {pos:Pos} {Q:Value→Shared→Prop} (I:Inv X pins σ H s) (hg:Gl X x) (hm:X.mg x=some u) (h:Q u s)
  (hd:(x == ("__debug__" : Str))=false:=by decide):wpAny (model X.prog X.w) X.A (eval (.Name x pos) X.env) Q E s:=
 Calls.Name_function_global I.ok.kind hg (Calls.loadGlobal_global (by rw [I.ok.glob];exact I.mod.glob.keeps I.bk) hm h) hd
theorem ck {E:Value→Shared→Prop} {pins:List (Addr×Obj)} {s:Shared} {σ:St} {H:Hp} {x:Str} {u:Value} {pos:Pos} {Q:Value→Shared→Prop} (I:Inv X pins σ H s) (hg:Gl X x) (hm:X.mg x=none) (hv:bootBuiltins x=some u) (h:Q u s)
  (hn:x ≠ "__name__" := by decide) (hd:(x == ("__debug__" : Str))=false:=by decide):wpAny (model X.prog X.w) X.A (eval (.Name x pos) X.env) Q E s:=by
 obtain ⟨mb,h1,h2⟩:=I.mod.blt
 exact Calls.Name_function_global I.ok.kind hg (Calls.loadGlobal_builtin (by rw [I.ok.glob];exact I.mod.glob.keeps I.bk) hm (by rw [I.ok.blt];exact h1.keeps I.bk) ((h2 x hn).trans hv) h) hd
theorem xO {x:Str} {v:V} {u:Value} {pos:Pos} (hg:Gl X x) (hm:X.mg x=some u) (r:RelV v u) (hd:(x == ("__debug__" : Str))=false:=by decide):PE X (.Name x pos) (tC v):=
 fun _ _ _ H _ I h=>qH I hg hm ⟨v,H,I,r,h⟩ hd
theorem xP {x:Str} {v:V} {u:Value} {pos:Pos} (hg:Gl X x) (hm:X.mg x=none) (hv:bootBuiltins x=some u) (r:RelV v u) (hn:x ≠ "__name__" := by decide) (hd:(x == ("__debug__" : Str))=false:=by decide):PE X (.Name x pos) (tC v):=
 fun _ _ _ H _ I h=>ck I hg hm hv ⟨v,H,I,r,h⟩ hn hd
variable {a b:Expr} {ta tb:TE} {pos:Pos}
noncomputable def tB (t:TE):TT:=fun σ H Q=>t σ H fun x H1=>∃ c,x=.bl c∧Q c H1
theorem Al {e:Expr} {t:TE} (h:PE X e t) (he:∀ whole,isTrue e X.env whole=(do let v ← whole;standAt e.pos;holding [v] (truthy v)):=by intro _;rfl):PT X e (tB t):=by
 intro pins s σ H Q I hw
 refine isTrue_plain (thn (h pins s σ H _ I hw) fun v s1 ⟨x,H1,I1,r1,q1⟩=>?_) (he _)
 obtain ⟨d,rfl,q⟩:=q1
 cases r1
 exact wpAny_truthy_bool ⟨H1,I1,q⟩
variable {tA tB':TT} {rest:List Expr}
noncomputable def fZ (t u:TT):TT:=fun σ H Q=>t σ H fun c H1=>if c=true then u σ H1 Q else Q false H1
noncomputable def tOr (t u:TT):TT:=fun σ H Q=>t σ H fun c H1=>if c=true then Q true H1 else u σ H1 Q
noncomputable def bP (t:TT):TT:=fun σ H Q=>t σ H fun c H1=>Q (!c) H1
theorem pw_and1 (ha:PT X a tA):PW X (.BoolOp .And [a] pos) tA:=by
 intro wh pins s σ H Q I h
 refine isTrue_and (thn (ha pins s σ H Q I h) fun c s1 e=>?_)
 cases c with
 | true=>exact isTrue_and_nil e
 | false=>exact e
theorem pw_or1 (ha:PT X a tA):PW X (.BoolOp .Or [a] pos) tA:=by
 intro wh pins s σ H Q I h
 refine isTrue_or (thn (ha pins s σ H Q I h) fun c s1 e=>?_)
 cases c with
 | false=>exact isTrue_or_nil e
 | true=>exact e
theorem pw_and (ha:PT X a tA) (hb:PW X (.BoolOp .And (b::rest) pos) tB'):PW X (.BoolOp .And (a::b::rest) pos) (fZ tA tB'):=by
 intro wh pins s σ H Q I h
 refine isTrue_and (thn (ha pins s σ H _ I h) fun c s1 ⟨H1,I1,q1⟩=>?_)
 cases c with
 | true=>exact hb wh pins s1 σ H1 Q I1 q1
 | false=>exact ⟨H1,I1,q1⟩
theorem pw_or (ha:PT X a tA) (hb:PW X (.BoolOp .Or (b::rest) pos) tB'):PW X (.BoolOp .Or (a::b::rest) pos) (tOr tA tB'):=by
 intro wh pins s σ H Q I h
 refine isTrue_or (thn (ha pins s σ H _ I h) fun c s1 ⟨H1,I1,q1⟩=>?_)
 cases c with
 | true=>exact ⟨H1,I1,q1⟩
 | false=>exact hb wh pins s1 σ H1 Q I1 q1
theorem Am (ha:PT X a tA):PT X (.UnaryOp .Not a pos) (bP tA):=by
 intro pins s σ H Q I h
 exact isTrue_not (ha pins s σ H (fun c H1=>Q (!c) H1) I h)
noncomputable def zj (ta tb:TE):TE:=fun σ H Q=>ta σ H fun x H1=>∃ c,x=.bl c∧if c=true then tb σ H1 Q else Q (.bl false) H1
noncomputable def zk (ta:TE):TE:=fun σ H Q=>ta σ H fun x H1=>∃ c,x=.bl c∧Q (.bl (!c)) H1
theorem An {op} {t:TE} (h:PE X a t):PE X (.BoolOp op [a] pos) t:=fun pins s σ H Q I hw=>BoolOp_one (h pins s σ H Q I hw)
theorem Ao (ha:PE X a ta) (hb:PE X (.BoolOp .And (b::rest) pos) tb):PE X (.BoolOp .And (a::b::rest) pos) (zj ta tb):=by
 intro pins s σ H Q I h
 refine BoolOp_and (thn (ha pins s σ H _ I h) fun v s1 ⟨x,H1,I1,r1,q1⟩=>?_)
 obtain ⟨c,rfl,q1⟩:=q1
 cases r1
 refine wpAny_truthy_bool ?_
 cases c with
 | true=>exact hb pins s1 σ H1 Q I1 q1
 | false=>exact ⟨.bl false,H1,I1,rfl,q1⟩
theorem Aq (ha:PE X a ta):PE X (.UnaryOp .Not a pos) (zk ta):=by
 intro pins s σ H Q I h
 refine UnaryOp_ (thn (ha pins s σ H _ I h) fun v s1 ⟨x,H1,I1,r1,q1⟩=>?_)
 obtain ⟨c,rfl,q1⟩:=q1
 cases r1
 exact not_of (wpAny_truthy_bool ⟨.bl (!c),H1,I1,rfl,q1⟩)
noncomputable def tIf (t:TT) (ta tb:TE):TE:=fun σ H Q=>t σ H fun c H1=>if c=true then ta σ H1 Q else tb σ H1 Q
theorem uq {c:Expr} (hc:PT X c tA) (ha:PE X a ta) (hb:PE X b tb):PE X (.IfExp c a b pos) (tIf tA ta tb):=by
 intro pins s σ H Q I h
 refine wpAny_IfExp (thn (hc pins s σ H _ I h) fun d s1 ⟨H1,I1,q1⟩=>?_)
 cases d with
 | true=>exact ha pins s1 σ H1 Q I1 q1
 | false=>exact hb pins s1 σ H1 Q I1 q1
end
noncomputable def SqL (K:PySem.W.Frag) (H:Hp) (a:Addr) (xs:List V):Prop:=
 Rd H a (.lst xs) ∨
  ∃ (o:Obj) (its:Array Value) (n:Nat),K.lookup a=some o∧o.cls=.type "list" ∧ o.dict=none∧o.data=.seq its n∧its.size≤sizeLine∧Vals xs its.toList
noncomputable def SqT (K:PySem.W.Frag) (H:Hp) (a:Addr) (xs:List V):Prop:=
 Rd H a (.tup xs) ∨
  ∃ (o:Obj) (its:Array Value) (n:Nat),K.lookup a=some o∧o.cls=.type "tuple" ∧ o.data=.seq its n∧its.size≤sizeLine∧Vals xs its.toList
noncomputable def E8:Value→Option V
 | .none=>some .non
 | .bool b=>some (.bl b)
 | .int i _=>some (.int i)
 | .str x _=>some (.str x)
 | .bytes b _=>some (.byt b)
 | .float b _=>some (.flt b)
 | .ref a=>some (.ref a)
 | .type n=>some (.ty n)
 | _=>none
theorem RelV.abs {x:V} {u:Value} (r:RelV x u):E8 u=some x:=by
 cases x with
 | non=>cases r;rfl
 | bl _=>cases r;rfl
 | int _=>obtain ⟨t,rfl⟩:=r;rfl
 | str _=>obtain ⟨t,rfl⟩:=r;rfl
 | byt _=>obtain ⟨t,rfl⟩:=r;rfl
 | flt _=>obtain ⟨t,rfl⟩:=r;rfl
 | ref _=>cases r;rfl
 | ty _=>cases r;rfl
theorem RelV.inj {x y:V} {u:Value} (r:RelV x u) (q:RelV y u):x=y:=Option.some.inj (r.abs.symm.trans q.abs)
theorem Vals.inj:∀ {xs ys:List V} {us:List Value},Vals xs us→Vals ys us→xs=ys
 | _,_,_,.nil,.nil=>rfl
 | _,_,_,.cons r t,.cons r' t'=>by rw [r.inj r',Vals.inj t t']
section
variable {X:Cx} {pins:List (Addr×Obj)} {σ:St} {H:Hp} {s:Shared} {a:Addr} {xs ys:List V}
theorem SqT.of {K:PySem.W.Frag} (h:H a=some (.tup xs)):SqT K H a xs:=.inl (.inl h)
theorem Inv.list (I:Inv X pins σ H s) (h:SqL X.K H a xs):∃ its:List Value,Vals xs its∧PlainL s.heap a its.toArray∧xs.length≤sizeLine:=by
 rcases h with h | ⟨o,its,n,hk,hc,hd,hs,hz,r⟩
 ·obtain ⟨z,its,n,r,e⟩:=h.ok I.hok
  exact ⟨its,r,⟨_,n,e,rfl,rfl,rfl⟩,z⟩
 ·refine ⟨its.toList,r,⟨o,n,I.kIn a o hk,hc,hd,by simpa using hs⟩,?_⟩
  have e:=r.length
  simp only [Array.length_toList] at e
  omega
theorem Inv.tuple (I:Inv X pins σ H s) (h:SqT X.K H a xs):∃ its:List Value,Vals xs its∧IsTup s.heap a its.toArray∧xs.length≤sizeLine:=by
 rcases h with h | ⟨o,its,n,hk,hc,hs,hz,r⟩
 ·obtain ⟨z,its,r,p⟩:=h.ok I.hok
  exact ⟨its,r,p,z⟩
 ·refine ⟨its.toList,r,⟨o,I.kIn a o hk,hc,n,by simpa using hs⟩,?_⟩
  have e:=r.length
  simp only [Array.length_toList] at e
  omega
theorem Inv.dN (I:Inv X pins σ H s) (h:SqL X.K H a xs) (h':SqL X.K H a ys):xs=ys:=by
 obtain ⟨its,r,⟨o,n,e,_,_,d⟩,_⟩:=I.list h
 obtain ⟨its',r',⟨o',n',e',_,_,d'⟩,_⟩:=I.list h'
 rw [e] at e';cases e'
 rw [d] at d'
 injection d' with d1 _
 have:its=its':=by simpa using congrArg Array.toList d1
 subst this
 exact r.inj r'
theorem Inv.sj (I:Inv X pins σ H s) (h:SqT X.K H a xs) (h':SqT X.K H a ys):xs=ys:=by
 obtain ⟨its,r,⟨o,e,_,n,d⟩,_⟩:=I.tuple h
 obtain ⟨its',r',⟨o',e',_,n',d'⟩,_⟩:=I.tuple h'
 rw [e] at e';cases e'
 rw [d] at d'
 injection d' with d1 _
 have:its=its':=by simpa using congrArg Array.toList d1
 subst this
 exact r.inj r'
end
noncomputable abbrev Cx.jZ (X:Cx) (E:Value→Shared→Prop):Cx:={ X with xe:=E }
noncomputable abbrev Cx.nox (X:Cx):Cx:=X.jZ fun _ _=>False
theorem Cx.Ok.jZ {X:Cx} (ok:X.Ok) (E:Value→Shared→Prop):(X.jZ E).Ok:=
 ⟨ok.mod,ok.kind,ok.glob,ok.blt,ok.above,ok.inj,ok.has,ok.cab,ok.hd,ok.frames,ok.stk,ok.exf,ok.bs,ok.bsz,ok.um,ok.xN,ok.iu,ok.frf⟩
theorem Cx.Ok.dO {X:Cx} {E:Value→Shared→Prop} (ok:(X.jZ E).Ok):X.Ok:=
 ⟨ok.mod,ok.kind,ok.glob,ok.blt,ok.above,ok.inj,ok.has,ok.cab,ok.hd,ok.frames,ok.stk,ok.exf,ok.bs,ok.bsz,ok.um,ok.xN,ok.iu,ok.frf⟩
section
variable {X:Cx} {pins:List (Addr×Obj)} {σ:St} {H:Hp} {s:Shared} {E:Value→Shared→Prop}
theorem Inv.jZ (I:Inv X pins σ H s) (E:Value→Shared→Prop):Inv (X.jZ E) pins σ H s:=⟨I.ok.jZ E,I.os,I.bare,I.base,I.loc,I.cell,I.free,I.eW,I.pin,I.hok,I.len⟩
theorem Inv.dO (I:Inv (X.jZ E) pins σ H s):Inv X pins σ H s:=⟨I.ok.dO,I.os,I.bare,I.base,I.loc,I.cell,I.free,I.eW,I.pin,I.hok,I.len⟩
theorem SP.dO {D:Ends} {f:Flow} {s':Shared} (h:SP (X.jZ E) pins D f s'):SP X pins D f s':=by
 cases f with
 | next=>obtain ⟨σ',H',I,q⟩:=h;exact ⟨σ',H',I.dO,q⟩
 | brk=>obtain ⟨σ',H',I,q⟩:=h;exact ⟨σ',H',I.dO,q⟩
 | cont=>obtain ⟨σ',H',I,q⟩:=h;exact ⟨σ',H',I.dO,q⟩
 | ret u=>obtain ⟨v,σ',H',I,r,q⟩:=h;exact ⟨v,σ',H',I.dO,r,q⟩
theorem PSs.nox {st:List Stmt} {t:TS} (h:PSs X.nox st t):PSs X st t:=fun pins s σ H D I hw=>
 wpAny_mono (h pins s σ H D (I.jZ _) hw) (fun _ _ q=>q.dO) fun _ _ z=>False.elim z
end
section
variable {X:Cx} {st:Stmt} {rest:List Stmt} {t u:TS} {e:Expr} {te:TE} {pos:Pos}
noncomputable def zm:TS:=fun D σ H=>D.nx σ H
noncomputable def Cz (t u:TS):TS:=fun D σ H=>t { D with nx:=u D } σ H
theorem xQ:PSs X [] zm:=fun _ _ σ H _ I h=>wpAny_execs_nil ⟨σ,H,I,h⟩
theorem ur (h1:PS X st t) (h2:PSs X rest u):PSs X (st::rest) (Cz t u):=by
 intro pins s σ H D I h
 refine wpAny_execs_cons (thn (h1 pins s σ H { D with nx:=u D } I h) fun f s1 q=>?_)
 cases f with
 | next=>
  obtain ⟨σ',H',I',q⟩:=q
  exact h2 pins s1 σ' H' D I' q
 | ret v=>exact q
 | brk=>exact q
 | cont=>exact q
theorem xR (h1:PS X st t):PSs X [st] t:=by
 intro pins s σ H D I h
 refine wpAny_execs_cons (thn (h1 pins s σ H D I h) fun f s1 q=>?_)
 cases f with
 | next=>exact wpAny_execs_nil q
 | ret v=>exact q
 | brk=>exact q
 | cont=>exact q
theorem Inv.quiet {pins:List (Addr×Obj)} {σ:St} {H:Hp} {s:Shared} (I:Inv X pins σ H s):interactive X.env=false:=by simp [interactive,I.ok.kind]
noncomputable def uu (te:TE):TS:=fun D σ H=>te σ H fun _ H1=>D.nx σ H1
theorem qI (he:PE X e te) (hs:swapsWith e none pos.line X.env=pure false:=by rfl):PS X (.Expr e pos) (uu te):=by
 intro pins s σ H D I h
 exact wpAny_Expr_any (thn (he pins s σ H _ I h) fun v s1 ⟨x,H1,I1,r1,q1⟩=>⟨σ,H1,I1,q1⟩) I.quiet hs
noncomputable def CA (te:TE):TS:=fun D σ H=>te σ H D.rt
theorem Ar (he:PE X e te):PS X (.Return (some e) pos) (CA te):=by
 intro pins s σ H D I h
 exact wpAny_Return_some (thn (he pins s σ H _ I h) fun v s1 ⟨x,H1,I1,r1,q1⟩=>⟨x,σ,H1,I1,r1,q1⟩)
noncomputable def CB (c:TT) (t u:TS):TS:=fun D σ H=>c σ H fun b H1=>if b=true then t D σ H1 else u D σ H1
theorem CC {c:Expr} {a b:List Stmt} {tc:TT} (hc:PT X c tc) (ha:PSs X a t) (hb:PSs X b u):PS X (.If c a b pos) (CB tc t u):=by
 intro pins s σ H D I h
 refine wpAny_If (thn (hc pins s σ H _ I h) fun d s1 ⟨H1,I1,q1⟩=>?_)
 cases d with
 | true=>exact ha pins s1 σ H1 D I1 q1
 | false=>exact hb pins s1 σ H1 D I1 q1
noncomputable def As:TS:=fun _ _ _=>False
theorem uv:PS X st As:=fun _ _ _ _ _ _ h=>h.elim
end
noncomputable abbrev TG:=V→St→Hp→(St→Hp→Prop)→Prop
noncomputable abbrev TGs:=List V→St→Hp→(St→Hp→Prop)→Prop
noncomputable def PG (X:Cx) (target:Expr) (t:TG):Prop:=
 ∀ (pins:List (Addr×Obj)) (s:Shared) (σ:St) (H:Hp) (v:V) (u:Value) (Q:St→Hp→Prop),Inv X pins σ H s→RelV v u→t v σ H Q →
  wpAny (model X.prog X.w) X.A (assign target X.env u) (fun _ s'=>∃ σ' H',Inv X pins σ' H' s'∧Q σ' H') X.xe s
noncomputable def PGs (X:Cx) (ts:List Expr) (t:TGs):Prop:=
 ∀ (pins:List (Addr×Obj)) (s:Shared) (σ:St) (H:Hp) (vs:List V) (us:List Value) (Q:St→Hp→Prop),Inv X pins σ H s→Vals vs us→t vs σ H Q →
  wpAny (model X.prog X.w) X.A (assignInOrder ((assignEach ts X.env).map (·.2)) us) (fun _ s'=>∃ σ' H',Inv X pins σ' H' s'∧Q σ' H') X.xe s
noncomputable abbrev Au:=V→V→V→Hp→(Hp→Prop)→Prop
noncomputable def CD (X:Cx) (t:Au):Prop:=
 ∀ (pins:List (Addr×Obj)) (s:Shared) (σ:St) (H:Hp) (o i v:V) (ov iv u:Value) (Q:Hp→Prop),Inv X pins σ H s→RelV o ov→RelV i iv→RelV v u→t o i v H Q →
  wpAny (model X.prog X.w) X.A (setItem ov iv u) (fun _ s'=>∃ H',Inv X pins σ H' s'∧Q H') X.xe s
section
variable {X:Cx} {pos:Pos}
noncomputable def iw (i:Nat):TG:=fun v σ H Q=>Q (σ.set i (some v)) H
theorem kZ {i:Nat} {x:Str} (hN:X.N.Nodup) (hi:X.N[i]?=some x) (hx:Loc X.env.scope x) (hf:X.fn x=true∨X.env.scope.names.lookup x=some .local:=by first | exact .inl rfl | exact .inr rfl | assumption):PG X (.Name x pos) (iw i):=by
 intro pins s σ H v u Q I r h
 exact wpAny_assign_Name (mL I hN hi hx r (fun s' I'=>⟨_,H,I',h⟩) hf)
noncomputable def CF:TGs:=fun vs σ H Q=>vs=[]∧Q σ H
noncomputable def zo (t:TG) (u:TGs):TGs:=fun vs σ H Q=>∃ v r,vs=v::r∧t v σ H fun σ' H'=>u r σ' H' Q
theorem xS:PGs X [] CF:=by
 intro pins s σ H vs us Q I r h
 obtain ⟨e,h⟩:=h
 subst e
 cases r
 exact assignInOrder_nil ⟨σ,H,I,h⟩
theorem uw {e:Expr} {es:List Expr} {t:TG} {u:TGs} (h1:PG X e t) (h2:PGs X es u)
  (hs:(assignEach (e::es) X.env).map (·.2)=assign e X.env::(assignEach es X.env).map (·.2):=by rfl):PGs X (e::es) (zo t u):=by
 intro pins s σ H vs us Q I r h
 obtain ⟨v,vr,e1,h⟩:=h
 subst e1
 cases r with
 | cons r rr=>
  rw [hs]
  refine assignInOrder_cons (thn (h1 pins s σ H _ _ _ I r h) fun _ s1 ⟨σ1,H1,I1,q1⟩=>?_)
  exact h2 pins s1 σ1 H1 _ _ Q I1 rr q1
noncomputable def Av (K:PySem.W.Frag) (n:Nat) (t:TGs):TG:=fun v σ H Q=>∃ a xs,v=.ref a∧SqT K H a xs∧xs.length=n∧t xs σ H Q
theorem pq {es:List Expr} {k:Nat} {t:TGs} {n:Nat} (hc:X.calm=true) (h:PGs X es t)
  (hn:(assignEach es X.env).length=n:=by rfl) (hst:(assignEach es X.env).findIdx? (·.1)=none:=by rfl):PG X (.Tuple es k pos) (Av X.K n t):=by
 intro pins s σ H v u Q I r hw
 obtain ⟨a,xs,e1,hq,hl,hw⟩:=hw
 subst e1
 cases r
 obtain ⟨its,rv,ht,hz⟩:=I.tuple hq
 refine assign_Tuple_tuple (I.ok.hd hc) ht (by simp [hn,← hl,rv.length]) hst fun h' hx=>?_
 have I1:Inv X pins σ H { s with heap:=h' }:=I.kept (t':=s.toks) fun b o e=>hx b o (Nat.ne_of_lt (Heap.lt_size e)) e
 exact h pins _ σ H xs _ Q I1 (by simpa using rv) hw
noncomputable def cK (to ti:TE) (t:Au):TG:=fun v σ H Q=>to σ H fun o H1=>ti σ H1 fun i H2=>t o i v H2 fun H3=>Q σ H3
theorem Aw {o i:Expr} {to ti:TE} {t:Au} (ho:PE X o to) (hi:PE X i ti) (hs:CD X t)
  (ha:∀ v,assign (.Subscript o i pos) X.env v=(do
   let ov ← holding [v] (eval o X.env)
   let iv ← holding [v,ov] (eval i X.env)
   standAt pos
   holding [v,ov,iv] (setItem ov iv v)
   release [v,ov,iv] []):=by intro _;rfl):PG X (.Subscript o i pos) (cK to ti t):=by
 intro pins s σ H v u Q I r h
 rw [ha]
 refine wpAny_bind (wpAny_holding (thn (ho pins s σ H _ I h) fun ov s1 ⟨x,H1,I1,r1,q1⟩=>?_))
 refine wpAny_bind (wpAny_holding (thn (hi pins s1 σ H1 _ I1 q1) fun iv s2 ⟨y,H2,I2,r2,q2⟩=>?_))
 refine wpAny_bind (wpAny_standAt (wpAny_bind (wpAny_holding (thn (hs pins s2 σ H2 x y v ov iv u _ I2 r1 r2 r q2) fun _ s3 ⟨H3,I3,q3⟩=>?_))))
 exact wpAny_release ⟨σ,H3,I3,q3⟩
noncomputable def pA (te:TE) (g:TG):TS:=fun D σ H=>te σ H fun x H1=>g x σ H1 D.nx
theorem pB {tg e:Expr} {te:TE} {g:TG} (he:PE X e te) (hg:PG X tg g) (hs:swapsWithSole [tg] e pos.line X.env=pure false:=by rfl) (hw:swappedStores [tg] e X.env=pure none:=by rfl)
  (h1:(assignEach [tg] X.env).map (·.2)=[assign tg X.env]:=by rfl):PS X (.Assign [tg] e pos) (pA te g):=by
 intro pins s σ H D I h
 refine wpAny_Assign_stores (thn (he pins s σ H _ I h) fun v s1 ⟨x,H1,I1,r1,q1⟩=>?_) hs hw
 rw [h1]
 exact thn (hg pins s1 σ H1 x v _ I1 r1 q1) fun _ s2 q=>q
theorem Ax {i:Nat} {x:Str} {e:Expr} {te:TE} {pos':Pos} (hN:X.N.Nodup) (hi:X.N[i]?=some x) (hx:Loc X.env.scope x) (he:PE X e te) (hs:swapsWith e (some (.Name x pos')) pos.line X.env=pure false:=by rfl) (hf:X.fn x=true∨X.env.scope.names.lookup x=some .local:=by first | exact .inl rfl | exact .inr rfl | assumption) :
  PS X (.Assign [.Name x pos'] e pos) (pA te (iw i)):=by
 intro pins s σ H D I h
 refine wpAny_Assign_Name (thn (he pins s σ H _ I h) fun v s1 ⟨y,H1,I1,r1,q1⟩=>?_) hs
 exact mL I1 hN hi hx r1 (fun s2 I2=>⟨_,H1,I2,q1⟩) hf
end
structure It where
 go:Nat→Hp→Prop
 yld:Nat→Hp→V→Hp→Prop
 stop:Nat→Hp→Prop
noncomputable def j0 (X:Cx) (pins:List (Addr×Obj)) (H:Hp) (b:Addr):Prop:=
 H b=none∧b≠X.env.locals∧b∉X.fs∧(b∈X.ex∨X.s₀.heap.objs.size≤b)∧(∀ x c,X.env.cells.lookup x=some c→c≠b)∧∀ p∈X.pn++pins,p.1≠b
theorem Inv.pC {X:Cx} {pins:List (Addr×Obj)} {σ:St} {H H':Hp} {s:Shared} {b:Addr} (I:Inv X pins σ H s) (hb:s.heap.objs.size≤b) (hn:H' b=none):j0 X pins H' b:=by
 refine ⟨hn,Nat.ne_of_gt (Nat.lt_of_lt_of_le I.lt hb),I.E6 hb,.inr (Nat.le_trans I.sz hb),fun x c e z=>?_,fun p hp z=>?_⟩
 ·obtain ⟨v,q⟩:=I.cell x c e
  exact absurd (Nat.lt_of_lt_of_le q.lt (by rw [z];exact hb)) (Nat.lt_irrefl _)
 ·exact absurd (Nat.lt_of_lt_of_le (Heap.lt_size (I.pin p hp).1) (by rw [z];exact hb)) (Nat.lt_irrefl _)
structure Turn (P:Program) (w:World) (K:PySem.W.Frag) (tg:Expr) (J:It) (fp:List Addr) (it:Addr) (tn:Nat→Heap→Prop):Prop where
 mem:it∈fp
 obj:∀ i h,tn i h→∀ b∈fp,∃ o,h.get? b=some o∧∀ v,o.data≠.cell v
 keep:∀ i h h',tn i h→(∀ b∈fp,∀ o,h.get? b=some o→h'.get? b=some o)→tn i h'
 item:∀ (X:Cx),X.prog=P→X.w=w→X.K=K→X.calm=true→∀ (i:Nat) (pins:List (Addr×Obj)) (s:Shared) (σ:St) (H:Hp) (E:Value→Shared→Prop),Inv X pins σ H s→(∀ b∈fp,j0 X pins H b)→tn i s.heap→J.go i H →
  wpAny (model P w) X.A (pyNext (.ref it)) (fun r s1=>∃ u,r=some u ∧
   wpAny (model P w) X.A (letOwnedTupleGo tg (.ref it) u) (fun _ s2=>∃ x H',Inv X pins σ H' s2∧RelV x u∧J.yld i H x H'∧tn (i+1) s2.heap∧∀ b∈fp,H' b=none) E s1) E s
 done:∀ (X:Cx),X.prog=P→X.w=w→X.K=K→X.calm=true→∀ (i:Nat) (pins:List (Addr×Obj)) (s:Shared) (σ:St) (H:Hp) (E:Value→Shared→Prop),Inv X pins σ H s→(∀ b∈fp,j0 X pins H b)→tn i s.heap→J.stop i H →
  wpAny (model P w) X.A (pyNext (.ref it)) (fun r s1=>r=none∧Inv X pins σ H s1) E s
 self:∀ (A:Around) (i:Nat) (s:Shared) (Q:Value→Shared→Prop) (E:Value→Shared→Prop),tn i s.heap→Q (.ref it) s→wpAny (model P w) A (pyIter (.ref it)) Q E s
noncomputable abbrev TI:=St→Hp→(It→Hp→Prop)→Prop
noncomputable def PIE (X:Cx) (pins:List (Addr×Obj)) (σ:St) (tg:Expr) (R:It→Hp→Prop) (itv:Value) (s2:Shared):Prop:=
 ∃ (it:Addr) (fp:List Addr) (tn:Nat→Heap→Prop) (J:It) (H':Hp),itv=.ref it∧Inv X pins σ H' s2∧Turn X.prog X.w X.K tg J fp it tn∧tn 0 s2.heap∧(∀ b∈fp,j0 X pins H' b)∧R J H'
noncomputable def PI (X:Cx) (tg iter:Expr) (wi:TI):Prop:=
 ∀ (pins:List (Addr×Obj)) (s:Shared) (σ:St) (H:Hp) (R:It→Hp→Prop),Inv X pins σ H s→wi σ H R →
  wpAny (model X.prog X.w) X.A (eval iter X.env) (fun v s1=>wpAny (model X.prog X.w) X.A (pyIter v) (PIE X pins σ tg R) X.xe s1) X.xe s
theorem mO {M:Model} {A:Around} {E:Value→Shared→Prop} {s:Shared} {tg:Expr} {it:Addr} {u:Value} {o:Obj} {n:String} {vs:Array Value} {Q:Unit→Shared→Prop} (ho:s.heap.get? it=some o) (hc:o.cls=.type n) (hd:o.data=.fields vs)
  (hn:["enumerate","zip","dict_itemiterator","dict_reverseitemiterator","odict_iterator","itertools.zip_longest","itertools.pairwise"].contains n=false) (hQ:Q () s):wpAny M A (letOwnedTupleGo tg (.ref it) u) Q E s:=by
 unfold letOwnedTupleGo
 cases tg<;>first
  | exact wpAny_pure hQ
  | (cases u<;>first
    | exact wpAny_pure hQ
    | (refine wpAny_bind (wpAny_load ho ?_)
       rw [hc,hd]
       show wpAny M A (if (["enumerate","zip","dict_itemiterator","dict_reverseitemiterator","odict_iterator","itertools.zip_longest","itertools.pairwise"].contains n&&vs[0]? == some (rawInt _))=true then _ else _) Q E s
       rw [if_neg (by intro h;rw [hn,Bool.false_and] at h;cases h)]
       exact wpAny_pure hQ))
noncomputable def Itl (K:PySem.W.Frag) (a:Addr):It:=
 ⟨fun i H=>∃ xs x,SqL K H a xs∧xs[i]?=some x,fun i H x H'=>H'=H∧∀ xs,SqL K H a xs→xs[i]?=some x,fun i H=>∃ xs,SqL K H a xs∧xs.length≤i⟩
noncomputable def Itt (K:PySem.W.Frag) (a:Addr):It:=
 ⟨fun i H=>∃ xs x,SqT K H a xs∧xs[i]?=some x,fun i H x H'=>H'=H∧∀ xs,SqT K H a xs→xs[i]?=some x,fun i H=>∃ xs,SqT K H a xs∧xs.length≤i⟩
noncomputable def Itr (lo:Int) (n:Nat):It:=⟨fun i _=>i<n,fun i H x H'=>H'=H∧x=.int (lo+i),fun i _=>n≤i⟩
theorem sq {P:Program} {w:World} {K:PySem.W.Frag} {tg:Expr} (a it:Addr):Turn P w K tg (Itl K a) [it] it (fun i h=>h.IsListIter it a i) where
 mem:=by simp
 obj:=fun i h st b hb=>by
  have e:b=it:=by simpa using hb
  subst e
  obtain ⟨o,e,c,d⟩:=st
  exact ⟨o,e,fun v z=>by rw [d] at z;cases z⟩
 keep:=fun i h h' st k=>st.at fun o e=>k it (by simp) o e
 item:=by
  intro X hP hw hK hc i pins s σ H E I hf st hg
  subst hP hw hK
  obtain ⟨xs,x,hq,hx⟩:=hg
  obtain ⟨its,rv,p,hz⟩:=I.list hq
  obtain ⟨u,hu,ru⟩:=rv.get hx
  obtain ⟨f0,f1,f2,f3,f4,f5⟩:=hf it (by simp)
  refine wpAny_pyNext_list_item st p.isList (x:=u) (by simpa using hu) fun h' st' sb=>?_
  have I1:Inv X pins σ H { s with heap:=h' }:=I.turned (t':=s.toks) (fun b o hb e=>(sb.2 b hb).trans e) f0 f1 f3 f4 f5
  obtain ⟨o,e,c,d⟩:=id st'
  exact ⟨u,rfl,mO (s:={ s with heap:=h' }) e c d (by decide) ⟨x,H,I1,ru,⟨rfl,fun ys hy=>by rw [I.dN hy hq];exact hx⟩,st',fun b hb=>(hf b hb).1⟩⟩
 done:=by
  intro X hP hw hK hc i pins s σ H E I hf st hg
  subst hP hw hK
  obtain ⟨xs,hq,hx⟩:=hg
  obtain ⟨its,rv,p,hz⟩:=I.list hq
  obtain ⟨f0,f1,f2,f3,f4,f5⟩:=hf it (by simp)
  have hl:=rv.length
  exact wpAny_pyNext_list_end (I.ok.hd hc) st p.isList (by simp;omega) fun h' eb=>⟨rfl,I.turned (t':=s.toks) (fun b o hb e=>eb b o hb e) f0 f1 f3 f4 f5⟩
 self:=fun _ _ _ _ _ st h=>wpAny_pyIter_listiter st h
theorem pD {P:Program} {w:World} {K:PySem.W.Frag} {tg:Expr} (a it:Addr):Turn P w K tg (Itt K a) [it] it (fun i h=>h.IsTupleIter it a i) where
 mem:=by simp
 obj:=fun i h st b hb=>by
  have e:b=it:=by simpa using hb
  subst e
  obtain ⟨o,e,c,d⟩:=st
  exact ⟨o,e,fun v z=>by rw [d] at z;cases z⟩
 keep:=fun i h h' st k=>st.at fun o e=>k it (by simp) o e
 item:=by
  intro X hP hw hK hc i pins s σ H E I hf st hg
  subst hP hw hK
  obtain ⟨xs,x,hq,hx⟩:=hg
  obtain ⟨its,rv,p,hz⟩:=I.tuple hq
  obtain ⟨u,hu,ru⟩:=rv.get hx
  obtain ⟨f0,f1,f2,f3,f4,f5⟩:=hf it (by simp)
  refine wpAny_pyNext_tuple_item st (show s.heap.IsTuple a its.toArray from p) (x:=u) (by simpa using hu) fun h' st' sb=>?_
  have I1:Inv X pins σ H { s with heap:=h' }:=I.turned (t':=s.toks) (fun b o hb e=>(sb.2 b hb).trans e) f0 f1 f3 f4 f5
  obtain ⟨o,e,c,d⟩:=id st'
  exact ⟨u,rfl,mO (s:={ s with heap:=h' }) e c d (by decide) ⟨x,H,I1,ru,⟨rfl,fun ys hy=>by rw [I.sj hy hq];exact hx⟩,st',fun b hb=>(hf b hb).1⟩⟩
 done:=by
  intro X hP hw hK hc i pins s σ H E I hf st hg
  subst hP hw hK
  obtain ⟨xs,hq,hx⟩:=hg
  obtain ⟨its,rv,p,hz⟩:=I.tuple hq
  obtain ⟨f0,f1,f2,f3,f4,f5⟩:=hf it (by simp)
  have hl:=rv.length
  exact wpAny_pyNext_tuple_end (I.ok.hd hc) st (show s.heap.IsTuple a its.toArray from p) (by simp;omega) fun h' eb=>⟨rfl,I.turned (t':=s.toks) (fun b o hb e=>eb b o hb e) f0 f1 f3 f4 f5⟩
 self:=fun _ _ _ _ _ st h=>wpAny_pyIter_tupleiter st h
theorem pF {P:Program} {w:World} {K:PySem.W.Frag} {tg:Expr} (it:Addr) (lo:Int) (n:Nat):Turn P w K tg (Itr lo n) [it] it (fun i h=>IsRangeIter h it (lo+(i:Nat)*1) ((n:Int)-(i:Nat)) 1) where
 mem:=by simp
 obj:=fun i h st b hb=>by
  have e:b=it:=by simpa using hb
  subst e
  exact ⟨_,st,fun v z=>by
   have z':Data.fields _=Data.cell v:=z
   cases z'⟩
 keep:=fun i h h' st k=>k it (by simp) _ st
 item:=by
  intro X hP hw hK hc i pins s σ H E I hf st hg
  subst hP hw hK
  obtain ⟨f0,f1,f2,f3,f4,f5⟩:=hf it (by simp)
  have W:=Walks.range (prog:=X.prog) (w:=X.w) (I.ok.hd hc) it lo 1 n
  refine W.item i s _ _ hg st fun v h' tk hv st' kk=>?_
  obtain ⟨t,rfl⟩:=hv
  have I1:Inv X pins σ H { s with heap:=h',toks:=tk }:=I.turned (fun b o hb e=>kk b o (by simpa using hb) e) f0 f1 f3 f4 f5
  refine ⟨_,rfl,mO (s:={ s with heap:=h',toks:=tk }) (n := "range_iterator") st' rfl rfl (by decide) ⟨.int (lo+i),H,I1,⟨t,?_⟩,⟨rfl,rfl⟩,st',fun b hb=>(hf b hb).1⟩⟩
  rw [Int.mul_one]
 done:=by
  intro X hP hw hK hc i pins s σ H E I hf st hg
  subst hP hw hK
  obtain ⟨f0,f1,f2,f3,f4,f5⟩:=hf it (by simp)
  exact wpAny_pyNext_range_end (I.ok.hd hc) st (by have:n≤i:=hg;omega) fun h' eb=>⟨rfl,I.turned (t':=s.toks) (fun b o hb e=>eb b o hb e) f0 f1 f3 f4 f5⟩
 self:=fun _ _ _ _ _ st h=>wpAny_pyIter_rangeiter st h
section
variable {X:Cx} {tg:Expr}
noncomputable def mP (K:PySem.W.Frag) (tl:TE):TI:=fun σ H R=>tl σ H fun x H1=>∃ a,x=.ref a∧(∃ xs,SqL K H1 a xs)∧R (Itl K a) H1
noncomputable def ux (K:PySem.W.Frag) (tl:TE):TI:=fun σ H R=>tl σ H fun x H1=>∃ a,x=.ref a∧(∃ xs,SqT K H1 a xs)∧R (Itt K a) H1
theorem qJ {l:Expr} {tl:TE} (hl:PE X l tl):PI X tg l (mP X.K tl):=by
 intro pins s σ H R I h
 refine thn (hl pins s σ H _ I h) fun v s1 ⟨x,H1,I1,r1,q1⟩=>?_
 obtain ⟨a,e,⟨xs,hq⟩,q⟩:=q1
 subst e
 cases r1
 obtain ⟨its,rv,p,hz⟩:=I1.list hq
 refine wpAny_pyIter_list p.isList ?_
 refine ⟨s1.heap.objs.size,[s1.heap.objs.size],_,_,H1,rfl,I1.kept (t':=s1.toks) fun b o e=>Heap.get?_push_of_some _ e,sq a _,⟨_,Heap.get?_push_size _ rfl,rfl,rfl⟩,fun b hb=>?_,q⟩
 have e:b=s1.heap.objs.size:=by simpa using hb
 subst e
 exact I1.pC (Nat.le_refl _) (I1.hok.fresh (Nat.le_refl _))
theorem uy {l:Expr} {tl:TE} (hl:PE X l tl):PI X tg l (ux X.K tl):=by
 intro pins s σ H R I h
 refine thn (hl pins s σ H _ I h) fun v s1 ⟨x,H1,I1,r1,q1⟩=>?_
 obtain ⟨a,e,⟨xs,hq⟩,q⟩:=q1
 subst e
 cases r1
 obtain ⟨its,rv,p,hz⟩:=I1.tuple hq
 refine wpAny_pyIter_tuple (show s1.heap.IsTuple a its.toArray from p) ?_
 refine ⟨s1.heap.objs.size,[s1.heap.objs.size],_,_,H1,rfl,I1.kept (t':=s1.toks) fun b o e=>Heap.get?_push_of_some _ e,pD a _,⟨_,Heap.get?_push_size _ rfl,rfl,rfl⟩,fun b hb=>?_,q⟩
 have e:b=s1.heap.objs.size:=by simpa using hb
 subst e
 exact I1.pC (Nat.le_refl _) (I1.hok.fresh (Nat.le_refl _))
theorem mQ {pins:List (Addr×Obj)} {σ:St} {H:Hp} {s:Shared} {R:It→Hp→Prop} {E:Value→Shared→Prop} {lo hi:Int} {t u v:Tok} {tk:Nat} (I:Inv X pins σ H s) (h1:-(2 ^ 62)≤lo) (h2:lo<2 ^ 62) (h3:-(2 ^ 62)≤hi) (h4:hi<2 ^ 62)
  (q:R (Itr lo (hi-lo).toNat) H):wpAny (model X.prog X.w) X.A (pyIter (.ref s.heap.objs.size)) (PIE X pins σ tg R) E { s with heap:=s.heap.push { cls:=.type "range",data:=.fields #[.int lo t,.int hi u,.int 1 v] },toks:=tk }:=by
 refine wpAny_pyIter_range (IsRange.new ..) (small_one h1 h2 h3 h4) ?_
 have I1:Inv X pins σ H { s with heap:=s.heap.push { cls:=.type "range",data:=.fields #[.int lo t,.int hi u,.int 1 v] },toks:=tk }:=I.kept fun b o e=>Heap.get?_push_of_some _ e
 refine ⟨(s.heap.push { cls:=.type "range",data:=.fields #[.int lo t,.int hi u,.int 1 v] }).objs.size,[(s.heap.push { cls:=.type "range",data:=.fields #[.int lo t,.int hi u,.int 1 v] }).objs.size],_,_,H,rfl,
  I1.kept (t':=tk) fun b o e=>Heap.get?_push_of_some _ e,pF _ lo (hi-lo).toNat,?_,fun b hb=>?_,q⟩
 ·have e1:lo+((0:Nat):Int)*1=lo:=by simp
  have e2:(((hi-lo).toNat:Nat):Int)-((0:Nat):Int)=Builtin.Range.rangeSize lo hi 1:=by rw [rangeSize_one];split<;>omega
  show IsRangeIter _ _ (lo+((0:Nat):Int)*1) ((((hi-lo).toNat:Nat):Int)-((0:Nat):Int)) 1
  rw [e1,e2]
  exact Heap.get?_push_size _ rfl
 ·have e:b=(s.heap.push { cls:=.type "range",data:=.fields #[.int lo t,.int hi u,.int 1 v] }).objs.size:=by simpa using hb
  subst e
  exact I1.pC (Nat.le_refl _) (I1.hok.fresh (Nat.le_refl _))
noncomputable def zp (ta:TA):TI:=fun σ H R=>ta σ H fun vs H1=>∃ j:Int,vs=[.int j]∧-(2 ^ 62)≤j∧j<2 ^ 62∧R (Itr 0 j.toNat) H1
noncomputable def zq (ta:TA):TI:=fun σ H R=>ta σ H fun vs H1=>∃ i j:Int,vs=[.int i,.int j]∧(-(2 ^ 62)≤i∧i<2 ^ 62∧-(2 ^ 62)≤j∧j<2 ^ 62)∧R (Itr i (j-i).toNat) H1
theorem sr {a:Expr} {ta:TA} {p pos:Pos} (hg:Gl X "range") (hm:X.mg "range" = none) (ha:PA X [a] ta) (hs:starEach [a] X.env=[(false,eval a X.env)]:=by rfl):PI X tg (.Call (.Name "range" p) [a] [] pos) (zp ta):=by
 intro pins s σ H R I h
 refine Call_ (ck I hg hm boot_range (PyProof.Rows.callWith_type1 (thn (ha pos pins s σ H _ I h) fun us s1 ⟨vs,H1,I1,r1,q1⟩=>?_) hs rfl))
 obtain ⟨j,e,q1,q2,q⟩:=q1
 subst e
 cases r1 with
 | cons r rr=>
  cases rr
  obtain ⟨t,rfl⟩:=r
  exact call_range_1 (mQ I1 (by omega) (by omega) q1 q2 (by simpa using q))
theorem su {a b:Expr} {ta:TA} {p pos:Pos} (hg:Gl X "range") (hm:X.mg "range" = none) (ha:PA X [a,b] ta) (hs:starEach [a,b] X.env=[(false,eval a X.env),(false,eval b X.env)]:=by rfl) (hs2:starEach [b] X.env=[(false,eval b X.env)]:=by rfl) :
  PI X tg (.Call (.Name "range" p) [a,b] [] pos) (zq ta):=by
 intro pins s σ H R I h
 refine Call_ (ck I hg hm boot_range (PyProof.Rows.callWith_type1 (thn (ha pos pins s σ H _ I h) fun us s1 ⟨vs,H1,I1,r1,q1⟩=>?_) (by rw [hs,hs2]) (by rw [hs2];rfl)))
 obtain ⟨i,j,e,⟨q1,q2,q3,q4⟩,q⟩:=q1
 subst e
 cases r1 with
 | cons r rr=>
  cases rr with
  | cons r' rr=>
   cases rr
   obtain ⟨t,rfl⟩:=r
   obtain ⟨t',rfl⟩:=r'
   exact call_range_2 (mQ I1 q1 q2 q3 q4 q)
noncomputable def CG (wi:TI) (g:TG) (tb:TS):TS:=fun D σ H=>wi σ H fun J H1=>∃ W:Nat→Nat→St→Hp→Prop,(∃ m,W 0 m σ H1)∧∀ i m σ H,W i m σ H →
 (J.stop i H∧D.nx σ H)∨(J.go i H∧∃ N:St→Hp→Prop,(∀ σ' H',N σ' H'→∃ m',m'<m∧W (i+1) m' σ' H')∧∀ x H',J.yld i H x H'→g x σ H' fun σ2 H2=>tb { D with nx:=N,ct:=N,bk:=D.nx } σ2 H2)
noncomputable def iz (fp:List Addr) (h:Heap):List (Addr×Obj):=fp.filterMap fun b=>(h.get? b).map fun o=>(b,o)
theorem cZ {fp:List Addr} {h:Heap} {b:Addr} {o:Obj} (hb:b∈fp) (e:h.get? b=some o):(b,o)∈iz fp h:=List.mem_filterMap.mpr ⟨b,hb,by rw [e];rfl⟩
theorem sy {fp:List Addr} {h:Heap} {p:Addr×Obj} (hp:p∈iz fp h):p.1∈fp∧h.get? p.1=some p.2:=by
 obtain ⟨b,hb,e⟩:=List.mem_filterMap.mp hp
 cases q:h.get? b with
 | none=>rw [q] at e;cases e
 | some o=>
  rw [q] at e
  have e':(b,o)=p:=Option.some.inj e
  subst e'
  exact ⟨hb,q⟩
theorem Inv.pinned {pins:List (Addr×Obj)} {σ:St} {H:Hp} {s:Shared} {fp:List Addr} (I:Inv X pins σ H s) (hf:∀ b∈fp,j0 X pins H b) (ho:∀ b∈fp,∃ o,s.heap.get? b=some o∧∀ v,o.data≠.cell v):Inv X (pins++iz fp s.heap) σ H s:=
 I.qG fun p hp=>(List.mem_append.mp hp).elim (fun z=>I.pin p (List.mem_append_right _ z)) fun z=>by
  obtain ⟨hb,e⟩:=sy z
  obtain ⟨f0,f1,f2,_⟩:=hf p.1 hb
  obtain ⟨o,e',d⟩:=ho p.1 hb
  rw [e] at e';cases e'
  exact ⟨e,f0,f1,f2,d⟩
theorem Inv.f6 {pins pl:List (Addr×Obj)} {σ:St} {H:Hp} {s:Shared} (I:Inv X (pins++pl) σ H s):Inv X pins σ H s:=I.qG fun p hp=>I.pin p (List.mem_append_right _ (List.mem_append_left _ hp))
theorem Ay {iter:Expr} {body:List Stmt} {wi:TI} {g:TG} {tb:TS} {pos:Pos} (hp:PassesOwn (model X.prog X.w) X.A X.env X.xe) (hc:X.calm=true) (hi:PI X tg iter wi) (hg:PG X tg g) (hb:PSs X body tb)
  (hs:∀ x,foldedSetIterable iter X.env x=pure x:=by intro _;rfl):PS X (.For tg iter body [] pos) (CG wi g tb):=by
 intro pins s σ H D I h
 refine wpAny_For (thn (hi pins s σ H _ I h) fun v s1 h1=>thn h1 fun itv s2 h2=>?_) hs
 obtain ⟨it,fp,tn,J,H2,e,I2,T,st2,f2,W,⟨m0,w0⟩,turn⟩:=h2
 subst e
 have stat:∀ {H':Hp},(∀ b∈fp,H' b=none)→∀ b∈fp,j0 X pins H' b:=fun hn b hb=>⟨hn b hb,(f2 b hb).2⟩
 refine codeAny_forLoop_any (fun n s'=>∃ i σ' H',Inv X pins σ' H' s'∧tn i s'.heap∧(∀ b∈fp,H' b=none)∧W i n σ' H') ?_ m0 ⟨0,σ,H2,I2,st2,fun b hb=>(f2 b hb).1,w0⟩
 rintro n s3 ⟨i,σ3,H3,I3,st3,fr3,w3⟩
 rcases turn i n σ3 H3 w3 with ⟨stop,qn⟩ | ⟨go,N,hN,step⟩
 ·refine wpAny_passesOwn hp (thn (T.done X rfl rfl rfl hc i pins s3 σ3 H3 X.xe I3 (stat fr3) st3 stop) fun r s4 ⟨hr,I4⟩=>?_)
  subst hr
  exact wpAny_execs_nil ⟨σ3,H3,I4,qn⟩
 ·refine wpAny_passesOwn hp (thn (T.item X rfl rfl rfl hc i pins s3 σ3 H3 X.xe I3 (stat fr3) st3 go) fun r s4 ⟨u,hr,h4⟩=>?_)
  subst hr
  refine wpAny_passesOwn hp (thn h4 fun _ s5 ⟨x,H5,I5,r5,y5,st5,fr5⟩=>?_)
  have I5':=I5.pinned (stat fr5) (T.obj _ _ st5)
  refine wpAny_passesOwn hp (thn (hg _ s5 σ3 H5 x u _ I5' r5 (step x H5 y5)) fun _ s6 ⟨σ6,H6,I6,q6⟩=>?_)
  refine wpAny_passesOwn hp (thn (hb _ s6 σ6 H6 _ I6 q6) fun f s7 q7=>?_)
  have again:∀ {σ7:St} {H7:Hp},Inv X (pins++iz fp s5.heap) σ7 H7 s7→N σ7 H7→∃ m,m<n∧∃ i σ' H',Inv X pins σ' H' s7∧tn i s7.heap∧(∀ b∈fp,H' b=none)∧W i m σ' H':=fun {σ7 H7} I7 n7=>by
   obtain ⟨m',hm,w7⟩:=hN σ7 H7 n7
   refine ⟨m',hm,i+1,σ7,H7,I7.f6,T.keep _ _ _ st5 fun b hb o e=>(I7.pin (b,o) (List.mem_append_right _ (List.mem_append_right _ (cZ hb e)))).1,fun b hb=>?_,w7⟩
   obtain ⟨o,e,d⟩:=T.obj _ _ st5 b hb
   exact (I7.pin (b,o) (List.mem_append_right _ (List.mem_append_right _ (cZ hb e)))).2.1
  cases f with
  | next=>obtain ⟨σ7,H7,I7,n7⟩:=q7;exact again I7 n7
  | cont=>obtain ⟨σ7,H7,I7,n7⟩:=q7;exact again I7 n7
  | brk=>obtain ⟨σ7,H7,I7,q7⟩:=q7;exact ⟨σ7,H7,I7.f6,q7⟩
  | ret v=>obtain ⟨x7,σ7,H7,I7,r7,q7⟩:=q7;exact ⟨x7,σ7,H7,I7.f6,r7,q7⟩
end
noncomputable abbrev R2:=V→V→Hp→VK→Prop
noncomputable def OpR (X:Cx) (f:Value→Value→Sem Value) (r:R2):Prop:=
 ∀ (pins:List (Addr×Obj)) (s:Shared) (σ:St) (H:Hp) (x y:V) (v u:Value) (Q:VK),Inv X pins σ H s→RelV x v→RelV y u→r x y H Q →
  wpAny (model X.prog X.w) X.A (f v u) (EP X pins σ Q) X.xe s
noncomputable def UnR (X:Cx) (f:Value→Sem Value) (r:V→Hp→VK→Prop):Prop:=
 ∀ (pins:List (Addr×Obj)) (s:Shared) (σ:St) (H:Hp) (x:V) (v:Value) (Q:VK),Inv X pins σ H s→RelV x v→r x H Q →
  wpAny (model X.prog X.w) X.A (f v) (EP X pins σ Q) X.xe s
noncomputable def cE (X:Cx) (f:Value) (r:List V→Hp→VK→Prop):Prop:=
 ∀ (pins:List (Addr×Obj)) (s:Shared) (σ:St) (H:Hp) (xs:List V) (us:List Value) (Q:VK),Inv X pins σ H s→Vals xs us→r xs H Q →
  wpAny (model X.prog X.w) X.A (call f us) (EP X pins σ Q) X.xe s
noncomputable def tOp (r:R2) (ta tb:TE):TE:=fun σ H Q=>ta σ H fun x H1=>tb σ H1 fun y H2=>r x y H2 Q
noncomputable def tUn (r:V→Hp→VK→Prop) (ta:TE):TE:=fun σ H Q=>ta σ H fun x H1=>r x H1 Q
noncomputable def rI (C:Int→Int→Prop) (g:Int→Int→V):R2:=fun x y H Q=>∃ i j,x=.int i∧y=.int j∧C i j∧Q (g i j) H
noncomputable def rI0 (g:Int→Int→V):R2:=fun x y H Q=>∃ i j,x=.int i∧y=.int j∧Q (g i j) H
noncomputable def rU (g:Int→V):V→Hp→VK→Prop:=fun x H Q=>∃ i,x=.int i∧Q (g i) H
section
variable {X:Cx} {a b c:Expr} {ta tb tc:TE} {pos:Pos}
theorem Az (ha:PE X a ta) (hb:PE X b tb) {pins:List (Addr×Obj)} {s:Shared} {σ:St} {H:Hp} {R:V→V→Hp→Prop} (I:Inv X pins σ H s)
  (h:ta σ H fun x H1=>tb σ H1 fun y H2=>R x y H2) {Q:Value→Shared→Prop} {f:Value→Value→Sem Value}
  (hf:∀ v u s2 x y H2,Inv X pins σ H2 s2→RelV x v→RelV y u→R x y H2→wpAny (model X.prog X.w) X.A (f v u) Q X.xe s2) :
  wpAny (model X.prog X.w) X.A (eval a X.env) (fun v s₁=>wpAny (model X.prog X.w) X.A (eval b X.env) (fun u s₂=>wpAny (model X.prog X.w) X.A (f v u) Q X.xe s₂) X.xe s₁) X.xe s:=by
 refine thn (ha pins s σ H _ I h) fun v s1 ⟨x,H1,I1,r1,q1⟩=>?_
 refine thn (hb pins s1 σ H1 _ I1 q1) fun u s2 ⟨y,H2,I2,r2,q2⟩=>?_
 exact hf v u s2 x y H2 I2 r1 r2 q2
theorem CH {op:Operator} {r:R2} (ho:OpR X (binaryOp op) r) (ha:PE X a ta) (hb:PE X b tb):PE X (.BinOp a op b pos) (tOp r ta tb):=by
 intro pins s σ H Q I h
 exact wpAny_BinOp (Az ha hb I h fun v u s2 x y H2 I2 rx ry q=>ho pins s2 σ H2 x y v u Q I2 rx ry q)
theorem CI {op:UnaryOp} {r:V→Hp→VK→Prop} (ho:UnR X (unaryOp op) r) (ha:PE X a ta):PE X (.UnaryOp op a pos) (tUn r ta):=by
 intro pins s σ H Q I h
 exact UnaryOp_ (thn (ha pins s σ H _ I h) fun v s1 ⟨x,H1,I1,r1,q1⟩=>ho pins s1 σ H1 x v Q I1 r1 q1)
theorem opI {f:Value→Value→Sem Value} {C:Int→Int→Prop} {g:Int→Int→Int}
  (rule:∀ (i j:Int) (t u:Tok) (s:Shared) (Q:Value→Shared→Prop) (E:Value→Shared→Prop),C i j→Q (.int (g i j) s.toks) { s with toks:=s.toks+1 }→wpAny (model X.prog X.w) X.A (f (.int i t) (.int j u)) Q E s) :
  OpR X f (rI C fun i j=>.int (g i j)):=by
 intro pins s σ H x y v u Q I rx ry h
 obtain ⟨i,j,rfl,rfl,hc,q⟩:=h
 obtain ⟨t,rfl⟩:=rx
 obtain ⟨t',rfl⟩:=ry
 exact rule i j t t' s _ _ hc ⟨.int (g i j),H,I.tok _,⟨_,rfl⟩,q⟩
theorem CJ {f:Value→Value→Sem Value} {g:Int→Int→Int}
  (rule:∀ (i j:Int) (t u:Tok) (s:Shared) (Q:Value→Shared→Prop) (E:Value→Shared→Prop),Q (.int (g i j) s.toks) { s with toks:=s.toks+1 }→wpAny (model X.prog X.w) X.A (f (.int i t) (.int j u)) Q E s) :
  OpR X f (rI0 fun i j=>.int (g i j)):=by
 intro pins s σ H x y v u Q I rx ry h
 obtain ⟨i,j,rfl,rfl,q⟩:=h
 obtain ⟨t,rfl⟩:=rx
 obtain ⟨t',rfl⟩:=ry
 exact rule i j t t' s _ _ ⟨.int (g i j),H,I.tok _,⟨_,rfl⟩,q⟩
theorem xT {f:Value→Value→Sem Value} {g:Int→Int→Bool}
  (rule:∀ (i j:Int) (t u:Tok) (s:Shared) (Q:Value→Shared→Prop) (E:Value→Shared→Prop),Q (.bool (g i j)) s→wpAny (model X.prog X.w) X.A (f (.int i t) (.int j u)) Q E s) :
  OpR X f (rI0 fun i j=>.bl (g i j)):=by
 intro pins s σ H x y v u Q I rx ry h
 obtain ⟨i,j,rfl,rfl,q⟩:=h
 obtain ⟨t,rfl⟩:=rx
 obtain ⟨t',rfl⟩:=ry
 exact rule i j t t' s _ _ ⟨.bl (g i j),H,I,rfl,q⟩
noncomputable def CK (i j:Int):Prop:=0≤j∧j≤1000000∧i.natAbs<2 ^ 64
noncomputable def uz (i j:Int):Prop:=(-(2 ^ 64)<i∧i<2 ^ 64)∨(-(2 ^ 64)<j∧j<2 ^ 64)
theorem uz.ok {i j:Int} (h:uz i j):IntMulOk i j:=by
 rcases h with ⟨h1,h2⟩ | ⟨h1,h2⟩
 ·exact .of_left (intBits_le_64 h1 h2)
 ·exact .of_right (intBits_le_64 h1 h2)
theorem AA:OpR X (binaryOp .Add) (rI0 fun i j=>.int (i+j)):=CJ fun _ _ _ _ _ _ _ q=>add_int q
theorem AB:OpR X (binaryOp .Sub) (rI0 fun i j=>.int (i-j)):=CJ fun _ _ _ _ _ _ _ q=>sub_int q
theorem AD:OpR X (binaryOp .Mult) (rI uz fun i j=>.int (i*j)):=opI fun _ _ _ _ _ _ _ hc q=>mul_int q hc.ok
theorem AE:OpR X (binaryOp .Mod) (rI (fun _ j=>0<j) fun i j=>.int (i % j)):=opI fun i j _ _ _ _ _ hc q=>by
 have h1:(0:Int)<j:=hc
 exact mod_int' (by omega) (by rw [Int.fmod_eq_emod_of_nonneg i (by omega)];exact q)
theorem AF:OpR X (binaryOp .Pow) (rI CK fun i j=>.int (i ^ j.toNat)):=opI fun _ _ _ _ _ _ _ hc q=>pow_int_small hc.1 hc.2.1 hc.2.2 q
theorem unI {f:Value→Sem Value} {g:Int→Int}
  (rule:∀ (i:Int) (t:Tok) (s:Shared) (Q:Value→Shared→Prop) (E:Value→Shared→Prop),Q (.int (g i) s.toks) { s with toks:=s.toks+1 }→wpAny (model X.prog X.w) X.A (f (.int i t)) Q E s) :
  UnR X f (rU fun i=>.int (g i)):=by
 intro pins s σ H x v Q I rx h
 obtain ⟨i,rfl,q⟩:=h
 obtain ⟨t,rfl⟩:=rx
 exact rule i t s _ _ ⟨.int (g i),H,I.tok _,⟨_,rfl⟩,q⟩
theorem AG:UnR X (unaryOp .USub) (rU fun i=>.int (-i)):=unI fun _ _ _ _ _ q=>neg_int q
end
section
variable {X:Cx} {a b c:Expr} {ta tb tc:TE} {pos:Pos}
theorem zu:OpR X (compareOp .Lt) (rI0 fun i j=>.bl (decide (i<j))):=xT fun _ _ _ _ _ _ _ q=>lt_int q
theorem f7:OpR X (compareOp .LtE) (rI0 fun i j=>.bl (decide (i≤j))):=xT fun _ _ _ _ _ _ _ q=>le_int q
theorem CL:OpR X (compareOp .Gt) (rI0 fun i j=>.bl (decide (j<i))):=xT fun _ _ _ _ _ _ _ q=>gt_int q
theorem CM:OpR X (compareOp .GtE) (rI0 fun i j=>.bl (decide (j≤i))):=xT fun _ _ _ _ _ _ _ q=>ge_int q
theorem OpR.or {f:Value→Value→Sem Value} {r r':R2} (h:OpR X f r) (h':OpR X f r'):OpR X f (fun x y H Q=>r x y H Q∨r' x y H Q):=by
 intro pins s σ H x y v u Q I rx ry q
 rcases q with q | q
 ·exact h pins s σ H x y v u Q I rx ry q
 ·exact h' pins s σ H x y v u Q I rx ry q
theorem c_ (b:Expr) {op:CmpOp} (h:op≠.In:=by decide) (h2:op≠.NotIn:=by decide):behindInMarks op b=false:=by
 have e1:(op == CmpOp.In)=false:=by cases op<;>first | rfl | exact absurd rfl h
 have e2:(op == CmpOp.NotIn)=false:=by cases op<;>first | rfl | exact absurd rfl h2
 cases b<;>simp [behindInMarks,e1,e2]
theorem xU {op:CmpOp} {r:R2} (ho:OpR X (compareOp op) r) (ha:PE X a ta) (hb:PE X b tb) (hm:behindInMarks op b=false):PE X (.Compare a [op] [b] pos) (tOp r ta tb):=by
 intro pins s σ H Q I h
 exact wpAny_Compare1 (Az ha hb I h fun v u s2 x y H2 I2 rx ry q=>ho pins s2 σ H2 x y v u Q I2 rx ry q) hm
noncomputable def uA (t:TE):TT:=fun σ H Q=>t σ H fun x H'=>∃ k,x=.bl k∧Q k H'
theorem xV {op:CmpOp} {r:R2} (ho:OpR X (compareOp op) r) (ha:PE X a ta) (hb:PE X b tb) (hm:behindInMarks op b=false):PT X (.Compare a [op] [b] pos) (uA (tOp r ta tb)):=by
 intro pins s σ H Q I h
 refine wpAny_isTrue_Compare1 (thn (ha pins s σ H _ I h) fun v s1 ⟨x,H1,I1,r1,q1⟩=>thn (hb pins s1 σ H1 _ I1 q1) fun u s2 ⟨y,H2,I2,r2,q2⟩=>
  thn (ho pins s2 σ H2 x y v u _ I2 r1 r2 q2) fun c s3 ⟨z,H3,I3,r3,k,e,q3⟩=>?_) hm
 subst e
 cases r3
 exact wpAny_truthy_bool ⟨H3,I3,q3⟩
noncomputable def pG (r r':R2) (ta tb tc:TE):TE:=fun σ H Q=>ta σ H fun x H1=>tb σ H1 fun y H2=>r x y H2 fun z H3=>∃ k,z=.bl k ∧
 (if k=true then tc σ H3 fun w' H4=>r' y w' H4 Q else Q (.bl false) H3)
theorem uB {op op':CmpOp} {r r':R2} (ho:OpR X (compareOp op) r) (ho':OpR X (compareOp op') r') (ha:PE X a ta) (hb:PE X b tb) (hc:PE X c tc)
  (hm:lastMarks [op,op'] [b,c]=false:=by with_unfolding_all rfl):PE X (.Compare a [op,op'] [b,c] pos) (pG r r' ta tb tc):=by
 intro pins s σ H Q I h
 refine Compare_chain (thn (ha pins s σ H _ I h) fun v s1 ⟨x,H1,I1,r1,q1⟩=>chain_link (thn (hb pins s1 σ H1 _ I1 q1) fun u s2 ⟨y,H2,I2,r2,q2⟩=>
  thn (ho pins s2 σ H2 x y v u _ I2 r1 r2 q2) fun d s3 ⟨z,H3,I3,r3,k,e,q3⟩=>?_)) hm
 subst e
 cases r3
 refine wpAny_truthy_bool ?_
 cases k with
 | false=>exact ite_ff ⟨.bl false,H3,I3,rfl,q3⟩
 | true=>exact ite_tt (chain_last (thn (hc pins s3 σ H3 _ I3 q3) fun w' s4 ⟨z',H4,I4,r4,q4⟩=>ho' pins s4 σ H4 y z' u w' Q I4 r2 r4 q4))
theorem uC {op op':CmpOp} {r r':R2} (ho:OpR X (compareOp op) r) (ho':OpR X (compareOp op') r') (ha:PE X a ta) (hb:PE X b tb) (hc:PE X c tc)
  (hm:lastMarks [op,op'] [b,c]=false:=by with_unfolding_all rfl):PT X (.Compare a [op,op'] [b,c] pos) (uA (pG r r' ta tb tc)):=by
 intro pins s σ H Q I h
 refine isTrue_chain (thn (ha pins s σ H _ I h) fun v s1 ⟨x,H1,I1,r1,q1⟩=>test_link (thn (hb pins s1 σ H1 _ I1 q1) fun u s2 ⟨y,H2,I2,r2,q2⟩=>
  thn (ho pins s2 σ H2 x y v u _ I2 r1 r2 q2) fun d s3 ⟨z,H3,I3,r3,k,e,q3⟩=>?_)) hm
 subst e
 cases r3
 refine wpAny_truthy_bool ?_
 cases k with
 | false=>
  obtain ⟨k',e',q'⟩:=q3
  cases e'
  exact ite_ff ⟨H3,I3,q'⟩
 | true=>
  refine ite_tt (test_last (thn (hc pins s3 σ H3 _ I3 q3) fun w' s4 ⟨z',H4,I4,r4,q4⟩=>thn (ho' pins s4 σ H4 y z' u w' _ I4 r2 r4 q4) fun d' s5 ⟨z2,H5,I5,r5,k2,e2,q5⟩=>?_))
  subst e2
  cases r5
  exact wpAny_truthy_bool ⟨H5,I5,q5⟩
theorem k7:(sizeLine:Nat)<2 ^ 63:=by rw [sizeLine_eq];decide
theorem vals1 {x:V} {us:List Value} (r:Vals [x] us):∃ u,us=[u]∧RelV x u:=by
 cases r with
 | cons r1 r2=>cases r2;exact ⟨_,rfl,r1⟩
theorem vals2 {x y:V} {us:List Value} (r:Vals [x,y] us):∃ u w',us=[u,w']∧RelV x u∧RelV y w':=by
 cases r with
 | cons r1 r2=>
  cases r2 with
  | cons r3 r4=>cases r4;exact ⟨_,_,rfl,r1,r3⟩
theorem uD:cE X (.builtin "abs") (fun xs H Q=>∃ i,xs=[.int i]∧Q (.int (if i<0 then -i else i)) H):=by
 intro pins s σ H xs us Q I r h
 obtain ⟨i,rfl,q⟩:=h
 obtain ⟨u,rfl,t,rfl⟩:=vals1 r
 exact call_abs_int fun u tk=>⟨.int (if i<0 then -i else i),H,I.tok _,⟨_,rfl⟩,q⟩
theorem sC (hc:X.calm=true):cE X (.builtin "max") (fun xs H Q=>∃ i j,xs=[.int i,.int j]∧Q (.int (if j>i then j else i)) H):=by
 intro pins s σ H xs us Q I r h
 obtain ⟨i,j,rfl,q⟩:=h
 obtain ⟨u,w',rfl,⟨t,rfl⟩,⟨t',rfl⟩⟩:=vals2 r
 refine max_two_ints (I.ok.hd hc) fun h' tk k=>⟨_,H,I.kept k,?_,q⟩
 by_cases hj:j>i
 ·rw [if_pos hj,if_pos hj];exact ⟨_,rfl⟩
 ·rw [if_neg hj,if_neg hj];exact ⟨_,rfl⟩
theorem sD (hc:X.calm=true):cE X (.builtin "min") (fun xs H Q=>∃ i j,xs=[.int i,.int j]∧Q (.int (if j<i then j else i)) H):=by
 intro pins s σ H xs us Q I r h
 obtain ⟨i,j,rfl,q⟩:=h
 obtain ⟨u,w',rfl,⟨t,rfl⟩,⟨t',rfl⟩⟩:=vals2 r
 refine min_two_ints (I.ok.hd hc) fun h' tk k=>⟨_,H,I.kept k,?_,q⟩
 by_cases hj:j<i
 ·rw [if_pos hj,if_pos hj];exact ⟨_,rfl⟩
 ·rw [if_neg hj,if_neg hj];exact ⟨_,rfl⟩
theorem sF:cE X (.type "int") (fun xs H Q=>(∃ i,xs=[.int i]∧Q (.int i) H)∨∃ k,xs=[.bl k]∧Q (.int (if k then 1 else 0)) H):=by
 intro pins s σ H xs us Q I r h
 rcases h with ⟨i,rfl,q⟩ | ⟨k,rfl,q⟩
 ·obtain ⟨u,rfl,t,rfl⟩:=vals1 r
  exact call_int_int ⟨.int i,H,I,⟨_,rfl⟩,q⟩
 ·obtain ⟨u,rfl,r1⟩:=vals1 r
  cases r1
  exact call_int_bool ⟨.int (if k then 1 else 0),H,I.tok _,⟨_,rfl⟩,q⟩
end
structure AH (h:Heap) (x dx C:Addr) (mA:Str→Option Value):Prop where
 obj:h.get? x=some (PySem.W.instObj C dx)
 ns:h.Ns1 dx mA
 ne:dx≠x
theorem sG {h:Heap} {dx:Addr} {mA:Str→Option Value} (n:h.Ns1 dx mA):∃ od,h.get? dx=some od∧∀ name,PySem.W.lookIn name od=some (mA name):=by
 obtain ⟨o,es,ep,ho,hd,hk,_,hm⟩:=n
 refine ⟨o,ho,fun name=>?_⟩
 have e:=hm name
 unfold nsFind findBy at e
 rw [← Array.find?_toList] at e
 unfold PySem.W.lookIn
 rw [hd]
 dsimp only
 split
 ·rename_i y q
  rw [q] at e
  exact congrArg some e
 ·rename_i q
  rw [q] at e
  have a:es.toList.any (·.refKey)=false:=by
   rw [List.any_eq_false]
   intro y hy
   obtain ⟨z,t,hkey⟩:=hk y (Array.mem_toList_iff.mp hy)
   simp [DictEntry.refKey,hkey]
  have a':¬ es.toList.any (·.refKey)=true:=by rw [a];exact Bool.false_ne_true
  rw [if_neg a']
  exact congrArg some e
theorem AH.look {h:Heap} {x dx C:Addr} {mA:Str→Option Value} (I:AH h x dx C mA):∃ od,PySem.W.InstAt h x (PySem.W.instObj C dx) C (some od)∧∀ name,PySem.W.lookIn name od=some (mA name):=
 let ⟨od,ho,hl⟩:=sG I.ns
 ⟨od,⟨I.obj,rfl,rfl,ho⟩,hl⟩
section
variable {P:Program} {w:World} {H H':Hp} {h h':Heap} {a C dx:Addr} {fs fs':List (Str×V)}
theorem xW (hok:HOk P w H h) (e:H a=some (.ins C dx fs)):∃ mA,AH h a dx C mA∧(∀ f,Ah (fs.lookup f) (mA f))∧PySem.Within mA (fs.map (·.1))∧fs.length≤1000∧H dx=some (.own a):=by
 obtain ⟨d,z,ne,ob,mA,n,r,q⟩:=(show bw P w H h a (.ins C dx fs) from hok a _ e)
 exact ⟨mA,⟨ob,n,ne⟩,r,q,z,d⟩
end
structure Cls (K:PySem.W.Frag) (C:Addr):Prop where
 pg:PySem.W.plainGet K C Str.empty=true
 hd:PySem.W.hasDictIn K C=true
 po:PySem.W.plainOver K C=true
 sa:PySem.W.findIn K (.ref C) "__setattr__" = some (some (.builtin "object.__setattr__"))
theorem Cls.get {K:PySem.W.Frag} {C:Addr} (c:Cls K C) (f:Str):PySem.W.plainGet K C f=true:=c.pg
section
variable {X:Cx} {pins:List (Addr×Obj)} {σ:St} {H:Hp} {s:Shared} {A:Around} {E:Value→Shared→Prop} {Q:Value→Shared→Prop} {c:Value} {b:Bool}
inductive f9 (K:PySem.W.Frag) (H:Hp):V→Value→Prop where
 | non:f9 K H .non (.type "NoneType")
 | bl (x:Bool):f9 K H (.bl x) (.type "bool")
 | int (i:Int):f9 K H (.int i) (.type "int")
 | str (x:Str):f9 K H (.str x) (.type "str")
 | flt (x:UInt64):f9 K H (.flt x) (.type "float")
 | lst {a:Addr} {xs:List V} (e:H a=some (.lst xs)):f9 K H (.ref a) (.type "list")
 | frz {a:Addr} {o:Obj} {xs:List V} (e:H a=some (.frz o (.lst xs))):f9 K H (.ref a) (.type "list")
 | tup {a:Addr} {xs:List V} (e:H a=some (.tup xs)):f9 K H (.ref a) (.type "tuple")
 | dK {a:Addr} {kvs:List (Key×V)} (e:H a=some (.dK kvs)):f9 K H (.ref a) (.type "dict")
 | dT {a:Addr} {kvs:List (List Key×V)} (e:H a=some (.dT kvs)):f9 K H (.ref a) (.type "dict")
 | ins {a C dx:Addr} {fs:List (Str×V)} (e:H a=some (.ins C dx fs)) (cl:Cls K C) (ha:PySem.W.findIn K (.ref C) "__class__" = some (some (.builtin "object.__class__")))
   (hn:PySem.W.specialIn K (.builtin "object.__class__") "__get__" = some (some (.builtin "getset_descriptor.__get__"))) (htk:PySem.W.takesIn K (.builtin "object.__class__")=some true)
   (hm:PySem.W.mroIn K C (.type "object")=some true):f9 K H (.ref a) (.ref C)
theorem sH {x:V} {u t:Value} (I:Inv X pins σ H s) (rx:RelV x u) (ty:f9 X.K H x t) (e:PySem.W.kitOne X.K t c=some b) (h:∀ tk,Q (.bool b) { s with toks:=tk }) :
  wpAny (model X.prog X.w) A (call (.builtin "isinstance") [u,c]) Q E s:=by
 cases ty with
 | non=>cases (show u=Value.none from rx);exact PySem.W.kia_one PySem.W.kitx_none I.kIn True.intro e (fun z=>nomatch z) h
 | bl y=>cases (show u=Value.bool y from rx);exact PySem.W.kia_one PySem.W.kitx_bool I.kIn True.intro e (fun z=>nomatch z) h
 | int i=>obtain ⟨t,q⟩:=(show ∃ t,u=Value.int i t from rx);cases q;exact PySem.W.kia_one PySem.W.kitx_int I.kIn True.intro e (fun z=>nomatch z) h
 | str y=>obtain ⟨t,q⟩:=(show ∃ t,u=Value.str y t from rx);cases q;exact PySem.W.kia_one PySem.W.kitx_str I.kIn True.intro e (fun z=>nomatch z) h
 | flt y=>obtain ⟨t,q⟩:=(show ∃ t,u=Value.float y t from rx);cases q;exact PySem.W.kia_one PySem.W.kitx_float I.kIn True.intro e (fun z=>nomatch z) h
 | @lst a xs ea=>
  cases (show u=Value.ref a from rx)
  obtain ⟨_,_,n,_,h1⟩:=(show bw X.prog X.w H s.heap a (.lst xs) from I.hok a _ ea)
  exact PySem.W.kia_one PySem.W.kitx_list I.kIn ⟨_,h1,rfl⟩ e (fun z=>nomatch z) h
 | @frz a ob xs ea=>
  cases (show u=Value.ref a from rx)
  obtain ⟨_,_,_,n,_,h1⟩:=(show bw X.prog X.w H s.heap a (.frz ob (.lst xs)) from I.hok a _ ea)
  exact PySem.W.kia_one PySem.W.kitx_list I.kIn ⟨_,h1,rfl⟩ e (fun z=>nomatch z) h
 | @tup a xs ea=>
  cases (show u=Value.ref a from rx)
  obtain ⟨_,_,_,p⟩:=(show bw X.prog X.w H s.heap a (.tup xs) from I.hok a _ ea)
  obtain ⟨o,h1,h2,_⟩:=p
  exact PySem.W.kia_one PySem.W.kitx_tuple I.kIn ⟨o,h1,h2⟩ e (fun z=>nomatch z) h
 | @dK a kvs ea=>
  cases (show u=Value.ref a from rx)
  obtain ⟨_,_,vs,_,p⟩:=(show bw X.prog X.w H s.heap a (.dK kvs) from I.hok a _ ea)
  obtain ⟨o,es,ep,h1,h2,_⟩:=p
  exact PySem.W.kia_one PySem.W.kitx_dict I.kIn ⟨o,h1,h2.1⟩ e (fun z=>nomatch z) h
 | @dT a kvs ea=>
  cases (show u=Value.ref a from rx)
  obtain ⟨_,_,xs,_,o,es,ep,h1,h2,_⟩:=(show bw X.prog X.w H s.heap a (.dT kvs) from I.hok a _ ea)
  exact PySem.W.kia_one PySem.W.kitx_dict I.kIn ⟨o,h1,h2.1⟩ e (fun z=>nomatch z) h
 | @ins a C dx fs ea cl ha hn htk hm=>
  cases (show u=Value.ref a from rx)
  obtain ⟨mA,O,_⟩:=xW I.hok ea
  obtain ⟨od,J,_⟩:=O.look
  exact PySem.W.kia_one (PySem.W.kitx_own (cl.get _) cl.hd ha hn htk hm) I.kIn J e (fun z=>nomatch z) h
end
structure bG (k:Nat) (A:Around):Prop where
 hd:A.handled=none
 dp:A.depth+3*k+5<recursionLimit
 un:A.units+16*k+200<cLine
 gd:A.guards=some []
theorem bG.mono {j k:Nat} {A:Around} (r:bG k A) (h:j≤k):bG j A:=⟨r.hd,by have:=r.dp;omega,by have:=r.un;omega,r.gd⟩
theorem bG.deeper {k:Nat} {A:Around} (r:bG (k+1) A) (env:Env):bG k (A.deeper env):=
 ⟨r.hd,by have:=r.dp;show A.depth+1+3*k+5<_;omega,by have:=r.un;show A.units+3+16*k+200<_;omega,r.gd⟩
theorem bG.depth {k:Nat} {A:Around} (r:bG k A):A.depth<recursionLimit:=by have:=r.dp;omega
theorem bG.units {k:Nat} {A:Around} (r:bG k A):A.units+64<cLine:=by have:=r.un;omega
noncomputable def AI:TA:=fun _ H Q=>Q [] H
noncomputable def qK (ta:TE) (tr:TA):TA:=fun σ H Q=>ta σ H fun x H1=>tr σ H1 fun xs H2=>Q (x::xs) H2
section
variable {X:Cx} {e:Expr} {es:List Expr} {te:TE} {t:TA} {pos:Pos}
theorem uE:PA X [] AI:=fun _ _ _ _ H Q I h=>Calls.spliced_nil ⟨[],H,I,.nil,h⟩
theorem k8 (ha:PE X e te) (hr:PA X es t) (hs:starEach (e::es) X.env=(false,eval e X.env)::starEach es X.env:=by rfl):PA X (e::es) (qK te t):=by
 intro pos pins s σ H Q I h
 rw [hs]
 show wpAny _ _ (spliced ((false,eval e X.env)::backTo pos (starEach es X.env))) _ _ s
 refine Calls.spliced_cons (thn (ha pins s σ H _ I h) fun u s1 ⟨x,H1,I1,r1,q1⟩=>?_)
 exact thn (hr pos pins s1 σ H1 _ I1 q1) fun us s2 ⟨xs,H2,I2,r2,q2⟩=>⟨x::xs,H2,I2,.cons r1 r2,q2⟩
noncomputable def CN (t:TA):TE:=fun σ H Q=>t σ H fun xs H1=>xs.length≤sizeLine∧∀ p,H1 p=none→Q (.ref p) (upd H1 p (.tup xs))
noncomputable def CO (t:TA):TE:=fun σ H Q=>t σ H fun xs H1=>xs.length≤sizeLine∧∀ p,H1 p=none→Q (.ref p) (upd H1 p (.lst xs))
theorem AJ {x1} (h:PA X es t):PE X (.Tuple es x1 pos) (CN t):=by
 intro pins s σ H Q I hq
 refine wpAny_Tuple_spliced (thn (h pos pins s σ H _ I hq) fun us s1 ⟨xs,H1,I1,r,z,q⟩=>⟨by rw [← r.length];exact z,?_⟩)
 have hf:H1 s1.heap.objs.size=none:=I1.hok.fresh (Nat.le_refl _)
 refine ⟨.ref s1.heap.objs.size,upd H1 s1.heap.objs.size (.tup xs),I1.laid (t':=s1.toks) (fun b u e=>Heap.get?_push_of_some _ e) (Nat.le_refl _) ?_,rfl,q _ hf⟩
 exact ⟨z,us,r,⟨_,Heap.get?_push_size _ rfl,rfl,_,rfl⟩⟩
theorem AK (h:PA X es t):PE X (.List es pos) (CO t):=by
 intro pins s σ H Q I hq
 refine wpAny_List_spliced (thn (h pos pins s σ H _ I hq) fun us s1 ⟨xs,H1,I1,r,z,q⟩=>⟨by rw [← r.length];exact z,?_⟩)
 have hf:H1 s1.heap.objs.size=none:=I1.hok.fresh (Nat.le_refl _)
 refine ⟨.ref s1.heap.objs.size,upd H1 s1.heap.objs.size (.lst xs),I1.laid (t':=s1.toks) (fun b u e=>Heap.get?_push_of_some _ e) (Nat.le_refl _) ?_,rfl,q _ hf⟩
 exact ⟨z,us,0,r,Heap.get?_push_size _ rfl⟩
end
noncomputable abbrev Sp:=List V→Hp→VK→XK→Prop
noncomputable abbrev CXT:=List Env→Hp→Shared→XK→Value→Shared→Prop
structure xX (P:Program) (w:World) (K:PySem.W.Frag) (mg:Str→Option Value) (base:Heap) (A:Around) (outer:List Env) (s:Shared) (H:Hp):Prop where
 frames:A.frames=some outer
 mod:Mod K mg base
 bs:∀ b o,base.get? b=some o→s.heap.get? b=some o∧H b=none
 bsz:base.objs.size≤s.heap.objs.size
 iu:s.heap.FunFrames base outer
 frf:∀ b∈frs outer,H b=none
 hok:HOk P w H s.heap
 bare:AllBare s.gens
noncomputable def CE (outer:List Env) (P:Program) (w:World) (H:Hp) (s:Shared) (Q:VK) (u:Value) (s':Shared):Prop:=
 ∃ v H',s'.os=s.os∧AllBare s'.gens∧Un (frs outer) [] H H' s.heap s'.heap∧HOk P w H' s'.heap∧RelV v u∧Q v H'
noncomputable def CR (CX:CXT) (outer:List Env) (P:Program) (w:World) (H:Hp) (s:Shared) (Q:VK) (E:XK) (r:Result) (s':Shared):Prop:=
 match r with
 | .ok (.ret u)=>CE outer P w H s Q u s'
 | .ok _=>False
 | .error e=>CX outer H s E e s'
structure aY (P:Program) (w:World) (K:PySem.W.Frag) (mg:Str→Option Value) (base:Heap) (CX:CXT) (k:Nat) (f:Addr) (fd:FuncData) (ps:List Str) (sp:Sp):Prop where
 len:∀ vs H Q E,sp vs H Q E→vs.length=ps.length
 run:∀ (A:Around) (outer:List Env) (s:Shared) (H:Hp) (args:Args) (us:List Value) (vs:List V) (Q:VK) (E:XK),bG k A→xX P w K mg base A outer s H→BindsTo s fd args (ps.zip us)→Vals vs us→sp vs H Q E →
  codeAny (model P w) A (.call (.ref f) args) (CR CX outer P w H s Q E) s
section
variable {X:Cx} {pins:List (Addr×Obj)} {σ:St} {H:Hp} {s s':Shared}
theorem Inv.E9 (I:Inv X pins σ H s):xX X.prog X.w X.K X.mg X.base X.A X.stack s H:=
 ⟨I.ok.frames,I.ok.mod,I.bs,Nat.le_trans I.ok.bsz I.sz,I.stack,I.qF,I.hok,I.bare⟩
theorem Inv.after {Q:VK} {u:Value} (I:Inv X pins σ H s) (h:CE X.stack X.prog X.w H s Q u s'):EP X pins σ Q u s':=by
 obtain ⟨v,H',os,bare,un,hok,r,q⟩:=h
 obtain ⟨hh,g,d,t,os'⟩:=s'
 obtain rfl:os'=s.os:=os
 exact ⟨v,H',I.call (h':=hh) (g':=g) (d':=d) (t':=t) (ch:=[]) un hok bare (fun b z=>absurd z (by simp)),r,q⟩
end
noncomputable def uF (sp:Sp) (dvs:List V) (E:XK) (t:TA):TE:=fun σ H Q=>t σ H fun vs H1=>sp (vs++dvs) H1 Q E
noncomputable def Binds (K:PySem.W.Frag) (fd:FuncData) (ps:List Str) (ds:List Value):Prop:=
 ∀ (s:Shared) (us:List Value),K.In s.heap→(us++ds).length=ps.length→BindsTo s fd ⟨us,[]⟩ (ps.zip (us++ds))
theorem Binds.all {K:PySem.W.Frag} {fd:FuncData} {ps:List Str} (h:∀ us:List Value,us.length=ps.length→bindArgs fd ⟨us,[]⟩=pure (ps.zip us)):Binds K fd ps []:=fun s us _ hl=>by
 rw [List.append_nil] at hl ⊢
 exact .of_eq (h us hl)
noncomputable def Passes (CX:CXT) (X:Cx) (E:XK):Prop:=∀ (pins:List (Addr×Obj)) (σ:St) (H:Hp) (s:Shared) (e:Value) (s':Shared),Inv X pins σ H s→CX X.stack H s E e s'→X.xe e s'
section
variable {X:Cx} {CX:CXT} {k:Nat} {f C:Addr} {fd:FuncData} {ps:List Str} {sp:Sp} {dvs:List V} {ds:List Value} {E:XK} {x m:Str} {p pos apos:Pos} {e o:Expr} {es:List Expr} {ta:TE} {t:TA}
theorem AL {pins:List (Addr×Obj)} {σ:St} {H:Hp} {s:Shared} {Q:VK} {us:List Value} {vs:List V} (F:aY X.prog X.w X.K X.mg X.base CX k f fd ps sp) (hr:bG k X.A) (hb:Binds X.K fd ps ds) (hd:Vals dvs ds) (hx:Passes CX X E)
  (I:Inv X pins σ H s) (r:Vals vs us) (h:sp (vs++dvs) H Q E):wpAny (model X.prog X.w) X.A (call (.ref f) us) (EP X pins σ Q) X.xe s:=by
 have r2:Vals (vs++dvs) (us++ds):=r.append hd
 have hl:(us++ds).length=ps.length:=by rw [← r2.length];exact F.len _ _ _ _ h
 refine wpAny_call (codeAny_mono (F.run X.A X.stack s H ⟨us,[]⟩ (us++ds) (vs++dvs) Q E hr I.E9 (hb s us I.kIn hl) r2 h) fun r s' hq=>?_)
 cases r with
 | error e=>exact hx pins σ H s e s' I hq
 | ok fl=>
  cases fl with
  | ret u=>exact I.after hq
  | next=>exact False.elim hq
  | brk=>exact False.elim hq
  | cont=>exact False.elim hq
theorem qL (F:aY X.prog X.w X.K X.mg X.base CX k f fd ps sp) (hr:bG k X.A) (hg:Gl X x) (hm:X.mg x=some (.ref f)) (hk:PySem.W.keepIn X.K (.ref f)=true) (hb:Binds X.K fd ps ds) (hd:Vals dvs ds) (hx:Passes CX X E)
  (ha:PA X (e::es) t) (hdb:(x == ("__debug__" : Str))=false:=by decide) (he:starEach (e::es) X.env=(false,eval e X.env)::starEach es X.env:=by rfl) (hpl:(backTo pos (starEach es X.env)).any (·.1)=false:=by rfl) :
  PE X (.Call (.Name x p) (e::es) [] pos) (uF sp dvs E t):=by
 intro pins s σ H Q I h
 refine wpAny_Call_Name_kw (qH I hg hm ?_ hdb)
 refine PySem.W.callWith_K (h₀:=X.base) I.ok.mod.kin hk (thn (ha pos pins s σ H _ I h) fun us s1 ⟨vs,H1,I1,r,q⟩=>⟨I1.kIn,?_⟩) he hpl
 exact AL F hr hb hd hx I1 r q
end
structure aq (N P:List Str) (sc:Scope):Prop where
 kind:sc.kind=.function
 co:sc.isCoroutine=false
 gen:sc.isGenerator=false
 nd:N.Nodup
 pre:N.take P.length=P
 par:∀ x∈P,sc.names.lookup x=some .local∨sc.names.lookup x=some .cell
 AM:∀ y∈sc.names,y.2≠.free
theorem kh {kindOf:Str→Option NameKind} {x:Str}:∀ {binds:List (Str×Value)} {m:Str→Option Value},(∀ v,(x,v)∉binds)→bindL kindOf binds m x=m x
 | [],_,_=>rfl
 | (n,v)::r,m,h=>by
  unfold bindL
  rw [kh fun w hw=>h w (List.mem_cons_of_mem _ hw)]
  split
  ·have:x≠n:=by rintro rfl;exact h v List.mem_cons_self
   simp [this]
  ·rfl
theorem ki {kindOf:Str→Option NameKind} {x:Str}:∀ {binds:List (Str×Value)} {m:Str→Option Value},(∀ v,(x,v)∉binds)→bindC kindOf binds m x=m x
 | [],_,_=>rfl
 | (n,v)::r,m,h=>by
  unfold bindC
  rw [ki fun w hw=>h w (List.mem_cons_of_mem _ hw)]
  split
  ·rfl
  ·have:x≠n:=by rintro rfl;exact h v List.mem_cons_self
   simp [this]
theorem kj {kindOf:Str→Option NameKind} {x:Str} {v:Value}:∀ {P:List Str} {vs:List Value} {i:Nat} {m:Str→Option Value},P.Nodup→P[i]?=some x→vs[i]?=some v→kindOf x=some .local →
  bindL kindOf (P.zip vs) m x=some v
 | [],_,_,_,_,h,_,_=>by simp at h
 | _::_,[],_,_,_,_,h,_=>by simp at h
 | p::P,w::vs,0,m,nd,h1,h2,hk=>by
  simp at h1 h2;subst h1;subst h2
  show bindL kindOf ((p,w)::P.zip vs) m p=_
  unfold bindL
  rw [kh fun v hv=>(List.nodup_cons.mp nd).1 (List.of_mem_zip hv).1,if_pos hk]
  simp
 | p::P,w::vs,i+1,m,nd,h1,h2,hk=>by
  show bindL kindOf ((p,w)::P.zip vs) m x=_
  unfold bindL
  exact kj (i:=i) (List.nodup_cons.mp nd).2 (by simpa using h1) (by simpa using h2) hk
theorem ko {kindOf:Str→Option NameKind} {x:Str} {v:Value}:∀ {P:List Str} {vs:List Value} {i:Nat} {m:Str→Option Value},P.Nodup→P[i]?=some x→vs[i]?=some v→kindOf x≠some .local →
  bindC kindOf (P.zip vs) m x=some v
 | [],_,_,_,_,h,_,_=>by simp at h
 | _::_,[],_,_,_,_,h,_=>by simp at h
 | p::P,w::vs,0,m,nd,h1,h2,hk=>by
  simp at h1 h2;subst h1;subst h2
  show bindC kindOf ((p,w)::P.zip vs) m p=_
  unfold bindC
  rw [ki fun v hv=>(List.nodup_cons.mp nd).1 (List.of_mem_zip hv).1,if_neg hk]
  simp
 | p::P,w::vs,i+1,m,nd,h1,h2,hk=>by
  show bindC kindOf ((p,w)::P.zip vs) m x=_
  unfold bindC
  exact ko (i:=i) (List.nodup_cons.mp nd).2 (by simpa using h1) (by simpa using h2) hk
noncomputable def start (N:List Str) (vs:List V):St:=vs.map some++List.replicate (N.length-vs.length) none
noncomputable def sI (CX:CXT) (P:Program) (w:World) (K:PySem.W.Frag) (mg:Str→Option Value) (base:Heap) (N:List Str) (qual:Str) (scope:Scope) (f:Addr) (cd:Value) (A:Around) (outer:List Env) (s:Shared) (H:Hp) (E:XK):Cx where
 prog:=P
 w:=w
 K:=K
 mg:=mg
 base:=base
 A:=A.deeper (envOfC qual scope s.heap.objs.size f cd)
 N:=N
 s₀:=s
 H₀:=H
 env:=envOfC qual scope s.heap.objs.size f cd
 outer:=outer
 stack:=envOfC qual scope s.heap.objs.size f cd::outer
 ex:=[]
 calm:=true
 fn:=fun _=>true
 pn:=[]
 xe:=fun e s'=>wpAny (model P w) (A.deeper (envOfC qual scope s.heap.objs.size f cd)) (leaving (envOfC qual scope s.heap.objs.size f cd) e) (fun _ s''=>CX outer H s E e s'') (fun e' s''=>CX outer H s E e' s'') s'
theorem mR {sc:Scope} {n:Nat} {x:Str} (h:sc.names.lookup x=some .cell):∃ c,(cellsFrom n sc.names []).lookup x=some c:=by
 have q:=PySem.W.cellsFrom_some sc.names n [] (.inl h)
 exact Option.isSome_iff_exists.mp q
theorem sJ {CX:CXT} {P:Program} {w:World} {K:PySem.W.Frag} {mg:Str→Option Value} {base:Heap} {N ps:List Str} {qual:Str} {scope:Scope} {f:Addr} {cd:Value} {A:Around} {outer:List Env} {s s1:Shared} {H:Hp} {E:XK} {us:List Value} {vs:List V}
  (S:aq N ps scope) (hd:A.handled=none) (e0:xX P w K mg base A outer s H) (hl:vs.length=ps.length) (r:Vals vs us)
  (x:InCallC s s.heap.objs.size (bindL (envOfC qual scope s.heap.objs.size f cd).kindOf (ps.zip us) fun _=>none) (cellsFrom (s.heap.objs.size+1) scope.names []) (bindC (envOfC qual scope s.heap.objs.size f cd).kindOf (ps.zip us) fun _=>none) s1) :
  Inv (sI CX P w K mg base N qual scope f cd A outer s H E) [] (start N vs) H s1:=by
 have hpl:ps.length≤N.length:=by have:=congrArg List.length S.pre;rw [List.length_take] at this;omega
 obtain ⟨h1,tk,rfl,hk⟩:=x.done
 have noA:∀ b:Addr,b∉(sI CX P w K mg base N qual scope f cd A outer s H E).ex:=fun b z=>absurd (show b∈([]:List Addr) from z) (by simp)
 refine ⟨⟨e0.mod,S.kind,rfl,rfl,Nat.le_refl _,fun y z c h1 h2=>?_,fun y hy=>?_,fun y c _ h=>?_,fun _=>hd,Around.frames_deeper e0.frames,.inr ⟨rfl,rfl⟩,fun b z=>absurd z (noA b),e0.bs,e0.bsz,fun b _ _=>noA b,fun b z=>absurd z (noA b),e0.iu,e0.frf⟩,
  rfl,e0.bare,Un.kept hk,⟨_,x.toInCall.ns,fun i y v h1 h2 h3=>?_⟩,fun y c h=>⟨_,x.cell y c h⟩,e0.hok.fresh (Nat.le_refl _),fun y c h=>?_,fun p hp=>absurd (show p∈([]:List (Addr×Obj)) from hp) (by simp),e0.hok.kept hk,?_⟩
 ·exact name_of_addr x.apart (PySem.mem_of_lookup h1) (PySem.mem_of_lookup h2)
 ·have hy:scope.names.lookup y=some .cell∨scope.names.lookup y=some .free:=hy
  rcases hy with hy | hy
  ·exact mR hy
  ·exact absurd rfl (S.AM _ (PySem.mem_of_lookup hy))
 ·exact Nat.le_of_lt (x.above y c (PySem.mem_of_lookup h))
 ·have hi:i<vs.length:=by
   unfold start at h2
   by_cases hi:i<vs.length
   ·exact hi
   ·rw [List.getElem?_append_right (by simpa using hi)] at h2
    rw [List.getElem?_replicate] at h2
    split at h2<;>cases h2
  have ha:vs[i]?=some v:=by
   unfold start at h2
   rw [List.getElem?_append_left (by simpa using hi),List.getElem?_map] at h2
   cases e:vs[i]? with
   | none=>rw [e] at h2;cases h2
   | some a=>rw [e] at h2;cases h2;rfl
  obtain ⟨u,hu,rv⟩:=r.get ha
  have hp:ps[i]?=some y:=by
   rw [← S.pre,List.getElem?_take_of_lt (by omega)];exact h1
  have ndP:ps.Nodup:=by rw [← S.pre];exact S.nd.sublist (List.take_sublist _ _)
  refine ⟨u,rv,?_⟩
  rcases S.par y (List.mem_of_getElem? hp) with k | k
  ·exact .inl ⟨k,kj ndP hp hu k⟩
  ·obtain ⟨c,e⟩:=mR (n:=s.heap.objs.size+1) k
   refine .inr ⟨.inl k,c,e,?_⟩
   have q:=x.cell y c e
   rw [ko ndP hp hu (by show scope.names.lookup y≠_;rw [k];decide)] at q
   exact q
 ·exact e0.hok.fresh (Nat.le_of_lt (x.above y c (PySem.mem_of_lookup h)))
 ·unfold start
  show _=N.length
  rw [List.length_append,List.length_map,List.length_replicate]
  omega
theorem CP {CX:CXT} {P:Program} {w:World} {K:PySem.W.Frag} {mg:Str→Option Value} {base:Heap} {k:Nat} {f:Addr} {name qual:Str} {params:Arguments} {body:List Stmt} {scope:Scope} {dV kV doc pm cdv ct oc:Value} {an od:Option Addr}
  {osl:Array (Option Value)} {N ps:List Str} {sp:Sp} (lk:K.lookup f=some ⟨oc,od,.func (PySem.W.fnOf name qual params body scope dV kV doc pm an cdv ct),osl⟩) (hcd:PySem.W.codeIn K cdv qual=true) (S:aq N ps scope)
  (len:∀ vs H Q E,sp vs H Q E→vs.length=ps.length)
  (hbody:∀ (A:Around) (outer:List Env) (s:Shared) (H:Hp) (vs:List V) (Q:VK) (E:XK),bG k (A.deeper (envOfC qual scope s.heap.objs.size f cdv))→sp vs H Q E →
   ∃ t,PSs (sI CX P w K mg base N qual scope f cdv A outer s H E) body t∧t { nx:=fun _ H'=>Q .non H',rt:=Q } (start N vs) H) :
  aY P w K mg base CX (k+1) f (PySem.W.fnOf name qual params body scope dV kV doc pm an cdv ct) ps sp:=by
 refine ⟨len,fun A outer s H args us vs Q E hr e0 hb r hsp=>?_⟩
 have hl:=len _ _ _ _ hsp
 have KX:K.In s.heap:=e0.mod.kin.keeps fun b o e=>(e0.bs b o e).1
 have lim:s.heap.NoLimit:=e0.mod.nolimit.keeps fun b o e=>(e0.bs b o e).1
 have hkind:∀ y∈ps.zip us,scope.names.lookup y.1=some .local∨(scope.names.lookup y.1=some .cell∧((cellsFrom (s.heap.objs.size+1) scope.names []).lookup y.1).isSome=true):=fun ⟨n,v⟩ hy=>by
  rcases S.par n (List.of_mem_zip hy).1 with q | q
  ·exact .inl q
  ·exact .inr ⟨q,PySem.W.cellsFrom_some _ _ _ (.inl q)⟩
 refine codeAny_call_function hr.depth (KX _ _ lk) rfl S.co S.gen rfl (PySem.W.codeRec_of KX hcd) (hb _ _ _ _ ?_)
 refine wpAny_newFunctionEnv_cells S.kind hkind fun env he s1 x=>?_
 subst he
 refine ⟨lim.keeps x.toInCall.keep,codeAny_func ?_⟩
 obtain ⟨t,ht,hq⟩:=hbody A outer s H vs Q E (hr.deeper _) hsp
 have I:Inv (sI CX P w K mg base N qual scope f cdv A outer s H E) [] (start N vs) H s1:=sJ S hr.hd e0 hl r x
 refine wpAny_mono (ht [] s1 (start N vs) H _ I hq) (fun fl s' hs=>?_) fun e s' hs=>hs
 have fin:∀ {σ':St} {H':Hp} {v:V} {u:Value},Inv (sI CX P w K mg base N qual scope f cdv A outer s H E) [] σ' H' s'→RelV v u→Q v H'→CE outer P w H s Q u s':=
  fun {σ' H' v u} J rv q=>⟨v,H',J.os,J.bare,J.base,J.hok,rv,q⟩
 cases fl with
 | ret u=>
  obtain ⟨v,σ',H',J,rv,q⟩:=hs
  exact fin J rv q
 | next=>
  obtain ⟨σ',H',J,q⟩:=hs
  exact fin (v:=V.non) (u:=Value.none) J rfl q
 | brk=>
  obtain ⟨_,_,_,q⟩:=hs
  exact False.elim q
 | cont=>
  obtain ⟨_,_,_,q⟩:=hs
  exact False.elim q
section
variable {X:Cx} {x:Str} {p pos:Pos} {e:Expr} {es:List Expr} {t:TA} {id T:String} {r:List V→Hp→VK→Prop}
noncomputable def tCB (r:List V→Hp→VK→Prop) (t:TA):TE:=fun σ H Q=>t σ H fun vs H1=>r vs H1 Q
theorem mS (hc:cE X (.builtin id) r) (hg:Gl X x) (hm:X.mg x=none) (hv:bootBuiltins x=some (.builtin id)) (ha:PA X (e::es) t) (hn:x ≠ "__name__" := by decide) (hdb:(x == ("__debug__" : Str))=false:=by decide)
  (he:starEach (e::es) X.env=(false,eval e X.env)::starEach es X.env:=by rfl) (hpl:(backTo pos (starEach es X.env)).any (·.1)=false:=by rfl):PE X (.Call (.Name x p) (e::es) [] pos) (tCB r t):=by
 intro pins s σ H Q I h
 refine wpAny_Call_Name_kw (ck I hg hm hv ?_ hn hdb)
 exact PyProof.Rows.callWith_builtin1 (thn (ha pos pins s σ H _ I h) fun us s1 ⟨vs,H1,I1,r1,q1⟩=>hc pins s1 σ H1 vs us Q I1 r1 q1) he hpl
theorem sL (hc:cE X (.type T) r) (hg:Gl X x) (hm:X.mg x=none) (hv:bootBuiltins x=some (.type T)) (ha:PA X (e::es) t) (hn:x ≠ "__name__" := by decide) (hdb:(x == ("__debug__" : Str))=false:=by decide)
  (he:starEach (e::es) X.env=(false,eval e X.env)::starEach es X.env:=by rfl) (hpl:(backTo pos (starEach es X.env)).any (·.1)=false:=by rfl):PE X (.Call (.Name x p) (e::es) [] pos) (tCB r t):=by
 intro pins s σ H Q I h
 refine wpAny_Call_Name_kw (ck I hg hm hv ?_ hn hdb)
 exact PyProof.Rows.callWith_type1 (thn (ha pos pins s σ H _ I h) fun us s1 ⟨vs,H1,I1,r1,q1⟩=>hc pins s1 σ H1 vs us Q I1 r1 q1) he hpl
end
end L2
namespace HT
open PySem PyProof.Rows
section
variable {prog:Program} {w:World} {A:Around} {E:Value→Shared→Prop} {s:Shared}
noncomputable def sIx (n d:Nat):Option Int→Nat
 | none=>d
 | some v=>if v<0 then (v+(n:Int)).toNat else min v.toNat n
end
end HT
namespace L2
open PySem PySem.Spec PyProof.Rows
noncomputable abbrev TO:=St→Hp→(Option Int→Hp→Prop)→Prop
noncomputable def PO (X:Cx) (e:Option Expr) (t:TO):Prop:=
 ∀ (pins:List (Addr×Obj)) (s:Shared) (σ:St) (H:Hp) (Q:Option Int→Hp→Prop),Inv X pins σ H s→t σ H Q →
  wpAny (model X.prog X.w) X.A (evalPart e X.env) (fun u s'=>∃ o H',Inv X pins σ H' s'∧IsPart u o∧Q o H') X.xe s
noncomputable def k9:TO:=fun _ H Q=>Q none H
noncomputable def uG (t:TE):TO:=fun σ H Q=>t σ H fun x H1=>∃ i,x=.int i∧Q (some i) H1
section
variable {X:Cx} {e:Expr} {te:TE} {lo hi:Option Expr} {tl th:TO} {pos p2:Pos}
theorem xY:PO X none k9:=by
 intro pins s σ H Q I h
 rw [evalPart_none]
 exact wpAny_pure ⟨none,H,I,.none,h⟩
theorem xZ (h:PE X e te):PO X (some e) (uG te):=by
 intro pins s σ H Q I hw
 rw [evalPart_some]
 refine thn (h pins s σ H _ I hw) fun u s1 ⟨x,H1,I1,r1,q1⟩=>?_
 obtain ⟨i,rfl,q⟩:=q1
 obtain ⟨t,rfl⟩:=r1
 exact ⟨some i,H1,I1,.int i t,q⟩
noncomputable def SlR (X:Cx) (r:V→Option Int→Option Int→Hp→VK→Prop):Prop:=
 ∀ (pins:List (Addr×Obj)) (s:Shared) (σ:St) (H:Hp) (x:V) (v vl vu:Value) (lo hi:Option Int) (sl:Addr) (Q:VK),Inv X pins σ H s→RelV x v→s.heap.IsSliceOf sl vl vu .none→IsPart vl lo→IsPart vu hi→r x lo hi H Q →
  ∃ T id,typeLookup (.type T) "__getitem__" = pure (some (.builtin id))∧s.TypeIs v T∧wpAny (model X.prog X.w) X.A (getItem v (.ref sl)) (EP X pins σ Q) X.xe s
noncomputable def tSl (r:V→Option Int→Option Int→Hp→VK→Prop) (te:TE) (tl th:TO):TE:=fun σ H Q=>te σ H fun x H1=>tl σ H1 fun l H2=>th σ H2 fun u H3=>r x l u H3 Q
theorem uH {r:V→Option Int→Option Int→Hp→VK→Prop} (hr:SlR X r) (he:PE X e te) (hl:PO X lo tl) (hu:PO X hi th):PE X (.Subscript e (.Slice lo hi none p2) pos) (tSl r te tl th):=by
 intro pins s σ H Q I h
 refine Subscript_ (thn (he pins s σ H _ I h) fun v s1 ⟨x,H1,I1,r1,q1⟩=>?_)
 refine wpAny_Slice (thn (hl pins s1 σ H1 _ I1 q1) fun vl s2 ⟨l,H2,I2,pl,q2⟩=>thn (hu pins s2 σ H2 _ I2 q2) fun vu s3 ⟨u,H3,I3,pu,q3⟩=>?_)
 rw [evalPart_none]
 refine wpAny_pure ?_
 have I4:Inv X pins σ H3 { s3 with heap:=s3.heap.push { cls:=.type "slice",data:=.fields #[vl,vu,.none] } }:=I3.kept (t':=s3.toks) fun b ob q=>Heap.get?_push_of_some _ q
 obtain ⟨T,id,hT,ht,hg⟩:=hr pins { s3 with heap:=s3.heap.push { cls:=.type "slice",data:=.fields #[vl,vu,.none] } } σ H3 x v vl vu l u s3.heap.objs.size Q I4 r1 (Heap.IsSliceOf.new ..) pl pu q3
 show wpAny (model X.prog X.w) X.A (subscriptTail e (.Slice lo hi none p2) v (.ref s3.heap.objs.size)) (EP X pins σ Q) X.xe { s3 with heap:=s3.heap.push { cls:=.type "slice",data:=.fields #[vl,vu,.none] } }
 exact tail_any (ops:=[.ref s3.heap.objs.size,v]) ht hT hg (by with_unfolding_all rfl)
noncomputable def pH (xs:List V) (lo hi:Option Int):List V:=(xs.drop (HT.sIx xs.length 0 lo)).take (HT.sIx xs.length xs.length hi-HT.sIx xs.length 0 lo)
theorem mT (xs:List V) (lo hi:Option Int):(pH xs lo hi).length≤xs.length:=by
 unfold pH
 rw [List.length_take,List.length_drop]
 omega
end
noncomputable def ixN (n:Nat) (i:Int):Option Nat:=if 0≤i then (if i<n then some i.toNat else none) else if -(n:Int)≤i then some (i+n).toNat else none
noncomputable def atI {α:Type} (xs:List α) (i:Int):Option α:=(ixN xs.length i).bind fun j=>xs[j]?
theorem qM {n:Nat} {i:Int} {j:Nat} (h:ixN n i=some j):seqIndex? i n=some j∧j<n∧-(n:Int)≤i∧i<n:=by
 unfold ixN at h
 by_cases h0:0≤i
 ·rw [if_pos h0] at h
  by_cases h1:i<n
  ·rw [if_pos h1] at h
   have e:i.toNat=j:=Option.some.inj h
   exact ⟨by rw [seqIndex_of h0 h1,e],by omega,by omega,h1⟩
  ·rw [if_neg h1] at h;cases h
 ·rw [if_neg h0] at h
  by_cases h1:-(n:Int)≤i
  ·rw [if_pos h1] at h
   have e:(i+n).toNat=j:=Option.some.inj h
   exact ⟨by rw [seqIndex_neg (by omega) h1,e],by omega,h1,by omega⟩
  ·rw [if_neg h1] at h;cases h
theorem qN {α:Type} {xs:List α} {i:Int} {v:α} (h:atI xs i=some v):∃ j,seqIndex? i xs.length=some j∧xs[j]?=some v∧j<xs.length∧-(xs.length:Int)≤i∧i<xs.length:=by
 unfold atI at h
 cases e:ixN xs.length i with
 | none=>rw [e] at h;cases h
 | some j=>
  rw [e] at h
  obtain ⟨h1,h2,h3,h4⟩:=qM e
  exact ⟨j,h1,h,h2,h3,h4⟩
noncomputable def qO (b:Expr):Prop:=∀ o i,subscripted b false o i=operate [o,i] (getItem o i)
noncomputable def IxR (X:Cx) (r:R2):Prop:=
 ∀ (value slice:Expr) (pins:List (Addr×Obj)) (s:Shared) (σ:St) (H:Hp) (x y:V) (v u:Value) (Q:VK),Inv X pins σ H s→RelV x v→RelV y u→r x y H Q →
  subscripted slice false v u=operate [v,u] (getItem v u)→wpAny (model X.prog X.w) X.A (subscriptTail value slice v u) (EP X pins σ Q) X.xe s
noncomputable def MtR (X:Cx) (id:String) (r:V→List V→Hp→VK→Prop):Prop:=
 ∀ (pins:List (Addr×Obj)) (s:Shared) (σ:St) (H:Hp) (x:V) (xs:List V) (v:Value) (us:List Value) (Q:VK),Inv X pins σ H s→RelV x v→Vals xs us→r x xs H Q →
  wpAny (model X.prog X.w) X.A (call (.builtin id) (v::us)) (EP X pins σ Q) X.xe s
section
variable {X:Cx} {a b:Expr} {ta tb:TE} {pos:Pos}
theorem IxR.or {r r':R2} (h:IxR X r) (h':IxR X r'):IxR X (fun x y H Q=>r x y H Q∨r' x y H Q):=by
 intro value slice pins s σ H x y v u Q I rx ry q hs
 rcases q with q | q
 ·exact h value slice pins s σ H x y v u Q I rx ry q hs
 ·exact h' value slice pins s σ H x y v u Q I rx ry q hs
theorem CQ {r:R2} (hr:IxR X r) (ha:PE X a ta) (hb:PE X b tb) (hs:qO b):PE X (.Subscript a b pos) (tOp r ta tb):=by
 intro pins s σ H Q I h
 exact Subscript_ (Az ha hb I h fun v u s2 x y H2 I2 rx ry q=>hr a b pins s2 σ H2 x y v u Q I2 rx ry q (hs _ _))
noncomputable def CS (K:PySem.W.Frag):R2:=fun x y H Q=>∃ p xs i v,x=.ref p∧y=.int i∧SqL K H p xs∧atI xs i=some v∧Q v H
noncomputable def CT (K:PySem.W.Frag):R2:=fun x y H Q=>∃ p xs i v,x=.ref p∧y=.int i∧SqT K H p xs∧atI xs i=some v∧Q v H
theorem x6:IxR X (CS X.K):=by
 intro value slice pins s σ H x y v u Q I rx ry h hs
 obtain ⟨p,xs,i,z,rfl,rfl,hq,he,q⟩:=h
 cases rx
 obtain ⟨t,rfl⟩:=ry
 obtain ⟨its,r,pl,hz⟩:=I.list hq
 obtain ⟨j,h1,h2,h3,h4,h5⟩:=qN he
 obtain ⟨w,ew,rw'⟩:=r.get h2
 have hl:=r.length
 have hn:=k7
 have fin:EP X pins σ Q w s:=⟨z,H,I,rw',q⟩
 by_cases h0:0≤i
 ·have hj:i.toNat=j:=by
   rw [seqIndex_of h0 h5] at h1
   exact Option.some.inj h1
  exact item_listR pl.isList h0 (by omega) (by rw [hj];simpa using ew) fin hs
 ·have hj:(i+(its.toArray.size:Int)).toNat=j:=by
   rw [seqIndex_neg (by omega) h4] at h1
   rw [List.size_toArray,← hl]
   exact Option.some.inj h1
  exact subscriptTail_builtinR (x:=w) pl.isList.typeIs slot_list_getitem.lookup
   (wpAny_getItem_list_neg (Q:=fun r s'=>r=w∧EP X pins σ Q r s') pl.isList (by omega) (by rw [List.size_toArray]<;>omega) (by omega) (by rw [hj];simpa using ew) ⟨rfl,fin⟩) hs
theorem AO:IxR X (CT X.K):=by
 intro value slice pins s σ H x y v u Q I rx ry h hs
 obtain ⟨p,xs,i,z,rfl,rfl,hq,he,q⟩:=h
 cases rx
 obtain ⟨t,rfl⟩:=ry
 obtain ⟨its,r,pl,hz⟩:=I.tuple hq
 obtain ⟨j,h1,h2,h3,h4,h5⟩:=qN he
 obtain ⟨w,ew,rw'⟩:=r.get h2
 have hl:=r.length
 have hn:=k7
 have fin:EP X pins σ Q w s:=⟨z,H,I,rw',q⟩
 exact subscriptTail_builtinR (x:=w) pl.typeIs slot_tuple_getitem.lookup
  (getItem_tuple (j:=j) (Q:=fun r s'=>r=w∧EP X pins σ Q r s') pl (by omega) (by omega) (by rw [List.size_toArray,← hl];exact h1) (by simpa using ew) ⟨rfl,fin⟩) hs
theorem pI (its:List Value) (n j:Nat) (u:Value):Obj.mapSeq (·.setIfInBounds j u) { cls:=.type "list",data:=.seq its.toArray n }={ cls:=.type "list",data:=.seq (its.set j u).toArray n }:=by
 simp [Obj.mapSeq]
theorem Inv.lst {pins:List (Addr×Obj)} {σ:St} {H:Hp} {s:Shared} {p:Addr} {xs:List V} (I:Inv X pins σ H s) (h:H p=some (.lst xs)) :
  ∃ (its:List Value) (n:Nat),Vals xs its∧s.heap.get? p=some { cls:=.type "list",data:=.seq its.toArray n }∧xs.length≤sizeLine:=by
 obtain ⟨z,its,n,r,e⟩:=I.hok p _ h
 exact ⟨its,n,r,e,z⟩
theorem Inv.uI {pins:List (Addr×Obj)} {σ:St} {H:Hp} {s:Shared} {p:Addr} {xs ys:List V} {its its':List Value} {n n':Nat} {f:Obj→Obj} (I:Inv X pins σ H s) (h:H p=some (.lst xs))
  (ho:s.heap.get? p=some { cls:=.type "list",data:=.seq its.toArray n }) (hf:f { cls:=.type "list",data:=.seq its.toArray n }={ cls:=.type "list",data:=.seq its'.toArray n' }) (r:Vals ys its') (hz:ys.length≤sizeLine) (t:Nat) :
  Inv X pins σ (upd H p (.lst ys)) { s with heap:=s.heap.update p f,toks:=t }:=by
 have e:(s.heap.update p f).get? p=some { cls:=.type "list",data:=.seq its'.toArray n' }:=by
  rw [Heap.get?_update_self f ho (by rw [hf]<;>rfl),hf]
 refine I.write (x:=p) (e:=p) (by rw [h];trivial) (.inl rfl) (fun b u hb q=>(Heap.get?_update_other _ _ (Ne.symm hb)).trans q) ⟨_,e⟩ ?_
 exact ⟨hz,its',n',r,e⟩
noncomputable def zv:V→V→V→Hp→(Hp→Prop)→Prop:=fun o i v H Q=>∃ p xs k j,o=.ref p∧i=.int k∧H p=some (.lst xs)∧ixN xs.length k=some j∧Q (upd H p (.lst (xs.set j v)))
theorem set_list:CD X zv:=by
 intro pins s σ H o i v ov iv u Q I ro ri rv h
 obtain ⟨p,xs,k,j,rfl,rfl,hp,hj,q⟩:=h
 cases ro
 obtain ⟨t,rfl⟩:=ri
 obtain ⟨its,n,r,ho,hz⟩:=I.lst hp
 obtain ⟨h1,h2,h3,h4⟩:=qM hj
 have hl:=r.length
 have hn:=k7
 have I':Inv X pins σ (upd H p (.lst (xs.set j v))) { s with heap:=s.heap.update p (Obj.mapSeq (·.setIfInBounds j u)) }:=
  I.uI hp ho (pI its n j u) (r.set rv j) (by rw [List.length_set];exact hz) s.toks
 by_cases h0:0≤k
 ·have hk:k.toNat=j:=by
   rw [seqIndex_of h0 h4] at h1
   exact Option.some.inj h1
  exact PySem.W.ki_setAt ho h0 (by omega) (by rw [List.size_toArray,← hl];exact h4) (by rw [hk];exact ⟨_,I',q⟩)
 ·have hk:(k+(its.toArray.size:Int)).toNat=j:=by
   rw [seqIndex_neg (by omega) h3] at h1
   rw [List.size_toArray,← hl]
   exact Option.some.inj h1
  exact PySem.W.ki_setBack ho (by omega) (by rw [List.size_toArray,← hl];exact h3) (by omega) (by rw [hk];exact ⟨_,I',q⟩)
theorem a_ (lo hi:Option Int) (n:Nat):(sliceBounds lo hi none n).1=((HT.sIx n 0 lo:Nat):Int)∧(sliceBounds lo hi none n).2.1=((HT.sIx n n hi:Nat):Int)∧(sliceBounds lo hi none n).2.2=1:=by
 refine ⟨?_,?_,rfl⟩
 ·cases lo with
  | none=>simp [sliceBounds,HT.sIx]
  | some i=>
   simp only [sliceBounds,HT.sIx,Option.getD_none,show (1:Int)>0 by decide,if_true]
   by_cases h:i<0
   ·simp only [h,if_true]<;>omega
   ·simp only [h,if_false]<;>omega
 ·cases hi with
  | none=>simp [sliceBounds,HT.sIx]
  | some i=>
   simp only [sliceBounds,HT.sIx,Option.getD_none,show (1:Int)>0 by decide,if_true]
   by_cases h:i<0
   ·simp only [h,if_true]<;>omega
   ·simp only [h,if_false]<;>omega
theorem j3 (its:List Value) (lo hi:Option Int):slicePick its.toArray lo hi none=((its.drop (HT.sIx its.length 0 lo)).take (HT.sIx its.length its.length hi-HT.sIx its.length 0 lo)).toArray:=by
 obtain ⟨h1,h2,h3⟩:=a_ lo hi its.toArray.size
 unfold slicePick
 rw [h1,h2,h3]
 simp only [sliceRange_one,pick_run,List.size_toArray]<;>rfl
noncomputable def CU (K:PySem.W.Frag):V→Option Int→Option Int→Hp→VK→Prop:=fun x lo hi H Q=>∃ a xs,x=.ref a∧SqL K H a xs∧∀ p,H p=none→Q (.ref p) (upd H p (.lst (pH xs lo hi)))
theorem x8:SlR X (CU X.K):=by
 intro pins s σ H x v vl vu lo hi sl Q I rx hs pl pu h
 obtain ⟨a,xs,rfl,hx,q⟩:=h
 cases rx
 obtain ⟨its,r,ht,hz⟩:=I.list hx
 have hlen:=r.length
 refine ⟨"list",_,slot_list_getitem.lookup,ht.isList.typeIs,?_⟩
 refine wpAny_getItem_list_slice ht.isList hs pl pu .none (by simp) ?_ (by rw [List.size_toArray]<;>omega)
 rw [j3,← hlen]
 refine ⟨.ref s.heap.objs.size,_,I.laid (t':=s.toks) (o:=.lst (pH xs lo hi)) (fun b ob q=>Heap.get?_push_of_some _ q) (Nat.le_refl _) ?_,rfl,q _ (I.hok.fresh (Nat.le_refl _))⟩
 exact ⟨Nat.le_trans (mT xs lo hi) hz,_,0,(r.drop (HT.sIx xs.length 0 lo)).take (HT.sIx xs.length xs.length hi-HT.sIx xs.length 0 lo),Heap.get?_push_size _ rfl⟩
theorem k_:cE X (.builtin "len") (fun xs H Q=>∃ p ys,xs=[.ref p]∧(SqL X.K H p ys∨SqT X.K H p ys)∧Q (.int ys.length) H):=by
 intro pins s σ H xs us Q I r h
 obtain ⟨p,ys,rfl,hq,q⟩:=h
 obtain ⟨u,rfl,rx⟩:=vals1 r
 cases rx
 have hn:=k7
 rcases hq with hq | hq
 ·obtain ⟨its,r',pl,hz⟩:=I.list hq
  have hlen:=r'.length
  exact Calls.call_len_list pl.isList (by simp only [List.size_toArray]<;>omega) ⟨.int ys.length,H,I.tok _,⟨s.toks+1,by rw [List.size_toArray,hlen]⟩,q⟩
 ·obtain ⟨its,r',pl,hz⟩:=I.tuple hq
  have hlen:=r'.length
  exact len_tuple pl (by simp only [List.size_toArray]<;>omega) ⟨.int ys.length,H,I.tok _,⟨s.toks+1,by rw [List.size_toArray,hlen]⟩,q⟩
theorem lu:cE X (.type "list") (fun xs H Q=>∃ p ys,xs=[.ref p]∧(SqL X.K H p ys∨SqT X.K H p ys)∧∀ l,H l=none→Q (.ref l) (upd H l (.lst ys))):=by
 intro pins s σ H xs us Q I r h
 obtain ⟨p,ys,rfl,hq,q⟩:=h
 obtain ⟨u,rfl,rx⟩:=vals1 r
 cases rx
 have fin:∀ (its:List Value),Vals ys its→ys.length≤sizeLine→∀ (h':Heap) (c':Nat),(∀ b o',s.heap.get? b=some o'→h'.get? b=some o') →
   h'.get? s.heap.objs.size=some { cls:=.type "list",dict:=none,data:=.seq its.toArray c',slots:=#[] }→EP X pins σ Q (.ref s.heap.objs.size) { s with heap:=h' }:=fun its r' hz h' c' kp e=>
  ⟨.ref s.heap.objs.size,_,I.laid (t':=s.toks) kp (Nat.le_refl _) (show bw X.prog X.w _ h' _ (.lst ys) from ⟨hz,its,c',r',e⟩),rfl,q _ (I.hok.fresh (Nat.le_refl _))⟩
 rcases hq with hq | hq
 ·obtain ⟨its,r',pl,hz⟩:=I.list hq
  have hlen:=r'.length
  obtain ⟨o,ho,hc,n,hd⟩:=pl.isList
  exact call_list_seq p (.inl rfl) ho hc hd (fun h' c' kp e=>fin its r' hz h' c' kp e) (by simp only [List.size_toArray]<;>omega)
 ·obtain ⟨its,r',pl,hz⟩:=I.tuple hq
  have hlen:=r'.length
  obtain ⟨o,ho,hc,n,hd⟩:=pl
  exact call_list_seq p (.inr rfl) ho hc hd (fun h' c' kp e=>fin its r' hz h' c' kp e) (by simp only [List.size_toArray]<;>omega)
theorem j4:cE X (.type "tuple") (fun xs H Q=>∃ p ys,xs=[.ref p]∧((SqL X.K H p ys∧∀ l,H l=none→Q (.ref l) (upd H l (.tup ys)))∨(SqT X.K H p ys∧Q (.ref p) H))):=by
 intro pins s σ H xs us Q I r h
 obtain ⟨p,ys,rfl,h⟩:=h
 obtain ⟨u,rfl,rx⟩:=vals1 r
 cases rx
 rcases h with ⟨hq,q⟩ | ⟨hq,q⟩
 ·obtain ⟨its,r',pl,hz⟩:=I.list hq
  have hlen:=r'.length
  refine call_tuple_list pl.isList (fun h' kp=>?_) (by simp only [List.size_toArray]<;>omega)
  have I1:Inv X pins σ H { s with heap:=h' }:=I.kept (t':=s.toks) kp
  have I2:Inv X pins σ (upd H h'.objs.size (.tup ys)) { s with heap:=h'.push { cls:=.type "tuple",data:=.seq its.toArray } }:=
   I1.laid (t':=s.toks) (fun b o e=>Heap.get?_push_of_some _ e) (Nat.le_refl _) (show bw X.prog X.w _ _ _ (.tup ys) from ⟨hz,its,r',IsTup.new _ _⟩)
  exact ⟨.ref h'.objs.size,_,I2,rfl,q _ (I1.hok.fresh (Nat.le_refl _))⟩
 ·obtain ⟨its,r',pl,hz⟩:=I.tuple hq
  exact call_tuple_same pl ⟨.ref p,H,I,rfl,q⟩
noncomputable def tyV (K:PySem.W.Frag) (T:String) (x:V) (H:Hp):Prop:=match x with
 | .str _=>T = "str"
 | .int _=>T = "int"
 | .ref p=>(T = "list" ∧ ∃ xs,SqL K H p xs)∨(T = "tuple" ∧ ∃ o,K.lookup p=some o∧o.cls=.type "tuple" ∧ o.dict=none) ∨
   (T = "dict" ∧ ((∃ kvs,H p=some (.dK kvs))∨∃ kvs,H p=some (.dT kvs)))∨(T = "set" ∧ ∃ S n,H p=some (.set S n))
 | _=>False
theorem AQ {pins:List (Addr×Obj)} {σ:St} {H:Hp} {s:Shared} {T:String} {x:V} {v:Value} (I:Inv X pins σ H s) (r:RelV x v) (ty:tyV X.K T x H) :
  s.TypeIs v T∧∀ a,v=.ref a→∃ ob,s.heap.get? a=some ob∧ob.dict=none:=by
 cases x with
 | str z=>
  obtain ⟨t,rfl⟩:=r
  cases (show T = "str" from ty)
  exact ⟨typeIs_str s z t,fun _ e=>nomatch e⟩
 | int i=>
  obtain ⟨t,rfl⟩:=r
  cases (show T = "int" from ty)
  exact ⟨typeIs_int s i t,fun _ e=>nomatch e⟩
 | ref p=>
  cases r
  rcases ty with ⟨rfl,xs,hq⟩ | ⟨rfl,o,hk,hc,hd⟩ | ⟨rfl,hk⟩ | ⟨rfl,S,n,hk⟩
  ·obtain ⟨its,_,pl,_⟩:=I.list hq
   refine ⟨pl.isList.typeIs,fun a e=>?_⟩
   cases e
   obtain ⟨o,n,e,c,hd,_⟩:=pl
   exact ⟨o,e,hd⟩
  ·refine ⟨⟨o,I.kIn p o hk,hc⟩,fun a e=>?_⟩
   cases e
   exact ⟨o,I.kIn _ o hk,hd⟩
  ·have z:∃ o,s.heap.get? p=some o∧o.ExactDict:=by
    rcases hk with ⟨kvs,hk⟩ | ⟨kvs,hk⟩
    ·obtain ⟨_,_,_,_,o,_,_,e,ex,_⟩:=I.hok p _ hk
     exact ⟨o,e,ex⟩
    ·obtain ⟨_,_,_,_,o,_,_,e,ex,_⟩:=I.hok p _ hk
     exact ⟨o,e,ex⟩
   obtain ⟨o,e,ex⟩:=z
   refine ⟨⟨o,e,ex.1⟩,fun a e2=>?_⟩
   cases e2
   exact ⟨o,e,ex.2.1⟩
  ·obtain ⟨o,_,_,_,e,ex,_⟩:=I.hok p _ hk
   refine ⟨⟨o,e,ex.1⟩,fun a e2=>?_⟩
   cases e2
   exact ⟨o,e,ex.2.1⟩
 | _=>exact False.elim ty
noncomputable def tBM (K:PySem.W.Frag) (T:String) (r:V→List V→Hp→VK→Prop) (to:TE) (t:TA):TE:=fun σ H Q=>to σ H fun x H1=>tyV K T x H1∧t σ H1 fun xs H2=>r x xs H2 Q
variable {o e:Expr} {es:List Expr} {to:TE} {t:TA} {name:Str} {apos cpos:Pos} {T id:String} {r:V→List V→Hp→VK→Prop}
theorem CV (pa:PlainAttrs T) (slot:Slot T name id) (hty:typeOf (.builtin id)=pure (.type "method_descriptor")) (hm:MtR X id r) (ho:PE X o to) (ha:PA X (e::es) t)
  (hbase:attributeBase o name X.env (eval o X.env)=eval o X.env:=by rfl)
  (hfew:((backTo cpos (starEach (e::es) X.env)).all (fun x=>!x.1)&&(backToKw cpos (keywordEach [] X.env)).all (fun x=>x.1.isSome)
   && decide ((e::es).length+([]:List Keyword).length+(if ([]:List Keyword).isEmpty then 0 else 1)<30))=true:=by rfl)
  (hline:(apos.endLine == cpos.line)=true:=by rfl) (hs:starEach (e::es) X.env=(false,eval e X.env)::starEach es X.env:=by rfl) (hplain:(backTo cpos (starEach es X.env)).any (·.1)=false:=by rfl) :
  PE X (.Call (.Attribute o name apos) (e::es) [] cpos) (tBM X.K T r to t):=by
 intro pins s σ H Q I h
 refine wpAny_Call_method_late hbase hfew hline rfl (thn (ho pins s σ H _ I h) fun v s1 ⟨x,H1,I1,r1,ty,q1⟩=>?_)
 obtain ⟨h1,h2⟩:=AQ I1 r1 ty
 refine ⟨T,id,pa,slot,hty,h1,h2,?_⟩
 have hA:=ha cpos pins s1 σ H1 _ I1 q1
 rw [hs] at hA ⊢
 refine Calls.callWith_builtin (by show (false||(backTo cpos (starEach es X.env)).any (·.1))=false;rw [hplain]<;>rfl) (Calls.evalArgs_plain ?_)
 exact thn hA fun us s2 ⟨vs,H2,I2,r2,q2⟩=>hm pins s2 σ H2 x vs v us Q I2 r1 r2 q2
end
noncomputable def MtM (X:Cx) (id:String) (r:V→List V→Hp→VK→Prop):Prop:=
 ∀ (pins:List (Addr×Obj)) (s:Shared) (σ:St) (H:Hp) (x:V) (xs:List V) (v:Value) (us:List Value) (Q:VK),Inv X pins σ H s→RelV x v→Vals xs us→r x xs H Q →
  wpAny (model X.prog X.w) X.A (call (.builtin id) (v::us)) (EP X pins σ Q) X.xe s
theorem Vals.one:∀ {x:V} {us:List Value},Vals [x] us→∃ u,us=[u]∧RelV x u
 | _,_,.cons r .nil=>⟨_,rfl,r⟩
theorem Vals.rep {xs:List V} {us:List Value} (h:Vals xs us):∀ k:Nat,Vals (List.replicate k xs).flatten (List.replicate k us).flatten
 | 0=>.nil
 | k+1=>by
  rw [List.replicate_succ,List.replicate_succ,List.flatten_cons,List.flatten_cons]
  exact Vals.append h (Vals.rep h k)
theorem foldl_rep (its:List Value):∀ (k:Nat) (acc:List Value),
  List.foldl (fun x1 x2=>x1++x2) acc.toArray (List.replicate k its.toArray)=(acc++(List.replicate k its).flatten).toArray
 | 0,acc=>by simp
 | k+1,acc=>by
  have e:acc.toArray++its.toArray=(acc++its).toArray:=by simp
  have e2:(acc++its)++(List.replicate k its).flatten=acc++(List.replicate (k+1) its).flatten:=by
   rw [List.replicate_succ,List.flatten_cons,List.append_assoc]
  rw [← e2,← foldl_rep its k (acc++its),← e,List.replicate_succ,List.foldl_cons]
section
variable {X:Cx} {pins:List (Addr×Obj)} {σ:St} {H:Hp} {s:Shared} {l b:Addr} {xs ys zs:List V}
theorem Inv.E_ {its its':List Value} {n:Nat} {f:Array Value→Array Value} {t':Nat} (I:Inv X pins σ H s) (hH:H l=some (.lst xs))
  (e:s.heap.get? l=some { cls:=.type "list",data:=.seq its.toArray n }) (hf:f its.toArray=its'.toArray) (hv:Vals ys its') (hz:ys.length≤sizeLine) :
  Inv X pins σ (upd H l (.lst ys)) { s with heap:=s.heap.update l (Obj.mapSeq f),toks:=t' }:=by
 have q:=PySem.IsL.update e f
 rw [hf] at q
 refine I.write (x:=l) (e:=l) (by rw [hH];exact trivial) (.inl rfl) (fun b' u hb hu=>(Heap.get?_update_other s.heap (Obj.mapSeq f) (Ne.symm hb)).trans hu) ⟨_,q⟩ ?_
 exact ⟨hz,its',_,hv,q⟩
theorem Inv.AR {its:List Value} {t':Nat} (I:Inv X pins σ H s) (hv:Vals ys its) (hz:ys.length≤sizeLine) :
  Inv X pins σ (upd H s.heap.objs.size (.lst ys)) { s with heap:=s.heap.push { cls:=.type "list",data:=.seq its.toArray },toks:=t' }:=
 I.laid (fun _ _ q=>Heap.get?_push_of_some _ q) (Nat.le_refl _) ⟨hz,its,0,hv,Heap.get?_push_size _ rfl⟩
theorem Inv.fresh (I:Inv X pins σ H s):H s.heap.objs.size=none:=I.hok.fresh (Nat.le_refl _)
theorem Inv.Fb (I:Inv X pins σ H s) (hH:H l=some (.lst xs)):xs.length≤sizeLine∧∃ (its:List Value) (n:Nat),Vals xs its∧xs.length=its.length∧s.heap.get? l=some { cls:=.type "list",data:=.seq its.toArray n }:=by
 obtain ⟨z,its,n,r,e⟩:=I.hok l _ hH
 exact ⟨z,its,n,r,r.length,e⟩
theorem uJ {n:Nat} (h:n≤sizeLine):Builtin.List.listTooLong n=false:=by
 unfold Builtin.List.listTooLong
 exact decide_eq_false (by omega)
end
section
variable {X:Cx}
noncomputable def qP:V→List V→Hp→VK→Prop:=fun x vs H Q=>∃ l xs y,x=.ref l∧vs=[y]∧H l=some (.lst xs)∧xs.length<sizeLine∧Q .non (upd H l (.lst (xs++[y])))
theorem kr:MtM X "list.append" qP:=by
 intro pins s σ H x vs v us Q I rx rv h
 obtain ⟨l,xs,y,rfl,rfl,hH,hz,q⟩:=h
 cases rx
 obtain ⟨u,rfl,ru⟩:=rv.one
 obtain ⟨z,its,n,r,hl,e⟩:=I.Fb hH
 refine call_meets F.slot_list_append ⟨_,e,rfl⟩ F.entry_list_append (F.args_list_append_2 _ _) (PySem.list_append l its.toArray n u (by rw [List.size_toArray];omega)) ⟨e,?_⟩
 refine ⟨.non,_,I.E_ (its':=its++[u]) hH e (by simp) (r.append (.cons ru .nil)) ?_,rfl,q⟩
 rw [List.length_append,List.length_singleton]
 omega
theorem len_rep {α:Type} (xs:List α) (k:Nat):(List.replicate k xs).flatten.length=k*xs.length:=by
 induction k with
 | zero=>simp
 | succ k ih=>rw [List.replicate_succ,List.flatten_cons,List.length_append,ih,Nat.succ_mul,Nat.add_comm]
end
end L2
namespace Att
open PySem PySem.W PySem.Calls PyProof.Rows
theorem ic {P:Params} {h:Heap}:∀ (ns:List Int) (vs:List Value),WellAll P h vs (ns.map WData.int)→IntsAre vs ns:=by
 intro ns
 induction ns with
 | nil=>
  intro vs w
  rw [List.map_nil] at w
  cases w
  exact .nil
 | cons n ns ih=>
  intro vs w
  rw [List.map_cons] at w
  cases w with
  | cons a b=>
   cases a
   exact .cons _ _ (ih _ b)
theorem sM {l:OpenLaw} {n:Nat} (hn:l.most=some n) {P:Params} {h:Heap} {args:List WData} {vals:List Value}
  (hpre:l.row.toRowW.claim.pre args=true) (hwl:WellAll P h vals args) :
  ∃ a vs ns,vals=[Value.ref a]∧args=[WData.list (ns.map WData.int)]∧h.get? a=some { cls:=.type "list",data:=.seq vs.toArray }∧IntsAre vs ns∧ns.length≤n:=by
 have hsh:WShape.hasAll [] args [.list .int]=true:=(pre_splitW hpre).1
 have hc:l.pre.holds [] { args:=args }=true:=(pre_splitW hpre).2
 obtain ⟨d,r,rfl,h1,h2⟩:=hasAllW_cons hsh
 obtain rfl:=hasAllW_nil h2
 obtain ⟨xs,rfl,h3⟩:=hasW_list h1
 obtain ⟨ns,rfl⟩:=items_int h3
 have hlen:ns.length≤n:=by
  unfold OpenLaw.pre at hc
  have h4:(WTm.not (.lt (.lit (.int (n:Int))) (.len (.arg 0)))).holds [] { args:=[.list (ns.map .int)] }=true:=by
   have h4:=(holds_andW hc).1
   rw [hn] at h4
   exact h4
  have h5:=condW_of h4 (w_not (w_lt w_lit (w_len_list (w_arg rfl))))
  rw [List.length_map] at h5
  refine Nat.le_of_not_lt fun q=>?_
  have q':(n:Int)<((ns.length:Nat):Int):=by omega
  first
   | (rw [decide_eq_true q'] at h5;exact absurd h5 (by decide))
   | (simp at h5;omega)
 cases hwl with
 | cons w1 w2=>
  cases w2
  cases w1 with
  | list ho hall=>exact ⟨_,_,ns,rfl,rfl,ho,ic ns _ hall,hlen⟩
theorem sN (l:OpenLaw) (args:List WData):l.row.toRowW.claim.post args (.bool true) args=true:=
 postW_of (r:=l.row.toRowW) (X:=(true == true))
  (show WShape.has [] (.bool true) .bool=true by first | rfl | decide | simp [WShape.has,WShape.arms,WShape.armsAll])
  (show (WTm.eq .res (.lit (.bool true))).value [] { args:=args,res:=some (.bool true),after:=args }=some (.bool (true == true)) from w_eq_bool (w_res rfl) w_lit) rfl
theorem mU {l:OpenLaw} {n:Nat} {q:Program} {loose:List Str} {XP:(Str→Option Value)→Heap→Prop} {YP:World→Heap→Prop} {d:DefRec}
  (hn:l.most=some n) (hdf:d.params.defaults=[])
  (call:∀ (w:World) (s₀ s₁:Shared) (mg mb:Str→Option Value) (fa:Addr) (o:Obj) (pm cd doc:Value) (a:Addr) (vs:List Value) (ns:List Int),
   Ground q loose [] XP w s₀ mg mb s₁.heap→YP w s₁.heap →
   s₁.heap.get? fa=some o→o.data=.func (docDef d.name d.params d.body d.scope pm cd doc)→s₁.heap.CodeRec cd d.name→mg d.name=some (.ref fa) →
   s₁.heap.get? a=some { cls:=.type "list",data:=.seq vs.toArray }→IntsAre vs ns→ns.length≤n→s₁.gens=#[] →
   codeAny (model l.prog w) callerA (.call (.ref fa) ⟨[.ref a],[]⟩) (fun r s'=>r=.ok (.ret (.bool true))∧OldK s₁.heap s'.heap∧s'.os=s₁.os∧AllBare s'.gens) s₁) :
  WalkO q loose XP YP l.row.toRowW d [] (fun f vs=>PySem.call f vs):=by
 intro w s₀ s₁ mg mb G Y fa o pm cd doc dV kV ho hd hcd hD hmg hg args vals as hpre hlay hrd hwl hlo
 obtain rfl:dV=.none:=Dflts.none hD hdf
 obtain rfl:kV=.none:=Dflts.noKw hD
 obtain ⟨a,vs,ns,rfl,rfl,hobj,hints,hlen⟩:=sM hn hpre hwl
 refine enter_call (codeAny_mono (call w s₀ s₁ mg mb fa o pm cd doc a vs ns G Y ho (fd_plain hd) hcd hmg hobj hints hlen hg) fun r s' hq=>?_)
 obtain ⟨rfl,h2,h3,h4⟩:=hq
 exact ⟨.inl ⟨.bool true,.bool true,[],rfl,fun _=>rfl,.bool true,sN l _,fun _=>⟨List.Pairwise.nil,fun _ hm=>(nomatch hm)⟩⟩,h2,h3,h4⟩
end Att
namespace L2
open PySem PySem.Spec PyProof.Rows
theorem ku:∀ {vs:List Value} {ns:List Int},IntsAre vs ns→Vals (ns.map V.int) vs
 | _,_,.nil=>.nil
 | _,_,.cons n t h=>.cons ⟨t,rfl⟩ (ku h)
noncomputable def AS (H:Hp):Prop:=∀ b,H b=none∨∃ o xs,H b=some (.frz o (.lst xs))
theorem uK {P:Program} {w:World} {K:PySem.W.Frag} {mg mb:Str→Option Value} {CX:CXT} {k:Nat} {fa a:Addr} {fd:FuncData} {x:Str} {sp:Sp} {s₁:Shared} {vs:List Value} {ns:List Int}
  (KX:K.In s₁.heap) (hns:s₁.heap.Ns mainGlobals mg) (hb:s₁.heap.Ns builtinsNs mb) (hbb:∀ x:Str,x ≠ "__name__" → mb x=bootBuiltins x) (hlim:s₁.heap.NoLimit) (hg:s₁.gens=#[])
  (ha:s₁.heap.get? a=some { cls:=.type "list",data:=.seq vs.toArray }) (hi:IntsAre vs ns) (hl:ns.length≤sizeLine) (hr:bG k callerA)
  (F:∀ base:Heap,K.In base→base.Ns mainGlobals mg→aY P w K mg base CX k fa fd [x] sp) (hbind:∀ (s:Shared) (u:Value),BindsTo s fd ⟨[u],[]⟩ [(x,u)])
  (hsp:∀ H:Hp,AS H→SqL K H a (ns.map V.int)→sp [.ref a] H (fun v _=>v=.bl true) fun _ _ _=>False)
  (hCX:∀ H e s',CX [] H s₁ (fun _ _ _=>False) e s'→False) :
  codeAny (model P w) callerA (.call (.ref fa) ⟨[.ref a],[]⟩) (fun r s'=>r=.ok (.ret (.bool true))∧OldK s₁.heap s'.heap∧s'.os=s₁.os∧AllBare s'.gens) s₁:=by
 have rv:=ku hi
 have Fc:=hi.length
 have core:∀ H:Hp,AS H→SqL K H a (ns.map V.int)→HOk P w H s₁.heap→(∀ b,H b≠none→b=a)→(H a≠none→K.lookup a=none) →
   codeAny (model P w) callerA (.call (.ref fa) ⟨[.ref a],[]⟩) (fun r s'=>r=.ok (.ret (.bool true))∧OldK s₁.heap s'.heap∧s'.os=s₁.os∧AllBare s'.gens) s₁:=by
  intro H hO hS hok hA hK
  have qQ:∀ {b:Addr} {o:Obj},s₁.heap.get? b=some o→H b=none→(kX s₁.heap H).get? b=some o:=fun e n=>uh e n
  have noA:∀ {b:Addr} {o:Obj} {es:Array DictEntry} {ep:Nat},s₁.heap.get? b=some o→o.data=.dict es ep→H b=none:=fun {b o es ep} e d=>by
   cases q:H b with
   | none=>rfl
   | some u=>
    have e':b=a:=hA b (by rw [q];simp)
    subst e'
    rw [ha] at e;cases e
    have d':Data.seq vs.toArray _=Data.dict es ep:=d
    cases d'
  have nsK:∀ {b:Addr} {m:Str→Option Value},s₁.heap.Ns b m→(kX s₁.heap H).Ns b m:=fun {b m} ⟨o,es,ep,e,d,r⟩=>⟨o,es,ep,qQ e (noA e d),d,r⟩
  have hKb:K.In (kX s₁.heap H):=fun b o e=>qQ (KX b o e) (by
   cases q:H b with
   | none=>rfl
   | some u=>
    have e':b=a:=hA b (by rw [q];simp)
    subst e'
    rw [hK (by rw [q];simp)] at e;cases e)
  have hM:Mod K mg (kX s₁.heap H):=⟨hKb,nsK hns,⟨mb,nsK hb,hbb⟩,let ⟨mc,h1,h2⟩:=hlim;⟨mc,nsK h1,h2⟩⟩
  have e0:xX P w K mg (kX s₁.heap H) callerA [] s₁ H:=⟨rfl,hM,fun b o e=>xM e,Nat.le_of_eq (se _ _),trivial,fun b hb=>absurd (show b∈([]:List Addr) from hb) (by simp),hok,.of_eq hg⟩
  refine codeAny_mono ((F _ hKb (nsK hns)).run callerA [] s₁ H ⟨[.ref a],[]⟩ [.ref a] [.ref a] _ _ hr e0 (hbind s₁ (.ref a)) (.cons rfl .nil) (hsp H hO hS)) fun r s' h=>?_
  cases r with
  | error e=>exact (hCX H e s' h).elim
  | ok fl=>
   cases fl with
   | next=>exact False.elim h
   | brk=>exact False.elim h
   | cont=>exact False.elim h
   | ret u=>
    obtain ⟨v,H',os,bare,un,Fd,r',q⟩:=h
    have q':v=.bl true:=q
    subst q'
    obtain rfl:u=Value.bool true:=r'
    refine ⟨rfl,OldK.of_keep fun b o e=>?_,os,bare⟩
    cases q:H b with
    | none=>exact un.keep b o e q (by intro z;exact absurd (show b∈([]:List Addr) from z) (by simp)) (by simp)
    | some u=>
     rcases hO b with z | ⟨ob,xs,z⟩
     ·rw [q] at z;cases z
     ·have z2:=un.kW b ob _ z
      obtain ⟨e1,_⟩:=hok b _ z
      obtain ⟨e2,_⟩:=Fd b _ z2
      rw [e] at e1;cases e1
      exact e2
 cases hk:K.lookup a with
 | some o=>
  have e:=KX a o hk
  rw [ha] at e
  cases e
  refine core (fun _=>none) (fun _=>.inl rfl) (.inr ⟨_,vs.toArray,_,hk,rfl,rfl,rfl,by rw [List.size_toArray,Fc];exact hl,by simpa using rv⟩) (fun b u z=>by have z':(none:Option HO)=some u:=z;cases z') (fun b z=>absurd rfl z) fun z=>absurd rfl z
 | none=>
  refine core (fun b=>if b=a then some (.frz { cls:=.type "list",data:=.seq vs.toArray } (.lst (ns.map V.int))) else none) (fun b=>?_) (.inl (.inr ⟨{ cls:=.type "list",data:=.seq vs.toArray },if_pos rfl⟩)) (fun b u z=>?_) (fun b z=>?_) fun _=>hk
  ·by_cases hb:b=a
   ·exact .inr ⟨_,_,if_pos hb⟩
   ·exact .inl (if_neg hb)
  ·by_cases hb:b=a
   ·have z':=(if_pos hb).symm.trans z
    cases z'
    subst hb
    exact ⟨ha,by rw [List.length_map];exact hl,vs,_,rv,ha⟩
   ·have z':=(if_neg hb).symm.trans z
    cases z'
  ·by_cases hb:b=a
   ·exact hb
   ·exact absurd (if_neg hb) z
theorem x9 {l:PySem.W.OpenLaw} {n k:Nat} {q:Program} {loose:List Str} {XP:(Str→Option Value)→Heap→Prop} {YP:World→Heap→Prop} {d:DefRec} {K:Params→PySem.W.Frag} {CX:World→CXT} {sp:World→Sp} {x:Str}
  (hn:l.most=some n) (hn2:n≤sizeLine) (hdf:d.params.defaults=[]) (hr:bG k callerA)
  (hY:∀ (w:World) (h:Heap),YP w h→(K w.params).In h)
  (F:∀ (w:World) (mg:Str→Option Value) (fa:Addr) (h:Heap),(K w.params).In h→h.Ns mainGlobals mg→mg d.name=some (.ref fa) →
   ∃ fd:FuncData,(∀ (s:Shared) (u:Value),BindsTo s fd ⟨[u],[]⟩ [(x,u)]) ∧
    ∀ base:Heap,(K w.params).In base→base.Ns mainGlobals mg→aY l.prog w (K w.params) mg base (CX w) k fa fd [x] (sp w))
  (hsp:∀ (w:World) (H:Hp) (a:Addr) (ns:List Int),ns.length≤n→AS H→SqL (K w.params) H a (ns.map V.int)→sp w [.ref a] H (fun v _=>v=.bl true) fun _ _ _=>False)
  (hCX:∀ (w:World) (H:Hp) (s:Shared) (e:Value) (s':Shared),CX w [] H s (fun _ _ _=>False) e s'→False) :
  PySem.W.WalkO q loose XP YP l.row.toRowW d [] (fun f vs=>PySem.call f vs):=by
 refine Att.mU hn hdf fun w s₀ s₁ mg mb fa o pm cd doc a vs ns G Y ho hd hcd hmg hobj hints hlen hg=>?_
 have KX:=hY w _ Y
 obtain ⟨fd,hb,hF⟩:=F w mg fa _ KX G.T.g hmg
 exact uK KX G.T.g G.T.b G.T.builtins G.T.nolimit hg hobj hints (Nat.le_trans hlen hn2) hr hF hb (fun H hO hS=>hsp w H a ns hlen hO hS) fun H e s'=>hCX w H s₁ e s'
noncomputable def bD (s:Stmt):Arguments:=match s with
 | .FunctionDef _ a _ _ _ _ _ _ _ _=>a
 | _=>{ posonlyargs:=[],args:=[],vararg:=none,kwonlyargs:=[],kw_defaults:=[],kwarg:=none,defaults:=[] }
noncomputable def bA (s:Stmt):List Stmt:=match s with
 | .FunctionDef _ _ b _ _ _ _ _ _ _=>b
 | _=>[]
noncomputable def ai (s:Stmt):Scope:=match s with
 | .FunctionDef _ _ _ _ _ _ sc _ _ _=>sc
 | _=>{ kind:=.function,names:=[],isGenerator:=false,isCoroutine:=false }
noncomputable abbrev CX0:CXT:=fun _ _ _ _ _ _=>False
noncomputable abbrev E0:XK:=fun _ _ _=>False
theorem zw {X:Cx}:Passes CX0 X E0:=fun _ _ _ _ _ _ _ h=>h.elim
structure Fun (K:PySem.W.Frag) (x qual:Str) (st:Stmt) (f:Addr) (fd:FuncData):Prop where
 ex:∃ (oc:Value) (od:Option Addr) (kV doc pm:Value) (an:Option Addr) (cdv ct:Value) (osl:Array (Option Value)),
  fd=PySem.W.fnOf x qual (bD st) (bA st) (ai st) .none kV doc pm an cdv ct∧K.lookup f=some ⟨oc,od,.func fd,osl⟩∧PySem.W.codeIn K cdv qual=true
 kp:PySem.W.keepIn K (.ref f)=true
section
variable {P:Program} {w:World} {K:PySem.W.Frag} {mg:Str→Option Value} {base:Heap}
theorem Fun.ok {x qual:Str} {st:Stmt} {f:Addr} {fd:FuncData} {N ps:List Str} {k:Nat} {sp:Sp} (F:Fun K x qual st f fd) (S:aq N ps (ai st)) (len:∀ vs H Q E,sp vs H Q E→vs.length=ps.length)
  (hbody:∀ (cdv:Value) (A:Around) (outer:List Env) (s:Shared) (H:Hp) (vs:List V) (Q:VK) (E:XK),bG k (A.deeper (envOfC qual (ai st) s.heap.objs.size f cdv))→sp vs H Q E →
   ∃ t,PSs (sI CX0 P w K mg base N qual (ai st) f cdv A outer s H E).nox (bA st) t∧t { nx:=fun _ H'=>Q .non H',rt:=Q } (start N vs) H):aY P w K mg base CX0 (k+1) f fd ps sp:=by
 obtain ⟨oc,od,kV,doc,pm,an,cdv,ct,osl,rfl,lk,hcd⟩:=F.ex
 refine CP lk hcd S len fun A outer s H vs Q E hr hsp=>?_
 obtain ⟨t,h,q⟩:=hbody cdv A outer s H vs Q E hr hsp
 exact ⟨t,h.nox,q⟩
theorem Fun.binds {x qual:Str} {st:Stmt} {f:Addr} {fd:FuncData} {ps:List Str} (F:Fun K x qual st f fd)
  (h:∀ (kV doc pm:Value) (an:Option Addr) (cdv ct:Value) (us:List Value),us.length=ps.length→bindArgs (PySem.W.fnOf x qual (bD st) (bA st) (ai st) .none kV doc pm an cdv ct) ⟨us,[]⟩=pure (ps.zip us)):Binds K fd ps []:=by
 obtain ⟨oc,od,kV,doc,pm,an,cdv,ct,osl,rfl,lk,hcd⟩:=F.ex
 exact .all (h kV doc pm an cdv ct)
theorem AU {x qual:Str} {st:Stmt} {f:Addr} {oc:Value} {od an:Option Addr} {osl:Array (Option Value)} {kV doc pm cdv ct:Value} (l:K.lookup f=some ⟨oc,od,.func (PySem.W.fnOf x qual (bD st) (bA st) (ai st) .none kV doc pm an cdv ct),osl⟩)
  (c:PySem.W.codeIn K cdv qual=true) (k:PySem.W.keepIn K (.ref f)=true):Fun K x qual st f (PySem.W.fnOf x qual (bD st) (bA st) (ai st) .none kV doc pm an cdv ct):=⟨⟨oc,od,kV,doc,pm,an,cdv,ct,osl,rfl,l,c⟩,k⟩
end
noncomputable def ao (H H':Hp):Prop:=∀ b o,H b=some o→H' b=some o
theorem ao.refl (H:Hp):ao H H:=fun _ _ h=>h
theorem ao.trans {H H1 H2:Hp} (a:ao H H1) (b:ao H1 H2):ao H H2:=fun c o h=>b c o (a c o h)
theorem ao.free {H H':Hp} (e:ao H H') {l:Addr} (h:H' l=Option.none):H l=Option.none:=by
 cases q:H l with
 | none=>rfl
 | some o=>
  rw [e l o q] at h
  cases h
section
variable {X:Cx} {pins:List (Addr×Obj)} {σ:St} {H:Hp} {s:Shared} {a:Addr} {y v:V} {u r:Value} {o:Option V} {A:Around} {E:Value→Shared→Prop}
theorem Inv.big (I:Inv X pins σ H s):sysModules<s.heap.objs.size:=by
 have h:mainGlobals<s.heap.objs.size:=(I.mod.glob.keeps I.bk).lt
 exact Nat.lt_trans (by decide) h
end
theorem uL {P:Program} {w:World} {H:Hp} (h:Heap) (hb:sysModules<h.objs.size):bw P w H (h.push { cls:=.type "dict",data:=.dict #[] }) h.objs.size (.dK []):=
 ⟨Nat.zero_le _,beq_eq_false_iff_ne.mpr (Ne.symm (Nat.ne_of_lt hb)),[],.nil,Heap.DictOf.new h⟩
noncomputable def uM:TE:=fun _ H Q=>∀ p,H p=none→Q (.ref p) (upd H p (.dK []))
section
variable {X:Cx} {pos:Pos}
theorem uN:PE X (.Dict [] [] pos) uM:=fun pins s σ H Q I h=>
 wpAny_Dict_empty ⟨.ref s.heap.objs.size,_,I.laid (a:=s.heap.objs.size) (o:=.dK []) (t':=s.toks) (fun _ _ q=>Heap.get?_push_of_some _ q) (Nat.le_refl _) (uL s.heap I.big),rfl,h _ (I.hok.fresh (Nat.le_refl _))⟩
end
end L2
namespace Dm
inductive Dat where
 | non
 | bl (b:Bool)
 | int (i:Int)
 | str (s:List Nat)
 | tup (xs:List Dat)
 | lst (xs:List Dat)
 | dct (ks:List Int) (vs:List Dat)
 | exc (C:Nat)
 | fn (a:Nat)
deriving Inhabited
inductive Cell where
 | un
 | sh (d:Dat)
 | ow (d:Dat)
deriving Inhabited
noncomputable abbrev Env:=List Cell
inductive Val where
 | val (d:Dat)
 | slot (i:Nat)
 | new (d:Dat)
inductive RV where
 | val (d:Dat)
 | new (d:Dat)
noncomputable def RV.dat:RV→Dat
 | .val d=>d
 | .new d=>d
noncomputable def RV.bB:RV→Val
 | .val d=>.val d
 | .new d=>.new d
noncomputable def SZ:Nat:=100000
noncomputable def cS:Dat→Bool
 | .tup _=>true
 | .lst _=>true
 | .dct _ _=>true
 | .exc _=>true
 | _=>false
noncomputable def pk (ρ:Env):Val→Option Dat
 | .val d=>some d
 | .new d=>some d
 | .slot i=>match ρ[i]? with
  | some (.ow d)=>some d
  | some (.sh d)=>some d
  | _=>none
noncomputable def tk (ρ:Env):Val→Option (Dat×Env)
 | .val d=>some (d,ρ)
 | .new d=>some (d,ρ)
 | .slot i=>match ρ[i]? with
  | some (.ow d)=>some (d,ρ.set i (.sh d))
  | some (.sh d)=>some (d,ρ)
  | _=>none
noncomputable def pks (ρ:Env):List Val→Option (List Dat)
 | []=>some []
 | x::r=>match pk ρ x with
  | none=>none
  | some d=>match pks ρ r with
   | none=>none
   | some ds=>some (d::ds)
noncomputable def tks (ρ:Env):List Val→Option (List Dat×Env)
 | []=>some ([],ρ)
 | x::r=>match tk ρ x with
  | none=>none
  | some (d,ρ1)=>match tks ρ1 r with
   | none=>none
   | some (ds,ρ2)=>some (d::ds,ρ2)
noncomputable abbrev FE:=Env→Option (Val×Env)
noncomputable abbrev FT:=Env→Option (Bool×Env)
noncomputable def eC (d:Dat):FE:=fun ρ=>some (.val d,ρ)
noncomputable def eV (i:Nat):FE:=fun ρ=>match ρ[i]? with
 | some (.sh d)=>some (.val d,ρ)
 | some (.ow _)=>some (.slot i,ρ)
 | _=>none
noncomputable def e1 (g:Dat→Option RV) (a:FE):FE:=fun ρ=>match a ρ with
 | none=>none
 | some (x,ρ1)=>match pk ρ1 x with
  | none=>none
  | some d=>match g d with
   | none=>none
   | some v=>some (v.bB,ρ1)
noncomputable def e2 (g:Dat→Dat→Option RV) (a b:FE):FE:=fun ρ=>match a ρ with
 | none=>none
 | some (x,ρ1)=>match b ρ1 with
  | none=>none
  | some (y,ρ2)=>match pk ρ2 x with
   | none=>none
   | some d=>match pk ρ2 y with
    | none=>none
    | some e=>match g d e with
     | none=>none
     | some v=>some (v.bB,ρ2)
noncomputable def eAs:List FE→Env→Option (List Val×Env)
 | [],ρ=>some ([],ρ)
 | a::r,ρ=>match a ρ with
  | none=>none
  | some (x,ρ1)=>match eAs r ρ1 with
   | none=>none
   | some (xs,ρ2)=>some (x::xs,ρ2)
noncomputable def eB (g:List Dat→Option RV) (as:List FE):FE:=fun ρ=>match eAs as ρ with
 | none=>none
 | some (xs,ρ1)=>match pks ρ1 xs with
  | none=>none
  | some ds=>match g ds with
   | none=>none
   | some v=>some (v.bB,ρ1)
noncomputable def aT (as:List FE):FE:=fun ρ=>match eAs as ρ with
 | none=>none
 | some (xs,ρ1)=>match tks ρ1 xs with
  | none=>none
  | some (ds,ρ2)=>if ds.length≤SZ then some (.val (.tup ds),ρ2) else none
noncomputable def bf (as:List FE):FE:=fun ρ=>match eAs as ρ with
 | none=>none
 | some (xs,ρ1)=>match tks ρ1 xs with
  | none=>none
  | some (ds,ρ2)=>if ds.length≤SZ then some (.new (.lst ds),ρ2) else none
noncomputable def eF (f:List Dat→Option RV) (as:List FE):FE:=fun ρ=>match eAs as ρ with
 | none=>none
 | some (xs,ρ1)=>match pks ρ1 xs with
  | none=>none
  | some ds=>match f ds with
   | none=>none
   | some v=>if cS v.dat then (match tks ρ1 xs with
     | none=>none
     | some (_,ρ2)=>some (v.bB,ρ2)) else some (v.bB,ρ1)
noncomputable def eIf (t:FT) (a b:FE):FE:=fun ρ=>match t ρ with
 | none=>none
 | some (true,ρ1)=>a ρ1
 | some (false,ρ1)=>b ρ1
noncomputable def dP (a b:FE):FE:=fun ρ=>match a ρ with
 | some (.val (.bl true),ρ1)=>b ρ1
 | some (.val (.bl false),ρ1)=>some (.val (.bl false),ρ1)
 | _=>none
noncomputable def uO (a:FE):FE:=fun ρ=>match a ρ with
 | some (.val (.bl c),ρ1)=>some (.val (.bl (!c)),ρ1)
 | _=>none
noncomputable def tV (a:FE):FT:=fun ρ=>match a ρ with
 | some (.val (.bl c),ρ1)=>some (c,ρ1)
 | _=>none
noncomputable def bP (t:FT):FT:=fun ρ=>match t ρ with
 | some (c,ρ1)=>some (!c,ρ1)
 | none=>none
noncomputable def fZ (t u:FT):FT:=fun ρ=>match t ρ with
 | some (true,ρ1)=>u ρ1
 | some (false,ρ1)=>some (false,ρ1)
 | none=>none
noncomputable def tOr (t u:FT):FT:=fun ρ=>match t ρ with
 | some (true,ρ1)=>some (true,ρ1)
 | some (false,ρ1)=>u ρ1
 | none=>none
noncomputable def cF:FT:=fun ρ=>some (true,ρ)
noncomputable abbrev FI:=Env→Option (List Dat×Env)
noncomputable def iL (a:FE):FI:=fun ρ=>match a ρ with
 | none=>none
 | some (x,ρ1)=>match tk ρ1 x with
  | some (.lst ds,ρ2)=>some (ds,ρ2)
  | _=>none
noncomputable def iT (a:FE):FI:=fun ρ=>match a ρ with
 | none=>none
 | some (x,ρ1)=>match tk ρ1 x with
  | some (.tup ds,ρ2)=>some (ds,ρ2)
  | _=>none
noncomputable def iS (a:FE):FI:=fun ρ=>match a ρ with
 | none=>none
 | some (x,ρ1)=>match tk ρ1 x with
  | some (.lst ds,ρ2)=>some (ds,ρ2)
  | some (.tup ds,ρ2)=>some (ds,ρ2)
  | _=>none
noncomputable def ups (lo:Int) (n:Nat):List Dat:=(List.range n).map fun i=>Dat.int (lo+(i:Nat))
noncomputable def downs (hi:Int) (n:Nat):List Dat:=(List.range n).map fun i=>Dat.int (hi-(i:Nat))
noncomputable def BIG:Int:=1000000000
noncomputable def iR1 (a:FE):FI:=fun ρ=>match a ρ with
 | some (.val (.int j),ρ1)=>if j≤BIG∧-BIG≤j then some (ups 0 j.toNat,ρ1) else none
 | _=>none
noncomputable def iR2 (a b:FE):FI:=fun ρ=>match a ρ with
 | some (.val (.int i),ρ1)=>(match b ρ1 with
  | some (.val (.int j),ρ2)=>if j≤BIG∧-BIG≤j∧i≤BIG∧-BIG≤i then some (ups i (j-i).toNat,ρ2) else none
  | _=>none)
 | _=>none
noncomputable abbrev FB:=Dat→Env→Option Env
noncomputable def bN (i:Nat):FB:=fun d ρ=>if i=0 then none else some (ρ.set i (.sh d))
noncomputable def sets:List Nat→List Dat→Env→Option Env
 | [],[],ρ=>some ρ
 | i::is,d::ds,ρ=>if i=0 then none else sets is ds (ρ.set i (.sh d))
 | _,_,_=>none
noncomputable def bT (is:List Nat):FB:=fun d ρ=>match d with
 | .tup ds=>sets is ds ρ
 | _=>none
noncomputable def cL (bd:FB) (t:FT) (el:FE):List Dat→Env→List Dat→Option (List Dat×Env)
 | [],ρ,acc=>some (acc,ρ)
 | d::r,ρ,acc=>match bd d ρ with
  | none=>none
  | some ρ1=>match t ρ1 with
   | none=>none
   | some (false,ρ2)=>cL bd t el r ρ2 acc
   | some (true,ρ2)=>match el ρ2 with
    | none=>none
    | some (x,ρ3)=>match tk ρ3 x with
     | none=>none
     | some (y,ρ4)=>cL bd t el r ρ4 (acc++[y])
noncomputable def bO (it:FI) (own:Nat) (bd:FB) (t:FT) (el:FE):FE:=fun ρ=>match it ρ with
 | none=>none
 | some (ds,ρ1)=>if ds.length≤SZ then (match cL bd t el ds (ρ1++List.replicate own .un) [] with
  | none=>none
  | some (ys,ρ2)=>some (.new (.lst ys),ρ2.take ρ1.length)) else none
inductive Out where
 | nx (ρ:Env)
 | ret (r:RV) (ρ:Env)
 | bk (ρ:Env)
 | ct (ρ:Env)
noncomputable abbrev FS:=Env→Option Out
noncomputable def sNx:FS:=fun ρ=>some (.nx ρ)
noncomputable def az (s u:FS):FS:=fun ρ=>match s ρ with
 | some (.nx ρ1)=>u ρ1
 | o=>o
noncomputable def sA (i:Nat) (e:FE):FS:=fun ρ=>if i=0 then none else match e ρ with
 | none=>none
 | some (.new d,ρ1)=>some (.nx (ρ1.set i (.ow d)))
 | some (x,ρ1)=>match tk ρ1 x with
  | none=>none
  | some (d,ρ2)=>some (.nx (ρ2.set i (.sh d)))
noncomputable def sU (is:List Nat) (e:FE):FS:=fun ρ=>match e ρ with
 | none=>none
 | some (x,ρ1)=>match tk ρ1 x with
  | some (.tup ds,ρ2)=>(match sets is ds ρ2 with
   | none=>none
   | some ρ3=>some (.nx ρ3))
  | _=>none
noncomputable def sE (e:FE):FS:=fun ρ=>match e ρ with
 | none=>none
 | some (_,ρ1)=>some (.nx ρ1)
noncomputable def sR (e:FE):FS:=fun ρ=>match e ρ with
 | none=>none
 | some (.new d,ρ1)=>some (.ret (.new d) ρ1)
 | some (.val d,ρ1)=>some (.ret (.val d) ρ1)
 | some (.slot i,ρ1)=>match ρ1[i]? with
  | some (.ow d)=>some (.ret (.new d) (ρ1.set i .un))
  | some (.sh d)=>some (.ret (.val d) ρ1)
  | _=>none
noncomputable def sIf (t:FT) (a b:FS):FS:=fun ρ=>match t ρ with
 | none=>none
 | some (true,ρ1)=>a ρ1
 | some (false,ρ1)=>b ρ1
noncomputable def mV (i:Nat) (e:FE):FS:=fun ρ=>match ρ[i]? with
 | some (.ow (.lst _))=>(match e ρ with
  | none=>none
  | some (x,ρ1)=>match tk ρ1 x with
   | none=>none
   | some (d,ρ2)=>match ρ2[i]? with
    | some (.ow (.lst ds))=>if ds.length<SZ then some (.nx (ρ2.set i (.ow (.lst (ds++[d]))))) else none
    | _=>none)
 | _=>none
noncomputable def ixN (n:Nat) (i:Int):Option Nat:=
 if 0≤i then (if i<n then some i.toNat else none) else if -(n:Int)≤i then some (i+n).toNat else none
noncomputable def gG (i:Nat) (j e:FE):FS:=fun ρ=>match e ρ with
 | none=>none
 | some (x,ρ1)=>match tk ρ1 x with
  | none=>none
  | some (d,ρ2)=>match ρ2[i]? with
   | some (.ow _)=>(match j ρ2 with
    | some (.val (.int k),ρ3)=>(match ρ3[i]? with
     | some (.ow (.lst ds))=>(match ixN ds.length k with
      | none=>none
      | some m=>some (.nx (ρ3.set i (.ow (.lst (ds.set m d))))))
     | _=>none)
    | _=>none)
   | _=>none
noncomputable def gH (bd:FB) (body:FS):List Dat→FS
 | [],ρ=>some (.nx ρ)
 | d::r,ρ=>match bd d ρ with
  | none=>none
  | some ρ1=>match body ρ1 with
   | some (.nx ρ2)=>gH bd body r ρ2
   | some (.ct ρ2)=>gH bd body r ρ2
   | some (.bk ρ2)=>some (.nx ρ2)
   | some (.ret v ρ2)=>some (.ret v ρ2)
   | none=>none
noncomputable def eO (it:FI) (bd:FB) (body:FS):FS:=fun ρ=>match it ρ with
 | none=>none
 | some (ds,ρ1)=>gH bd body ds ρ1
noncomputable def fn (n m:Nat) (body:FS) (ds:List Dat):Option RV:=if ds.length=n then (match body (ds.map Cell.sh++List.replicate m .un) with
 | some (.ret r _)=>some r
 | some (.nx _)=>some (.val .non)
 | _=>none) else none
noncomputable def b2i (b:Bool):Int:=if b then 1 else 0
mutual
noncomputable def eqD:Dat→Dat→Bool
 | .non,.non=>true
 | .bl a,.bl b=>a == b
 | .bl a,.int j=>b2i a == j
 | .int i,.bl b=>i == b2i b
 | .int i,.int j=>i == j
 | .str a,.str b=>a == b
 | .tup xs,.tup ys=>j5 xs ys
 | .lst xs,.lst ys=>j5 xs ys
 | _,_=>false
noncomputable def j5:List Dat→List Dat→Bool
 | [],[]=>true
 | x::xs,y::ys=>eqD x y&&j5 xs ys
 | _,_=>false
end
noncomputable def okD:Nat→Dat→Bool
 | _,.dct _ _=>false
 | _,.exc _=>false
 | _,.fn _=>false
 | _,.str s=>s.all fun c=>decide (c<128)
 | 0,.tup _=>false
 | 0,.lst _=>false
 | n+1,.tup xs=>xs.all (okD n)
 | n+1,.lst xs=>xs.all (okD n)
 | _,_=>true
noncomputable abbrev vB (b:Bool):Option RV:=some (.val (.bl b))
noncomputable def eS (p:Dat→Bool):Dat→Option RV
 | .exc _=>none
 | .fn _=>none
 | d=>vB (p d)
noncomputable abbrev vI (i:Int):Option RV:=some (.val (.int i))
noncomputable def gEq (x y:Dat):Option RV:=if okD 8 x&&okD 8 y then vB (eqD x y) else none
noncomputable def gNe (x y:Dat):Option RV:=if okD 8 x&&okD 8 y then vB (!eqD x y) else none
noncomputable def gLt:Dat→Dat→Option RV
 | .int i,.int j=>vB (decide (i<j))
 | _,_=>none
noncomputable def gLe:Dat→Dat→Option RV
 | .int i,.int j=>vB (decide (i≤j))
 | _,_=>none
noncomputable def gGt:Dat→Dat→Option RV
 | .int i,.int j=>vB (decide (j<i))
 | _,_=>none
noncomputable def gGe:Dat→Dat→Option RV
 | .int i,.int j=>vB (decide (j≤i))
 | _,_=>none
noncomputable def B64:Int:=18446744073709551616
noncomputable def aX:Dat→Dat→Option RV
 | .int i,.int j=>vI (i+j)
 | .lst xs,.lst ys=>if xs.length+ys.length≤SZ then some (.new (.lst (xs++ys))) else none
 | _,_=>none
noncomputable def cK:Dat→Dat→Option RV
 | .int i,.int j=>vI (i-j)
 | _,_=>none
noncomputable def dQ:Dat→Dat→Option RV
 | .int i,.int j=>if (-B64<i∧i<B64)∨(-B64<j∧j<B64) then vI (i*j) else none
 | .lst xs,.int k=>if k≤BIG∧-BIG≤k∧xs.length*k.toNat≤SZ then some (.new (.lst (List.replicate k.toNat xs).flatten)) else none
 | _,_=>none
noncomputable def lz:Int:=1606938044258990275541962092341162602522202993782792835301376
noncomputable def mW:Dat→Dat→Option RV
 | .int i,.int j=>if 0<j∧j<lz then vI (i / j) else none
 | _,_=>none
noncomputable def e7:Dat→Dat→Option RV
 | .int i,.int j=>if 0<j then vI (i % j) else none
 | _,_=>none
noncomputable def gI:Dat→Dat→Option RV
 | .int i,.int j=>if 0≤j∧j≤1000000∧i.natAbs<1000000 then vI (i ^ j.toNat) else none
 | _,_=>none
noncomputable def pJ:Dat→Option RV
 | .int i=>vI (-i)
 | _=>none
noncomputable def atI (xs:List Dat) (i:Int):Option Dat:=(ixN xs.length i).bind fun j=>xs[j]?
noncomputable def gIx:Dat→Dat→Option RV
 | .lst xs,.int i=>(atI xs i).map .val
 | .tup xs,.int i=>(atI xs i).map .val
 | _,_=>none
noncomputable def inD (x:Dat) (xs:List Dat):Bool:=xs.any fun y=>eqD y x
noncomputable def gIn:Dat→Dat→Option RV
 | x,.lst xs=>if okD 8 x&&xs.all (okD 7) then vB (inD x xs) else none
 | x,.tup xs=>if okD 8 x&&xs.all (okD 7) then vB (inD x xs) else none
 | _,_=>none
noncomputable def e8:Dat→Dat→Option RV
 | x,.lst xs=>if okD 8 x&&xs.all (okD 7) then vB (!inD x xs) else none
 | x,.tup xs=>if okD 8 x&&xs.all (okD 7) then vB (!inD x xs) else none
 | _,_=>none
noncomputable def sIx (n d:Nat):Option Int→Nat
 | none=>d
 | some v=>(if v<0 then max (v+n) 0 else min v n).toNat
noncomputable def cut (xs:List Dat) (lo hi:Option Int):List Dat:=(xs.drop (sIx xs.length 0 lo)).take (sIx xs.length xs.length hi-sIx xs.length 0 lo)
noncomputable def bQ:List Dat→Option RV
 | [.lst xs]=>vI xs.length
 | [.tup xs]=>vI xs.length
 | _=>none
noncomputable def iA:List Dat→Option RV
 | [.int i,.int j]=>vI (if j<i then j else i)
 | _=>none
noncomputable def f_:List Dat→Option RV
 | [.int i,.int j]=>vI (if j>i then j else i)
 | _=>none
noncomputable def mX:List Dat→Option RV
 | [.lst xs]=>some (.new (.lst xs))
 | [.tup xs]=>some (.new (.lst xs))
 | _=>none
noncomputable def lA:List Dat→Option RV
 | [.lst xs]=>some (.val (.tup xs))
 | [.tup xs]=>some (.val (.tup xs))
 | _=>none
noncomputable def isI:Dat→Bool
 | .int _=>true
 | .bl _=>true
 | _=>false
noncomputable def isB:Dat→Bool
 | .bl _=>true
 | _=>false
noncomputable def isL:Dat→Bool
 | .lst _=>true
 | _=>false
noncomputable def isT:Dat→Bool
 | .tup _=>true
 | _=>false
noncomputable def bools:List Dat→Option (List Bool)
 | []=>some []
 | .bl b::r=>(bools r).map fun bs=>b::bs
 | _=>none
noncomputable def j6:List Dat→Option RV
 | [.lst xs]=>(match bools xs with
  | some bs=>vB (bs.all id)
  | none=>none)
 | _=>none
noncomputable def bR (g h:Dat→Dat→Option RV) (a b c:FE):FE:=fun ρ=>match a ρ with
 | none=>none
 | some (x,ρ1)=>match b ρ1 with
  | none=>none
  | some (y,ρ2)=>match pk ρ2 x with
   | none=>none
   | some d=>match pk ρ2 y with
    | none=>none
    | some e=>match g d e with
     | some (.val (.bl true))=>(match c ρ2 with
      | none=>none
      | some (z,ρ3)=>match pk ρ3 y with
       | none=>none
       | some e'=>match pk ρ3 z with
        | none=>none
        | some f=>match h e' f with
         | none=>none
         | some v=>some (v.bB,ρ3))
     | some (.val (.bl false))=>some (.val (.bl false),ρ2)
     | _=>none
noncomputable def part:Option FE→Env→Option (Option Int×Env)
 | none,ρ=>some (none,ρ)
 | some f,ρ=>match f ρ with
  | some (.val (.int i),ρ1)=>some (some i,ρ1)
  | _=>none
noncomputable def eSl (a:FE) (lo hi:Option FE):FE:=fun ρ=>match a ρ with
 | none=>none
 | some (x,ρ1)=>match part lo ρ1 with
  | none=>none
  | some (l,ρ2)=>match part hi ρ2 with
   | none=>none
   | some (h,ρ3)=>match pk ρ3 x with
    | some (.lst xs)=>some (.new (.lst (cut xs l h)),ρ3)
    | _=>none
noncomputable def F5:Dat→Dat→Option RV
 | .bl b,.bl c=>vB (b == c)
 | _,_=>none
noncomputable def eE:Dat→Dat→Option RV
 | .bl b,.bl c=>vB (b != c)
 | _,_=>none
noncomputable def mY:List Dat→Option RV
 | [.int i]=>vI i
 | [.bl b]=>vI (b2i b)
 | _=>none
end Dm
namespace Br
open PySem L2
mutual
inductive Rep (H:Hp):V→Dm.Dat→Prop
 | non:Rep H V.non Dm.Dat.non
 | bl (b:Bool):Rep H (V.bl b) (Dm.Dat.bl b)
 | int (i:Int):Rep H (V.int i) (Dm.Dat.int i)
 | str (s:List Nat):Rep H (V.str ⟨s.toArray⟩) (Dm.Dat.str s)
 | tup {a:Addr} {xs:List V} {ds:List Dm.Dat}:H a=some (.tup xs)→aE H xs ds→Rep H (V.ref a) (Dm.Dat.tup ds)
 | lst {a:Addr} {xs:List V} {ds:List Dm.Dat}:Rd H a (.lst xs)→aE H xs ds→Rep H (V.ref a) (Dm.Dat.lst ds)
 | dct {a:Addr} {kvs:List (Key×V)} {ks:List Int} {ds:List Dm.Dat}:H a=some (.dK kvs)→kvs.map (·.1)=ks.map Sum.inl→aE H (kvs.map (·.2)) ds→Rep H (V.ref a) (Dm.Dat.dct ks ds)
 | exc {a:Addr} {C:Nat}:H a=some (.ext fun h=>∃ o,h.get? a=some o∧o.cls=.ref C)→Rep H (V.ref a) (Dm.Dat.exc C)
 | fn (a:Addr):Rep H (V.ref a) (Dm.Dat.fn a)
inductive aE (H:Hp):List V→List Dm.Dat→Prop
 | nil:aE H [] []
 | cons {v:V} {d:Dm.Dat} {vs:List V} {ds:List Dm.Dat}:Rep H v d→aE H vs ds→aE H (v::vs) (d::ds)
end
theorem ao.rd {H H':Hp} (s:ao H H') {a:Addr} {u:HO} (h:Rd H a u):Rd H' a u:=by
 rcases h with h | ⟨o,h⟩
 ·exact .inl (s _ _ h)
 ·exact .inr ⟨o,s _ _ h⟩
mutual
theorem Rep.mono {H H':Hp} (s:ao H H'):∀ {v:V} {d:Dm.Dat},Rep H v d→Rep H' v d
 | _,_,.non=>.non
 | _,_,.bl b=>.bl b
 | _,_,.int i=>.int i
 | _,_,.str x=>.str x
 | _,_,.tup h r=>.tup (s _ _ h) (aE.mono s r)
 | _,_,.lst h r=>.lst (ao.rd s h) (aE.mono s r)
 | _,_,.dct h e r=>.dct (s _ _ h) e (aE.mono s r)
 | _,_,.exc h=>.exc (s _ _ h)
 | _,_,.fn a=>.fn a
theorem aE.mono {H H':Hp} (s:ao H H'):∀ {vs:List V} {ds:List Dm.Dat},aE H vs ds→aE H' vs ds
 | _,_,.nil=>.nil
 | _,_,.cons h r=>.cons (Rep.mono s h) (aE.mono s r)
end
theorem aE.length {H:Hp}:∀ {vs:List V} {ds:List Dm.Dat},aE H vs ds→vs.length=ds.length
 | _,_,.nil=>rfl
 | _,_,.cons _ r=>by simp [aE.length r]
theorem aE.get {H:Hp}:∀ {vs:List V} {ds:List Dm.Dat} {i:Nat} {d:Dm.Dat},aE H vs ds→ds[i]?=some d→∃ v,vs[i]?=some v∧Rep H v d
 | _,_,_,_,.nil,e=>by simp at e
 | _,_,0,_,.cons h _,e=>by simp at e;subst e;exact ⟨_,rfl,h⟩
 | _,_,i+1,_,.cons _ r,e=>by
  obtain ⟨v,h1,h2⟩:=aE.get (i:=i) r (by simpa using e)
  exact ⟨v,by simpa using h1,h2⟩
theorem aE.append {H:Hp}:∀ {vs ws:List V} {ds es:List Dm.Dat},aE H vs ds→aE H ws es→aE H (vs++ws) (ds++es)
 | _,_,_,_,.nil,s=>s
 | _,_,_,_,.cons h r,s=>.cons h (aE.append r s)
theorem aE.take {H:Hp}:∀ {vs:List V} {ds:List Dm.Dat} (n:Nat),aE H vs ds→aE H (vs.take n) (ds.take n)
 | _,_,0,_=>by simpa using aE.nil
 | _,_,_+1,.nil=>by simpa using aE.nil
 | _,_,n+1,.cons h r=>by simpa using aE.cons h (aE.take n r)
theorem aE.drop {H:Hp}:∀ {vs:List V} {ds:List Dm.Dat} (n:Nat),aE H vs ds→aE H (vs.drop n) (ds.drop n)
 | _,_,0,r=>by simpa using r
 | _,_,_+1,.nil=>by simpa using aE.nil
 | _,_,n+1,.cons _ r=>by simpa using aE.drop n r
theorem aE.set {H:Hp} {v:V} {d:Dm.Dat} (h:Rep H v d):∀ {vs:List V} {ds:List Dm.Dat} (i:Nat),aE H vs ds→aE H (vs.set i v) (ds.set i d)
 | _,_,_,.nil=>.nil
 | _,_,0,.cons _ r=>.cons h r
 | _,_,i+1,.cons q r=>.cons q (aE.set h i r)
theorem aE.rep {H:Hp} {vs:List V} {ds:List Dm.Dat} (r:aE H vs ds):∀ k:Nat,aE H (List.replicate k vs).flatten (List.replicate k ds).flatten
 | 0=>by simpa using aE.nil
 | k+1=>by
  rw [List.replicate_succ,List.replicate_succ,List.flatten_cons,List.flatten_cons]
  exact aE.append r (aE.rep r k)
noncomputable def Own (H0 H:Hp) (a:Addr):Dm.Dat→Prop
 | .lst ds=>∃ xs,H a=some (.lst xs)∧aE H0 xs ds
 | .dct ks ds=>∃ kvs:List (Key×V),H a=some (.dK kvs)∧kvs.map (·.1)=ks.map Sum.inl∧aE H0 (kvs.map (·.2)) ds
 | _=>False
theorem Own.some {H0 H:Hp} {a:Addr} {d:Dm.Dat} (h:Own H0 H a d):∃ o,H a=some o:=by
 cases d with
 | lst ds=>obtain ⟨xs,e,_⟩:=h;exact ⟨_,e⟩
 | dct ks ds=>obtain ⟨xs,e,_⟩:=h;exact ⟨_,e⟩
 | _=>exact False.elim h
theorem Own.mono {H0 H H0' H':Hp} {a:Addr} {d:Dm.Dat} (h:Own H0 H a d) (s:ao H0 H0') (e:H' a=H a):Own H0' H' a d:=by
 cases d with
 | lst ds=>obtain ⟨xs,q,r⟩:=h;exact ⟨xs,by rw [e];exact q,r.mono s⟩
 | dct ks ds=>obtain ⟨xs,q,k,r⟩:=h;exact ⟨xs,by rw [e];exact q,k,r.mono s⟩
 | _=>exact False.elim h
noncomputable def iB (H0 H:Hp) (v:V) (d:Dm.Dat):Prop:=Rep H0 v d∨∃ a,v=V.ref a∧Own H0 H a d
inductive mZ (H0 H:Hp):List V→List Dm.Dat→Prop
 | nil:mZ H0 H [] []
 | cons {v:V} {d:Dm.Dat} {vs:List V} {ds:List Dm.Dat}:iB H0 H v d→mZ H0 H vs ds→mZ H0 H (v::vs) (d::ds)
noncomputable def shr (H0 H:Hp) (a:Addr):Hp:=fun b=>if b=a then H a else H0 b
theorem cT {H0 H:Hp} {a:Addr}:shr H0 H a a=H a:=by unfold shr;rw [if_pos rfl]
theorem e9 {H0 H:Hp} {a b:Addr} (h:b≠a):shr H0 H a b=H0 b:=by unfold shr;rw [if_neg h]
theorem gb {H0 H:Hp} {a:Addr} (h:H0 a=none):ao H0 (shr H0 H a):=fun b o e=>by
 by_cases q:b=a
 ·subst q;rw [h] at e;cases e
 ·rw [e9 q];exact e
theorem qR {H0 H:Hp} {a:Addr} (s:ao H0 H):ao (shr H0 H a) H:=fun b o e=>by
 by_cases q:b=a
 ·subst q;rw [cT] at e;exact e
 ·rw [e9 q] at e;exact s _ _ e
theorem Own.rep {H0 H:Hp} {a:Addr} {d:Dm.Dat} (h:Own H0 H a d) (n:H0 a=none):Rep (shr H0 H a) (V.ref a) d:=by
 cases d with
 | lst ds=>obtain ⟨xs,q,r⟩:=h;exact .lst (.inl (by rw [cT];exact q)) (r.mono (gb n))
 | dct ks ds=>obtain ⟨xs,q,k,r⟩:=h;exact .dct (by rw [cT];exact q) k (r.mono (gb n))
 | _=>exact False.elim h
noncomputable def ak (σ:St) (ρ:Dm.Env) (a:Addr):Prop:=∃ (i:Nat) (d:Dm.Dat),ρ[i]?=some (Dm.Cell.ow d)∧σ[i]?=some (some (V.ref a))
noncomputable abbrev Def (_:Dm.Env) (_:Nat):Prop:=True
structure au (H0 H:Hp) (σ:St) (ρ:Dm.Env):Prop where
 same:ao H0 H
 len:σ.length=ρ.length
 sh:∀ (i:Nat) (d:Dm.Dat),ρ[i]?=some (Dm.Cell.sh d)→∃ v,σ[i]?=some (some v)∧Rep H0 v d
 ow:∀ (i:Nat) (d:Dm.Dat),ρ[i]?=some (Dm.Cell.ow d)→∃ a,σ[i]?=some (some (V.ref a))∧H0 a=none∧Own H0 H a d
 dis:∀ (i j:Nat) (d e:Dm.Dat) (a:Addr),ρ[i]?=some (Dm.Cell.ow d)→ρ[j]?=some (Dm.Cell.ow e)→σ[i]?=some (some (V.ref a))→σ[j]?=some (some (V.ref a))→i=j
structure Stp (O:Addr→Prop) (H0 H H0' H':Hp):Prop where
 s0:ao H0 H0'
 s1:∀ a o,H a=some o→¬ O a→H' a=some o
 s2:∀ a o,H0' a=some o→H a=none∨H0 a=some o∨O a
 s3:∀ a o,H a=some o→∃ o',H' a=some o'
theorem Stp.refl (O:Addr→Prop) (H0 H:Hp):Stp O H0 H H0 H:=⟨ao.refl _,fun _ _ e _=>e,fun _ _ e=>.inr (.inl e),fun _ o e=>⟨o,e⟩⟩
theorem Stp.gone {O:Addr→Prop} {H0 H H0' H':Hp} (t:Stp O H0 H H0' H') {a:Addr} (h:H' a=none):H a=none:=by
 cases q:H a with
 | none=>rfl
 | some o=>obtain ⟨o',e⟩:=t.s3 a o q;rw [h] at e;cases e
theorem Stp.trans {O1 O2:Addr→Prop} {H0 H H1 H' H2 H'':Hp} (t:Stp O1 H0 H H1 H') (u:Stp O2 H1 H' H2 H'') (k:∀ a,O2 a→O1 a∨H a=none):Stp O1 H0 H H2 H'' where
 s0:=t.s0.trans u.s0
 s1:=fun a o e n=>u.s1 a o (t.s1 a o e n) fun z=>(k a z).elim n fun q=>by rw [q] at e;cases e
 s2:=fun a o e=>by
  rcases u.s2 a o e with q | q | q
  ·exact .inl (t.gone q)
  ·exact t.s2 a o q
  ·rcases k a q with z | z
   ·exact .inr (.inr z)
   ·exact .inl z
 s3:=fun a o e=>by
  obtain ⟨o',e'⟩:=t.s3 a o e
  exact u.s3 a o' e'
theorem Stp.wide {O O':Addr→Prop} {H0 H H0' H':Hp} (t:Stp O H0 H H0' H') (k:∀ a,O a→O' a):Stp O' H0 H H0' H':=
 ⟨t.s0,fun a o e n=>t.s1 a o e fun z=>n (k a z),fun a o e=>(t.s2 a o e).imp id (Or.imp id (k a)),t.s3⟩
structure aJ (H0 H H0' H':Hp):Prop where
 s0:ao H0 H0'
 s1:ao H H'
 s2:∀ a o,H0' a=some o→H a=none∨H0 a=some o
 s3:ao H0' H'
theorem aJ.refl {H0 H:Hp} (s:ao H0 H):aJ H0 H H0 H:=⟨ao.refl _,ao.refl _,fun _ _ e=>.inr e,s⟩
theorem aJ.stp {H0 H H0' H':Hp} (g:aJ H0 H H0' H') (O:Addr→Prop):Stp O H0 H H0' H':=
 ⟨g.s0,fun a o e _=>g.s1 a o e,fun a o e=>(g.s2 a o e).imp id .inl,fun a o e=>⟨o,g.s1 a o e⟩⟩
theorem aJ.x_ {H0 H:Hp} (s:ao H0 H) {p:Addr} {o:HO} (n:H p=none):aJ H0 H (upd H0 p o) (upd H p o) where
 s0:=fun b u e=>by rw [aC (aG e (s.free n))];exact e
 s1:=fun b u e=>by rw [aC (aG e n)];exact e
 s2:=fun b u e=>by
  by_cases q:b=p
  ·subst q;exact .inl n
  ·rw [aC q] at e;exact .inr e
 s3:=fun b u e=>by
  by_cases q:b=p
  ·subst q;rw [aD] at e ⊢;exact e
  ·rw [aC q] at e ⊢;exact s _ _ e
theorem aJ.j7 {H0 H:Hp} (s:ao H0 H) {p:Addr} {o:HO} (n:H p=none):aJ H0 H H0 (upd H p o) where
 s0:=ao.refl _
 s1:=fun b u e=>by rw [aC (aG e n)];exact e
 s2:=fun b u e=>.inr e
 s3:=fun b u e=>by rw [aC (aG (s _ _ e) n)];exact s _ _ e
noncomputable def dR (Hs H0 H:Hp) (σ:St) (ρ:Dm.Env) (v:V):Dm.Val→Prop
 | .val d=>Rep H0 v d
 | .slot i=>σ[i]?=some (some v)∧Def ρ i
 | .new d=>∃ a,v=V.ref a∧Hs a=none∧¬ ak σ ρ a∧H0 a=none∧Own H0 H a d
structure ESt (σ:St) (ρ:Dm.Env) (H0 H:Hp) (ρ':Dm.Env) (H0' H':Hp):Prop where
 st:au H0' H' σ ρ'
 stp:Stp (ak σ ρ) H0 H H0' H'
 own:∀ a,ak σ ρ' a→ak σ ρ a
 dfn:∀ i,Def ρ i→Def ρ' i
theorem ESt.refl {σ:St} {ρ:Dm.Env} {H0 H:Hp} (st:au H0 H σ ρ):ESt σ ρ H0 H ρ H0 H:=⟨st,Stp.refl _ _ _,fun _ z=>z,fun _ z=>z⟩
theorem ESt.trans {σ:St} {ρ ρ1 ρ2:Dm.Env} {H0 H H1 H' H2 H'':Hp} (t:ESt σ ρ H0 H ρ1 H1 H') (u:ESt σ ρ1 H1 H' ρ2 H2 H''):ESt σ ρ H0 H ρ2 H2 H'':=
 ⟨u.st,t.stp.trans u.stp fun a z=>.inl (t.own a z),fun a z=>t.own a (u.own a z),fun i z=>u.dfn i (t.dfn i z)⟩
theorem au.grow {σ:St} {ρ:Dm.Env} {H0 H H0' H':Hp} (st:au H0 H σ ρ) (g:aJ H0 H H0' H'):au H0' H' σ ρ where
 same:=g.s3
 len:=st.len
 sh:=fun i d e=>by
  obtain ⟨v,q,r⟩:=st.sh i d e
  exact ⟨v,q,r.mono g.s0⟩
 ow:=fun i d e=>by
  obtain ⟨a,q,n,w⟩:=st.ow i d e
  obtain ⟨o,z⟩:=w.some
  refine ⟨a,q,?_,w.mono g.s0 ((g.s1 a o z).trans z.symm)⟩
  cases y:H0' a with
  | none=>rfl
  | some u=>
   rcases g.s2 a u y with k | k
   ·rw [z] at k;cases k
   ·rw [n] at k;cases k
 dis:=st.dis
theorem ESt.grow {σ:St} {ρ:Dm.Env} {H0 H H0' H':Hp} (st:au H0 H σ ρ) (g:aJ H0 H H0' H'):ESt σ ρ H0 H ρ H0' H':=
 ⟨st.grow g,g.stp _,fun _ z=>z,fun _ z=>z⟩
theorem dR.mono {Hs H0 H H0' H':Hp} {σ:St} {ρ ρ':Dm.Env} {v:V} {x:Dm.Val} (r:dR Hs H0 H σ ρ v x) (t:ESt σ ρ H0 H ρ' H0' H'):dR Hs H0' H' σ ρ' v x:=by
 cases x with
 | val d=>exact Rep.mono t.stp.s0 r
 | slot i=>exact ⟨r.1,t.dfn i r.2⟩
 | new d=>
  obtain ⟨a,e,n,no,n0,w⟩:=r
  obtain ⟨o,z⟩:=w.some
  refine ⟨a,e,n,fun y=>no (t.own a y),?_,w.mono t.stp.s0 ((t.stp.s1 a o z no).trans z.symm)⟩
  cases y:H0' a with
  | none=>rfl
  | some u=>
   rcases t.stp.s2 a u y with k | k | k
   ·rw [z] at k;cases k
   ·rw [n0] at k;cases k
   ·exact absurd k no
theorem dR.early {Hs Hs' H0 H:Hp} {σ:St} {ρ:Dm.Env} {v:V} {x:Dm.Val} (r:dR Hs H0 H σ ρ v x) (k:∀ a,Hs a=none→Hs' a=none):dR Hs' H0 H σ ρ v x:=by
 cases x with
 | val d=>exact r
 | slot i=>exact r
 | new d=>obtain ⟨a,e,n,z⟩:=r;exact ⟨a,e,k a n,z⟩
theorem dR.look {Hs H0 H:Hp} {σ:St} {ρ:Dm.Env} {v:V} {x:Dm.Val} {d:Dm.Dat} (r:dR Hs H0 H σ ρ v x) (st:au H0 H σ ρ) (e:Dm.pk ρ x=some d):iB H0 H v d:=by
 cases x with
 | val d'=>cases e;exact .inl r
 | new d'=>
  cases e
  obtain ⟨a,e,_,_,_,w⟩:=r
  exact .inr ⟨a,e,w⟩
 | slot i=>
  obtain ⟨q,_⟩:=r
  unfold Dm.pk at e
  dsimp only at e
  split at e
  ·rename_i d' h
   cases e
   obtain ⟨a,z,_,w⟩:=st.ow i d h
   rw [q] at z
   cases z
   exact .inr ⟨a,rfl,w⟩
  ·rename_i d' h
   cases e
   obtain ⟨u,z,w⟩:=st.sh i d h
   rw [q] at z
   cases z
   exact .inl w
  ·cases e
noncomputable def pK (Hs H0 H:Hp) (v:V):Dm.RV→Prop
 | .val d=>Rep H0 v d
 | .new d=>∃ a,v=V.ref a∧Hs a=none∧H0 a=none∧Own H0 H a d
theorem pK.toV {H H0' H' H0:Hp} {σ:St} {ρ:Dm.Env} {v:V} {z:Dm.RV} (r:pK H H0' H' v z) (st:au H0 H σ ρ):dR H H0' H' σ ρ v z.bB:=by
 cases z with
 | val d=>exact r
 | new d=>
  obtain ⟨a,e,n,n0,w⟩:=r
  refine ⟨a,e,n,fun ⟨i,d',h1,h2⟩=>?_,n0,w⟩
  obtain ⟨a',q,_,w'⟩:=st.ow i d' h1
  rw [h2] at q
  cases q
  obtain ⟨o,z⟩:=w'.some
  rw [n] at z;cases z
noncomputable def tD (f:Dm.FE):TE:=fun σ H Q=>∃ H0 ρ x ρ',au H0 H σ ρ∧f ρ=some (x,ρ')∧∀ v H0' H',ESt σ ρ H0 H ρ' H0' H'→dR H H0' H' σ ρ' v x→Q v H'
noncomputable def tDT (f:Dm.FT):TT:=fun σ H Q=>∃ H0 ρ b ρ',au H0 H σ ρ∧f ρ=some (b,ρ')∧∀ H0' H',ESt σ ρ H0 H ρ' H0' H'→Q b H'
inductive cM (Hs H0 H:Hp) (σ:St) (ρ:Dm.Env):List V→List Dm.Val→Prop
 | nil:cM Hs H0 H σ ρ [] []
 | cons {v:V} {x:Dm.Val} {vs:List V} {xs:List Dm.Val}:dR Hs H0 H σ ρ v x→cM Hs H0 H σ ρ vs xs→cM Hs H0 H σ ρ (v::vs) (x::xs)
noncomputable def tDA (fs:List Dm.FE):TA:=fun σ H Q=>∃ H0 ρ xs ρ',au H0 H σ ρ∧Dm.eAs fs ρ=some (xs,ρ')∧∀ vs H0' H',ESt σ ρ H0 H ρ' H0' H'→cM H H0' H' σ ρ' vs xs→Q vs H'
noncomputable abbrev DE (X:Cx) (e:Expr) (f:Dm.FE):Prop:=PE X e (tD f)
noncomputable abbrev DT (X:Cx) (e:Expr) (f:Dm.FT):Prop:=PT X e (tDT f)
noncomputable abbrev DA (X:Cx) (es:List Expr) (fs:List Dm.FE):Prop:=PA X es (tDA fs)
theorem PE.weak {X:Cx} {e:Expr} {t t':TE} (h:PE X e t) (k:∀ σ H Q,t' σ H Q→t σ H Q):PE X e t':=fun pins s σ H Q I q=>h pins s σ H Q I (k σ H Q q)
theorem PT.weak {X:Cx} {e:Expr} {t t':TT} (h:PT X e t) (k:∀ σ H Q,t' σ H Q→t σ H Q):PT X e t':=fun pins s σ H Q I q=>h pins s σ H Q I (k σ H Q q)
theorem PA.weak {X:Cx} {es:List Expr} {t t':TA} (h:PA X es t) (k:∀ σ H Q,t' σ H Q→t σ H Q):PA X es t':=fun pos pins s σ H Q I q=>h pos pins s σ H Q I (k σ H Q q)
theorem PS.weak {X:Cx} {st:Stmt} {t t':TS} (h:PS X st t) (k:∀ D σ H,t' D σ H→t D σ H):PS X st t':=fun pins s σ H D I q=>h pins s σ H D I (k D σ H q)
theorem PSs.weak {X:Cx} {st:List Stmt} {t t':TS} (h:PSs X st t) (k:∀ D σ H,t' D σ H→t D σ H):PSs X st t':=fun pins s σ H D I q=>h pins s σ H D I (k D σ H q)
theorem cB {H0 H:Hp} {a:Addr} (s:ao H0 H):ao H0 (shr H0 H a):=fun b o e=>by
 by_cases q:b=a
 ·subst q;rw [cT];exact s _ _ e
 ·rw [e9 q];exact e
theorem Own.CW {H0 H0c H:Hp} {a:Addr} {d:Dm.Dat} (h:Own H0 H a d) (b:ao H0 H0c) (s:ao H0c H):Rep (shr H0c H a) (V.ref a) d:=by
 cases d with
 | lst ds=>obtain ⟨xs,q,r⟩:=h;exact .lst (.inl (by rw [cT];exact q)) (r.mono (b.trans (cB s)))
 | dct ks ds=>obtain ⟨xs,q,k,r⟩:=h;exact .dct (by rw [cT];exact q) k (r.mono (b.trans (cB s)))
 | _=>exact False.elim h
theorem dR.rho {Hs H0 H:Hp} {σ:St} {ρ ρ':Dm.Env} {v:V} {x:Dm.Val} (r:dR Hs H0 H σ ρ v x) (o:∀ a,ak σ ρ' a→ak σ ρ a) (d:∀ i,Def ρ i→Def ρ' i):dR Hs H0 H σ ρ' v x:=by
 cases x with
 | val d=>exact r
 | slot i=>exact ⟨r.1,d i r.2⟩
 | new d=>obtain ⟨a,e,n,no,z⟩:=r;exact ⟨a,e,n,fun y=>no (o a y),z⟩
theorem cM.rho {Hs H0 H:Hp} {σ:St} {ρ ρ':Dm.Env} (o:∀ a,ak σ ρ' a→ak σ ρ a) (d:∀ i,Def ρ i→Def ρ' i):∀ {vs:List V} {xs:List Dm.Val},cM Hs H0 H σ ρ vs xs→cM Hs H0 H σ ρ' vs xs
 | _,_,.nil=>.nil
 | _,_,.cons h r=>.cons (h.rho o d) (cM.rho o d r)
theorem cM.early {Hs Hs' H0 H:Hp} {σ:St} {ρ:Dm.Env} (k:∀ a,Hs a=none→Hs' a=none):∀ {vs:List V} {xs:List Dm.Val},cM Hs H0 H σ ρ vs xs→cM Hs' H0 H σ ρ vs xs
 | _,_,.nil=>.nil
 | _,_,.cons h r=>.cons (h.early k) (cM.early k r)
theorem aR {ρ:Dm.Env} {i j:Nat} {c d:Dm.Cell} (h:(ρ.set i c)[j]?=some d):(j=i∧d=c)∨(j≠i∧ρ[j]?=some d):=by
 by_cases e:j=i
 ·subst e
  by_cases l:j<ρ.length
  ·rw [List.getElem?_set_self l] at h
   exact .inl ⟨rfl,(Option.some.inj h).symm⟩
  ·rw [List.getElem?_eq_none (by simpa using Nat.not_lt.mp l)] at h
   cases h
 ·rw [List.getElem?_set_ne (Ne.symm e)] at h
  exact .inr ⟨e,h⟩
theorem pL {H0 H:Hp} {σ:St} {ρ:Dm.Env} {i:Nat} {a:Addr} {d:Dm.Dat} (st:au H0 H σ ρ) (e:ρ[i]?=some (.ow d)) (q:σ[i]?=some (some (V.ref a))) :
  au (shr H0 H a) H σ (ρ.set i (.sh d))∧(∀ b,ak σ (ρ.set i (.sh d)) b→ak σ ρ b)∧∀ j,Def ρ j→Def (ρ.set i (.sh d)) j:=by
 obtain ⟨a',q',n,w⟩:=st.ow i d e
 rw [q] at q'
 cases q'
 have hil:i<ρ.length:=(List.getElem?_eq_some_iff.mp e).1
 refine ⟨⟨qR st.same,by rw [List.length_set];exact st.len,fun j d' h=>?_,fun j d' h=>?_,fun j k d1 d2 b h1 h2 h3 h4=>?_⟩,fun b ⟨j,d',h1,h2⟩=>?_,fun j h=>?_⟩
 ·rcases aR h with ⟨rfl,z⟩ | ⟨_,h⟩
  ·cases z
   exact ⟨_,q,w.rep n⟩
  ·obtain ⟨v,z,r⟩:=st.sh j d' h
   exact ⟨v,z,r.mono (gb n)⟩
 ·rcases aR h with ⟨_,z⟩ | ⟨hj,h⟩
  ·cases z
  ·obtain ⟨b,z,n',w'⟩:=st.ow j d' h
   have nb:b≠a:=fun y=>hj (st.dis j i d' d a h e (y▸z) q)
   exact ⟨b,z,by rw [e9 nb];exact n',w'.mono (gb n) rfl⟩
 ·rcases aR h1 with ⟨_,z⟩ | ⟨_,h1⟩
  ·cases z
  ·rcases aR h2 with ⟨_,z⟩ | ⟨_,h2⟩
   ·cases z
   ·exact st.dis j k d1 d2 b h1 h2 h3 h4
 ·rcases aR h1 with ⟨_,z⟩ | ⟨_,h1⟩
  ·cases z
  ·exact ⟨j,d',h1,h2⟩
 ·trivial
theorem sO {H0 H:Hp} {σ:St} {ρ:Dm.Env} {a:Addr} (st:au H0 H σ ρ) (no:¬ ak σ ρ a):au (shr H0 H a) H σ ρ where
 same:=qR st.same
 len:=st.len
 sh:=fun j d h=>by
  obtain ⟨v,z,r⟩:=st.sh j d h
  exact ⟨v,z,r.mono (cB st.same)⟩
 ow:=fun j d h=>by
  obtain ⟨b,z,n',w'⟩:=st.ow j d h
  have nb:b≠a:=fun y=>no ⟨j,d,h,y▸z⟩
  exact ⟨b,z,by rw [e9 nb];exact n',w'.mono (cB st.same) rfl⟩
 dis:=st.dis
theorem take1 {Hs H0s H0 H0c H:Hp} {σ:St} {ρs ρ ρ':Dm.Env} {v:V} {x:Dm.Val} {d:Dm.Dat} (t:ESt σ ρs H0s Hs ρ H0c H) (b:ao H0 H0c) (r:dR Hs H0 H σ ρ v x) (e:Dm.tk ρ x=some (d,ρ')) :
  ∃ pM,ESt σ ρs H0s Hs ρ' pM H∧ao H0c pM∧Rep pM v d∧(∀ a,ak σ ρ' a→ak σ ρ a)∧∀ i,Def ρ i→Def ρ' i:=by
 cases x with
 | val d'=>cases e;exact ⟨H0c,t,ao.refl _,Rep.mono b r,fun _ z=>z,fun _ z=>z⟩
 | new d'=>
  cases e
  obtain ⟨a,e,n,no,n0,w⟩:=r
  subst e
  have ss:=cB (a:=a) t.st.same
  refine ⟨shr H0c H a,⟨sO t.st no,⟨t.stp.s0.trans ss,t.stp.s1,fun c o q=>?_,t.stp.s3⟩,t.own,t.dfn⟩,ss,w.CW b t.st.same,fun _ z=>z,fun _ z=>z⟩
  by_cases y:c=a
  ·subst y;exact .inl n
  ·rw [e9 y] at q;exact t.stp.s2 c o q
 | slot i=>
  obtain ⟨q,_⟩:=r
  unfold Dm.tk at e
  dsimp only at e
  split at e
  ·rename_i d' h
   cases e
   obtain ⟨a,z,n,w⟩:=t.st.ow i _ h
   rw [q] at z
   cases z
   obtain ⟨s1,s2,s3⟩:=pL t.st h q
   have ss:=cB (a:=a) t.st.same
   refine ⟨shr H0c H a,⟨s1,⟨t.stp.s0.trans ss,t.stp.s1,fun c o q'=>?_,t.stp.s3⟩,fun b z=>t.own b (s2 b z),fun j z=>s3 j (t.dfn j z)⟩,ss,w.CW (ao.refl _) t.st.same,s2,s3⟩
   by_cases y:c=a
   ·subst y;exact .inr (.inr (t.own c ⟨i,_,h,q⟩))
   ·rw [e9 y] at q';exact t.stp.s2 c o q'
  ·rename_i d' h
   cases e
   obtain ⟨u,z,w⟩:=t.st.sh i _ h
   rw [q] at z
   cases z
   exact ⟨H0c,t,ao.refl _,w,fun _ z=>z,fun _ z=>z⟩
  ·cases e
theorem takes {Hs H0s H0 H:Hp} {σ:St} {ρs:Dm.Env}:∀ {xs:List Dm.Val} {vs:List V} {ρ ρ':Dm.Env} {ds:List Dm.Dat} {H0c:Hp},ESt σ ρs H0s Hs ρ H0c H→ao H0 H0c→cM Hs H0 H σ ρ vs xs→Dm.tks ρ xs=some (ds,ρ') →
  ∃ pM,ESt σ ρs H0s Hs ρ' pM H∧ao H0c pM∧aE pM vs ds
 | [],_,ρ,ρ',ds,H0c,t,b,r,e=>by
  cases r
  cases e
  exact ⟨H0c,t,ao.refl _,.nil⟩
 | x::xs,_,ρ,ρ',ds,H0c,t,b,r,e=>by
  cases r with
  | cons h r=>
   unfold Dm.tks at e
   split at e
   ·cases e
   ·rename_i d ρ1 e1
    split at e
    ·cases e
    ·rename_i ds' ρ2 e2
     cases e
     obtain ⟨H1,t1,b1,r1,o1,d1⟩:=take1 t b h e1
     obtain ⟨H2,t2,b2,r2⟩:=takes t1 (b.trans b1) (r.rho o1 d1) e2
     exact ⟨H2,t2,b1.trans b2,.cons (r1.mono b2) r2⟩
theorem CY {ρ ρ':Dm.Env} {x:Dm.Val} {d:Dm.Dat} (e:Dm.tk ρ x=some (d,ρ')) (y:Dm.Val):Dm.pk ρ' y=Dm.pk ρ y:=by
 cases x with
 | val d'=>cases e;rfl
 | new d'=>cases e;rfl
 | slot i=>
  unfold Dm.tk at e
  dsimp only at e
  split at e
  ·rename_i d' h
   cases e
   cases y with
   | val _=>rfl
   | new _=>rfl
   | slot j=>
    unfold Dm.pk
    dsimp only
    by_cases z:j=i
    ·subst z
     rw [List.getElem?_set_self (List.getElem?_eq_some_iff.mp h).1,h]
    ·rw [List.getElem?_set_ne (Ne.symm z)]
  ·cases e;rfl
  ·cases e
theorem uP {ρ:Dm.Env} {x:Dm.Val} {d:Dm.Dat} (e:Dm.pk ρ x=some d):∃ ρ',Dm.tk ρ x=some (d,ρ'):=by
 cases x with
 | val d'=>cases e;exact ⟨ρ,rfl⟩
 | new d'=>cases e;exact ⟨ρ,rfl⟩
 | slot i=>
  unfold Dm.pk at e
  dsimp only at e
  unfold Dm.tk
  dsimp only
  split at e
  ·rename_i d' h;cases e;exact ⟨_,rfl⟩
  ·rename_i d' h;cases e;exact ⟨_,rfl⟩
  ·cases e
theorem iC:∀ {xs:List Dm.Val} {ρ:Dm.Env} {ds:List Dm.Dat},Dm.pks ρ xs=some ds→∃ ρ',Dm.tks ρ xs=some (ds,ρ')
 | [],ρ,ds,e=>by cases e;exact ⟨ρ,rfl⟩
 | x::xs,ρ,ds,e=>by
  unfold Dm.pks at e
  split at e
  ·cases e
  ·rename_i d e1
   split at e
   ·cases e
   ·rename_i ds' e2
    cases e
    obtain ⟨ρ1,h1⟩:=uP e1
    have key:∀ ys:List Dm.Val,Dm.pks ρ1 ys=Dm.pks ρ ys:=fun ys=>by
     induction ys with
     | nil=>rfl
     | cons y ys ih=>unfold Dm.pks;rw [CY h1 y,ih]
    obtain ⟨ρ2,h2⟩:=iC (xs:=xs) (ρ:=ρ1) (ds:=ds') (by rw [key];exact e2)
    exact ⟨ρ2,by unfold Dm.tks;rw [h1];dsimp only;rw [h2]⟩
theorem looks {Hs H0 H:Hp} {σ:St} {ρ:Dm.Env} (st:au H0 H σ ρ):∀ {xs:List Dm.Val} {vs:List V} {ds:List Dm.Dat},cM Hs H0 H σ ρ vs xs→Dm.pks ρ xs=some ds→mZ H0 H vs ds
 | [],_,ds,r,e=>by cases r;cases e;exact .nil
 | x::xs,_,ds,r,e=>by
  cases r with
  | cons h r=>
   unfold Dm.pks at e
   split at e
   ·cases e
   ·rename_i d e1
    split at e
    ·cases e
    ·rename_i ds' e2
     cases e
     exact .cons (h.look st e1) (looks st r e2)
noncomputable def OpD (r:R2) (g:Dm.Dat→Dm.Dat→Option Dm.RV):Prop:=∀ (H0 H:Hp) (x y:V) (dx dy:Dm.Dat) (z:Dm.RV) (Q:VK),ao H0 H→iB H0 H x dx→iB H0 H y dy→g dx dy=some z →
 (∀ v H0' H',aJ H0 H H0' H'→pK H H0' H' v z→Q v H')→r x y H Q
noncomputable def UnD (r:V→Hp→VK→Prop) (g:Dm.Dat→Option Dm.RV):Prop:=∀ (H0 H:Hp) (x:V) (dx:Dm.Dat) (z:Dm.RV) (Q:VK),ao H0 H→iB H0 H x dx→g dx=some z →
 (∀ v H0' H',aJ H0 H H0' H'→pK H H0' H' v z→Q v H')→r x H Q
noncomputable def CallD (r:List V→Hp→VK→Prop) (g:List Dm.Dat→Option Dm.RV):Prop:=∀ (H0 H:Hp) (vs:List V) (ds:List Dm.Dat) (z:Dm.RV) (Q:VK),ao H0 H→mZ H0 H vs ds→g ds=some z →
 (∀ v H0' H',aJ H0 H H0' H'→pK H H0' H' v z→Q v H')→r vs H Q
noncomputable def spD (f:List Dm.Dat→Option Dm.RV):Sp:=fun vs H Q _=>∃ H0 ds z,ao H0 H∧aE H0 vs ds∧f ds=some z∧∀ v H0' H',aJ H0 H H0' H'→pK H H0' H' v z→Q v H'
section
variable {σ:St} {H:Hp} {Q:VK}
theorem CZ {i:Nat} (h:tD (Dm.eV i) σ H Q):uo i σ H Q:=by
 obtain ⟨H0,ρ,x,ρ',st,e,k⟩:=h
 unfold Dm.eV at e
 split at e
 ·rename_i d h1
  cases e
  obtain ⟨v,q,r⟩:=st.sh i d h1
  exact ⟨v,q,k v H0 H (.refl st) r⟩
 ·rename_i d h1
  cases e
  obtain ⟨a,q,_⟩:=st.ow i d h1
  exact ⟨_,q,k _ H0 H (.refl st) ⟨q,trivial⟩⟩
 ·cases e
theorem gf {d:Dm.Dat} {v:V} (c:∀ H0:Hp,Rep H0 v d) (h:tD (Dm.eC d) σ H Q):tC v σ H Q:=by
 obtain ⟨H0,ρ,x,ρ',st,e,k⟩:=h
 cases e
 exact k v H0 H (.refl st) (c H0)
theorem ya {r:R2} {g:Dm.Dat→Dm.Dat→Option Dm.RV} {fa fb:Dm.FE} (o:OpD r g) (h:tD (Dm.e2 g fa fb) σ H Q):tOp r (tD fa) (tD fb) σ H Q:=by
 obtain ⟨H0,ρ,x,ρ',st,e,k⟩:=h
 unfold Dm.e2 at e
 split at e
 ·cases e
 rename_i x1 ρ1 e1
 split at e
 ·cases e
 rename_i y1 ρ2 e2
 split at e
 ·cases e
 rename_i dx p1
 split at e
 ·cases e
 rename_i dy p2
 split at e
 ·cases e
 rename_i z gz
 cases e
 refine ⟨H0,ρ,x1,ρ1,st,e1,fun v H1 Hb t1 r1=>⟨H1,ρ1,y1,_,t1.st,e2,fun u H2 Hc t2 r2=>?_⟩⟩
 refine o H2 Hc v u dx dy z Q t2.st.same ((r1.mono t2).look t2.st p1) (r2.look t2.st p2) gz fun w H3 Hd g3 r3=>?_
 exact k w H3 Hd (t1.trans (t2.trans (.grow t2.st g3))) ((r3.toV t2.st).early fun a n=>(t1.trans t2).stp.gone n)
theorem C0 {r:V→Hp→VK→Prop} {g:Dm.Dat→Option Dm.RV} {fa:Dm.FE} (o:UnD r g) (h:tD (Dm.e1 g fa) σ H Q):tUn r (tD fa) σ H Q:=by
 obtain ⟨H0,ρ,x,ρ',st,e,k⟩:=h
 unfold Dm.e1 at e
 split at e
 ·cases e
 rename_i x1 ρ1 e1
 split at e
 ·cases e
 rename_i dx p1
 split at e
 ·cases e
 rename_i z gz
 cases e
 refine ⟨H0,ρ,x1,_,st,e1,fun v H1 Hb t1 r1=>?_⟩
 refine o H1 Hb v dx z Q t1.st.same (r1.look t1.st p1) gz fun w H3 Hd g3 r3=>?_
 exact k w H3 Hd (t1.trans (.grow t1.st g3)) ((r3.toV t1.st).early fun a n=>t1.stp.gone n)
theorem C1 {Q:List V→Hp→Prop} (h:tDA [] σ H Q):AI σ H Q:=by
 obtain ⟨H0,ρ,xs,ρ',st,e,k⟩:=h
 cases e
 exact k [] H0 H (.refl st) .nil
theorem AV {f:Dm.FE} {fs:List Dm.FE} {Q:List V→Hp→Prop} (h:tDA (f::fs) σ H Q):qK (tD f) (tDA fs) σ H Q:=by
 obtain ⟨H0,ρ,xs,ρ',st,e,k⟩:=h
 unfold Dm.eAs at e
 split at e
 ·cases e
 rename_i x1 ρ1 e1
 split at e
 ·cases e
 rename_i xs1 ρ2 e2
 cases e
 refine ⟨H0,ρ,x1,ρ1,st,e1,fun v H1 Hb t1 r1=>⟨H1,ρ1,xs1,_,t1.st,e2,fun vs H2 Hc t2 r2=>?_⟩⟩
 exact k (v::vs) H2 Hc (t1.trans t2) (.cons (r1.mono t2) (r2.early fun a n=>t1.stp.gone n))
theorem AW {r:List V→Hp→VK→Prop} {g:List Dm.Dat→Option Dm.RV} {fs:List Dm.FE} (o:CallD r g) (h:tD (Dm.eB g fs) σ H Q):tCB r (tDA fs) σ H Q:=by
 obtain ⟨H0,ρ,x,ρ',st,e,k⟩:=h
 unfold Dm.eB at e
 split at e
 ·cases e
 rename_i xs ρ1 e1
 split at e
 ·cases e
 rename_i ds p1
 split at e
 ·cases e
 rename_i z gz
 cases e
 refine ⟨H0,ρ,xs,_,st,e1,fun vs H1 Hb t1 r1=>?_⟩
 refine o H1 Hb vs ds z Q t1.st.same (looks t1.st r1 p1) gz fun w H3 Hd g3 r3=>?_
 exact k w H3 Hd (t1.trans (.grow t1.st g3)) ((r3.toV t1.st).early fun a n=>t1.stp.gone n)
theorem gg {n:Nat} (h:n≤Dm.SZ):n≤sizeLine:=Nat.le_trans h (by decide)
theorem C2 {fs:List Dm.FE} (h:tD (Dm.aT fs) σ H Q):CN (tDA fs) σ H Q:=by
 obtain ⟨H0,ρ,x,ρ',st,e,k⟩:=h
 unfold Dm.aT at e
 split at e
 ·cases e
 rename_i xs ρ1 e1
 split at e
 ·cases e
 rename_i ds ρ2 e2
 split at e
 ·rename_i hz
  cases e
  refine ⟨H0,ρ,xs,ρ1,st,e1,fun vs H1 Hb t1 r1=>?_⟩
  obtain ⟨H2,t2,b2,r2⟩:=takes t1 (ao.refl _) r1 e2
  refine ⟨by rw [r2.length];exact gg hz,fun p hp=>?_⟩
  have g:=aJ.x_ (o:=HO.tup vs) t2.st.same hp
  exact k _ _ _ (t2.trans (.grow t2.st g)) (.tup aD (r2.mono g.s0))
 ·cases e
theorem C3 {fs:List Dm.FE} (h:tD (Dm.bf fs) σ H Q):CO (tDA fs) σ H Q:=by
 obtain ⟨H0,ρ,x,ρ',st,e,k⟩:=h
 unfold Dm.bf at e
 split at e
 ·cases e
 rename_i xs ρ1 e1
 split at e
 ·cases e
 rename_i ds ρ2 e2
 split at e
 ·rename_i hz
  cases e
  refine ⟨H0,ρ,xs,ρ1,st,e1,fun vs H1 Hb t1 r1=>?_⟩
  obtain ⟨H2,t2,b2,r2⟩:=takes t1 (ao.refl _) r1 e2
  refine ⟨by rw [r2.length];exact gg hz,fun p hp=>?_⟩
  have g:=aJ.j7 (o:=HO.lst vs) t2.st.same hp
  refine k _ _ _ (t2.trans (.grow t2.st g)) ⟨p,rfl,t2.stp.gone hp,fun ⟨i,d,h1,h2⟩=>?_,t2.st.same.free hp,vs,aD,r2⟩
  obtain ⟨a,q,_,w⟩:=t2.st.ow i d h1
  rw [h2] at q
  cases q
  obtain ⟨o,z⟩:=w.some
  rw [hp] at z;cases z
 ·cases e
theorem Rep.plain {H0 H1:Hp} {v:V} {d:Dm.Dat} (r:Rep H0 v d) (n:Dm.cS d=false):Rep H1 v d:=by
 cases r with
 | non=>exact .non
 | bl b=>exact .bl b
 | int i=>exact .int i
 | str s=>exact .str s
 | tup _ _=>cases n
 | lst _ _=>cases n
 | dct _ _ _=>cases n
 | exc _=>cases n
 | fn a=>exact .fn a
theorem Own.box {H0 H:Hp} {a:Addr} {d:Dm.Dat} (w:Own H0 H a d):Dm.cS d=true:=by
 cases d with
 | lst ds=>rfl
 | dct ks ds=>rfl
 | _=>exact False.elim w
theorem AX {f:List Dm.Dat→Option Dm.RV} {fs:List Dm.FE} {E:XK} (h:tD (Dm.eF f fs) σ H Q):uF (spD f) [] E (tDA fs) σ H Q:=by
 obtain ⟨H0,ρ,x,ρ',st,e,k⟩:=h
 unfold Dm.eF at e
 split at e
 ·cases e
 rename_i xs ρ1 e1
 split at e
 ·cases e
 rename_i ds p1
 split at e
 ·cases e
 rename_i z fz
 refine ⟨H0,ρ,xs,ρ1,st,e1,fun vs H1 Hb t1 r1=>?_⟩
 dsimp only
 rw [List.append_nil]
 obtain ⟨ρ2,e2⟩:=iC p1
 obtain ⟨H2,t2,b2,r2⟩:=takes t1 (ao.refl _) r1 e2
 split at e
 ·rw [e2] at e
  cases e
  exact ⟨H2,ds,z,t2.st.same,r2,fz,fun w H3 Hd g3 r3=>k w H3 Hd (t2.trans (.grow t2.st g3)) ((r3.toV t2.st).early fun a n=>t2.stp.gone n)⟩
 ·rename_i nb
  cases e
  refine ⟨H2,ds,z,t2.st.same,r2,fz,fun w H3 Hd g3 r3=>?_⟩
  have g:aJ H1 Hb H1 Hd:=⟨ao.refl _,g3.s1,fun a o q=>.inr q,t1.st.same.trans g3.s1⟩
  refine k w H1 Hd (t1.trans (.grow t1.st g)) ?_
  cases z with
  | val d=>exact Rep.plain r3 (by simpa [Dm.RV.dat] using nb)
  | new d=>
   obtain ⟨a,_,_,_,w⟩:=r3
   exact absurd w.box (by simpa [Dm.RV.dat] using nb)
theorem Fe {t:Dm.FT} {a b:Dm.FE} (h:tD (Dm.eIf t a b) σ H Q):tIf (tDT t) (tD a) (tD b) σ H Q:=by
 obtain ⟨H0,ρ,x,ρ',st,e,k⟩:=h
 unfold Dm.eIf at e
 split at e
 ·cases e
 ·rename_i ρ1 e1
  refine ⟨H0,ρ,true,ρ1,st,e1,fun H1 Hb t1=>?_⟩
  dsimp only
  rw [if_pos rfl]
  exact ⟨H1,ρ1,x,ρ',t1.st,e,fun v H2 Hc t2 r2=>k v H2 Hc (t1.trans t2) (r2.early fun a n=>t1.stp.gone n)⟩
 ·rename_i ρ1 e1
  refine ⟨H0,ρ,false,ρ1,st,e1,fun H1 Hb t1=>?_⟩
  dsimp only
  rw [if_neg Bool.false_ne_true]
  exact ⟨H1,ρ1,x,ρ',t1.st,e,fun v H2 Hc t2 r2=>k v H2 Hc (t1.trans t2) (r2.early fun a n=>t1.stp.gone n)⟩
theorem Rep.lB {H0:Hp} {v:V} {c:Bool} (r:Rep H0 v (.bl c)):v=.bl c:=by cases r;rfl
theorem Rep.isInt {H0:Hp} {v:V} {c:Int} (r:Rep H0 v (.int c)):v=.int c:=by cases r;rfl
theorem C4 {a b:Dm.FE} (h:tD (Dm.dP a b) σ H Q):zj (tD a) (tD b) σ H Q:=by
 obtain ⟨H0,ρ,x,ρ',st,e,k⟩:=h
 unfold Dm.dP at e
 split at e
 ·rename_i ρ1 e1
  refine ⟨H0,ρ,_,_,st,e1,fun v H1 Hb t1 r1=>⟨true,Rep.lB r1,?_⟩⟩
  try dsimp only
  rw [if_pos rfl]
  exact ⟨H1,ρ1,x,ρ',t1.st,e,fun v H2 Hc t2 r2=>k v H2 Hc (t1.trans t2) (r2.early fun a n=>t1.stp.gone n)⟩
 ·rename_i ρ1 e1
  cases e
  refine ⟨H0,ρ,_,_,st,e1,fun v H1 Hb t1 r1=>⟨false,Rep.lB r1,?_⟩⟩
  try dsimp only
  rw [if_neg Bool.false_ne_true]
  exact k _ H1 Hb t1 (Rep.bl false)
 ·cases e
theorem C5 {a:Dm.FE} (h:tD (Dm.uO a) σ H Q):zk (tD a) σ H Q:=by
 obtain ⟨H0,ρ,x,ρ',st,e,k⟩:=h
 unfold Dm.uO at e
 split at e
 ·rename_i c ρ1 e1
  cases e
  exact ⟨H0,ρ,_,_,st,e1,fun v H1 Hb t1 r1=>⟨c,Rep.lB r1,k _ H1 Hb t1 (Rep.bl (!c))⟩⟩
 ·cases e
variable {Qt:Bool→Hp→Prop}
theorem pN {a:Dm.FE} (h:tDT (Dm.tV a) σ H Qt):uA (tD a) σ H Qt:=by
 obtain ⟨H0,ρ,x,ρ',st,e,k⟩:=h
 unfold Dm.tV at e
 split at e
 ·rename_i c ρ1 e1
  cases e
  exact ⟨H0,ρ,_,_,st,e1,fun v H1 Hb t1 r1=>⟨_,Rep.lB r1,k H1 Hb t1⟩⟩
 ·cases e
theorem AY {t:Dm.FT} (h:tDT (Dm.bP t) σ H Qt):bP (tDT t) σ H Qt:=by
 obtain ⟨H0,ρ,x,ρ',st,e,k⟩:=h
 unfold Dm.bP at e
 split at e
 ·rename_i c ρ1 e1
  cases e
  exact ⟨H0,ρ,_,_,st,e1,fun H1 Hb t1=>k H1 Hb t1⟩
 ·cases e
theorem AZ {t u:Dm.FT} (h:tDT (Dm.fZ t u) σ H Qt):fZ (tDT t) (tDT u) σ H Qt:=by
 obtain ⟨H0,ρ,x,ρ',st,e,k⟩:=h
 unfold Dm.fZ at e
 split at e
 ·rename_i ρ1 e1
  refine ⟨H0,ρ,_,ρ1,st,e1,fun H1 Hb t1=>?_⟩
  dsimp only
  rw [if_pos rfl]
  exact ⟨H1,ρ1,x,ρ',t1.st,e,fun H2 Hc t2=>k H2 Hc (t1.trans t2)⟩
 ·rename_i ρ1 e1
  cases e
  refine ⟨H0,ρ,_,_,st,e1,fun H1 Hb t1=>?_⟩
  dsimp only
  rw [if_neg Bool.false_ne_true]
  exact k H1 Hb t1
 ·cases e
theorem C6 {t u:Dm.FT} (h:tDT (Dm.tOr t u) σ H Qt):tOr (tDT t) (tDT u) σ H Qt:=by
 obtain ⟨H0,ρ,x,ρ',st,e,k⟩:=h
 unfold Dm.tOr at e
 split at e
 ·rename_i ρ1 e1
  cases e
  refine ⟨H0,ρ,_,_,st,e1,fun H1 Hb t1=>?_⟩
  dsimp only
  rw [if_pos rfl]
  exact k H1 Hb t1
 ·rename_i ρ1 e1
  refine ⟨H0,ρ,_,ρ1,st,e1,fun H1 Hb t1=>?_⟩
  dsimp only
  rw [if_neg Bool.false_ne_true]
  exact ⟨H1,ρ1,x,ρ',t1.st,e,fun H2 Hc t2=>k H2 Hc (t1.trans t2)⟩
 ·cases e
end
structure SSt (σ:St) (ρ:Dm.Env) (H0 H:Hp) (σ':St) (ρ':Dm.Env) (H0' H':Hp):Prop where
 st:au H0' H' σ' ρ'
 stp:Stp (ak σ ρ) H0 H H0' H'
 own:∀ a,ak σ' ρ' a→ak σ ρ a∨H a=none
 fx:σ'[0]?=σ[0]?
theorem ESt.sst {σ:St} {ρ ρ':Dm.Env} {H0 H H0' H':Hp} (t:ESt σ ρ H0 H ρ' H0' H'):SSt σ ρ H0 H σ ρ' H0' H':=⟨t.st,t.stp,fun a z=>.inl (t.own a z),rfl⟩
theorem SSt.refl {σ:St} {ρ:Dm.Env} {H0 H:Hp} (st:au H0 H σ ρ):SSt σ ρ H0 H σ ρ H0 H:=(ESt.refl st).sst
theorem SSt.trans {σ σ1 σ2:St} {ρ ρ1 ρ2:Dm.Env} {H0 H H1 H' H2 H'':Hp} (t:SSt σ ρ H0 H σ1 ρ1 H1 H') (u:SSt σ1 ρ1 H1 H' σ2 ρ2 H2 H''):SSt σ ρ H0 H σ2 ρ2 H2 H'':=
 ⟨u.st,t.stp.trans u.stp t.own,fun a z=>(u.own a z).elim (t.own a) fun n=>.inr (t.stp.gone n),u.fx.trans t.fx⟩
noncomputable def C7 (σ:St) (ρ:Dm.Env) (H H0' H':Hp) (v:V):Dm.RV→Prop
 | .val d=>Rep H0' v d
 | .new d=>∃ a,v=V.ref a∧(H a=none∨ak σ ρ a)∧H0' a=none∧Own H0' H' a d
noncomputable def kB (D:Ends) (σ:St) (ρ:Dm.Env) (H0 H:Hp):Dm.Out→Prop
 | .nx ρ'=>∀ σ' H0' H',SSt σ ρ H0 H σ' ρ' H0' H'→D.nx σ' H'
 | .bk ρ'=>∀ σ' H0' H',SSt σ ρ H0 H σ' ρ' H0' H'→D.bk σ' H'
 | .ct ρ'=>∀ σ' H0' H',SSt σ ρ H0 H σ' ρ' H0' H'→D.ct σ' H'
 | .ret z ρ'=>∀ σ' v H0' H',SSt σ ρ H0 H σ' ρ' H0' H'→C7 σ ρ H H0' H' v z→(∀ d a,z=.new d→v=.ref a→¬ ak σ' ρ' a)→D.rt v H'
noncomputable def tDS (g:Dm.FS):TS:=fun D σ H=>∃ H0 ρ o,au H0 H σ ρ∧g ρ=some o∧kB D σ ρ H0 H o
theorem kB.pre {D:Ends} {σ σ1:St} {ρ ρ1:Dm.Env} {H0 H H1 H':Hp} {o:Dm.Out} (t:SSt σ ρ H0 H σ1 ρ1 H1 H') (k:kB D σ ρ H0 H o):kB D σ1 ρ1 H1 H' o:=by
 cases o with
 | nx ρ'=>exact fun σ' H0' H' u=>k σ' H0' H' (t.trans u)
 | bk ρ'=>exact fun σ' H0' H' u=>k σ' H0' H' (t.trans u)
 | ct ρ'=>exact fun σ' H0' H' u=>k σ' H0' H' (t.trans u)
 | ret z ρ'=>
  refine fun σ' v H0' H'' u r no=>k σ' v H0' H'' (t.trans u) ?_ no
  cases z with
  | val d=>exact r
  | new d=>
   obtain ⟨a,e,n,n0,w⟩:=r
   refine ⟨a,e,?_,n0,w⟩
   rcases n with n | n
   ·exact .inl (t.stp.gone n)
   ·exact (t.own a n).symm
theorem au.mask {H0 H:Hp} {σ:L2.St} {ρ:Dm.Env} (st:au H0 H σ ρ) (i:Nat):au H0 H σ (ρ.set i .un) where
 same:=st.same
 len:=by rw [List.length_set];exact st.len
 sh:=fun j d h=>by
  by_cases q:i=j
  ·subst q;rw [List.getElem?_set] at h;simp only [if_true] at h;split at h<;>cases h
  ·rw [List.getElem?_set_ne q] at h;exact st.sh j d h
 ow:=fun j d h=>by
  by_cases q:i=j
  ·subst q;rw [List.getElem?_set] at h;simp only [if_true] at h;split at h<;>cases h
  ·rw [List.getElem?_set_ne q] at h;exact st.ow j d h
 dis:=fun j j' d d' a h1 h2 h3 h4=>by
  by_cases q:i=j
  ·subst q;rw [List.getElem?_set] at h1;simp only [if_true] at h1;split at h1<;>cases h1
  ·by_cases q':i=j'
   ·subst q';rw [List.getElem?_set] at h2;simp only [if_true] at h2;split at h2<;>cases h2
   ·rw [List.getElem?_set_ne q] at h1
    rw [List.getElem?_set_ne q'] at h2
    exact st.dis j j' d d' a h1 h2 h3 h4
theorem bZ {σ:L2.St} {ρ:Dm.Env} {i:Nat} {a:Addr} (h:ak σ (ρ.set i .un) a):∃ (j:Nat) (d:Dm.Dat),j≠i∧ρ[j]?=some (Dm.Cell.ow d)∧σ[j]?=some (some (V.ref a)):=by
 obtain ⟨j,d,h1,h2⟩:=h
 by_cases q:i=j
 ·subst q;rw [List.getElem?_set] at h1;simp only [if_true] at h1;split at h1<;>cases h1
 ·rw [List.getElem?_set_ne q] at h1;exact ⟨j,d,fun z=>q z.symm,h1,h2⟩
section
variable {D:Ends} {σ:St} {H:Hp}
theorem Ff (h:tDS Dm.sNx D σ H):zm D σ H:=by
 obtain ⟨H0,ρ,o,st,e,k⟩:=h
 cases e
 exact k σ H0 H (.refl st)
theorem C8 {s u:Dm.FS} (h:tDS (Dm.az s u) D σ H):Cz (tDS s) (tDS u) D σ H:=by
 obtain ⟨H0,ρ,o,st,e,k⟩:=h
 unfold Dm.az at e
 split at e
 ·rename_i ρ1 e1
  exact ⟨H0,ρ,.nx ρ1,st,e1,fun σ' H0' H' t=>⟨H0',ρ1,o,t.st,e,k.pre t⟩⟩
 ·rename_i h1
  cases o with
  | nx ρ1=>exact absurd e (h1 ρ1)
  | bk ρ1=>exact ⟨H0,ρ,_,st,e,k⟩
  | ct ρ1=>exact ⟨H0,ρ,_,st,e,k⟩
  | ret z ρ1=>exact ⟨H0,ρ,_,st,e,k⟩
theorem A0 {f:Dm.FE} (h:tDS (Dm.sE f) D σ H):uu (tD f) D σ H:=by
 obtain ⟨H0,ρ,o,st,e,k⟩:=h
 unfold Dm.sE at e
 split at e
 ·cases e
 ·rename_i x ρ1 e1
  cases e
  exact ⟨H0,ρ,x,ρ1,st,e1,fun v H0' H' t r=>k σ H0' H' t.sst⟩
theorem C9 {f:Dm.FE} (h:tDS (Dm.sR f) D σ H):CA (tD f) D σ H:=by
 obtain ⟨H0,ρ,o,st,e,k⟩:=h
 unfold Dm.sR at e
 split at e
 ·cases e
 ·rename_i d ρ1 e1
  cases e
  refine ⟨H0,ρ,_,ρ1,st,e1,fun v H0' H' t r=>?_⟩
  obtain ⟨a,e,n,no,n0,w⟩:=r
  exact k σ v H0' H' t.sst ⟨a,e,.inl n,n0,w⟩ fun d' a' _ e' z=>by
   rw [e] at e'
   cases e'
   exact no z
 ·rename_i d ρ1 e1
  cases e
  exact ⟨H0,ρ,_,ρ1,st,e1,fun v H0' H' t r=>k σ v H0' H' t.sst r fun d' a' z=>by cases z⟩
 ·rename_i i ρ1 e1
  split at e
  ·rename_i d h1
   cases e
   refine ⟨H0,ρ,_,ρ1,st,e1,fun v H0' H' t r=>?_⟩
   obtain ⟨q,_⟩:=r
   obtain ⟨a,q',n0,w⟩:=t.st.ow i d h1
   rw [q] at q'
   cases q'
   refine k σ _ H0' H' ⟨t.st.mask i,t.stp,fun b z=>?_,rfl⟩ ⟨a,rfl,.inr (t.own a ⟨i,d,h1,q⟩),n0,w⟩ fun d' a' _ e' z=>?_
   ·obtain ⟨j,d2,_,z1,z2⟩:=bZ z
    exact .inl (t.own b ⟨j,d2,z1,z2⟩)
   ·cases e'
    obtain ⟨j,d2,hj,z1,z2⟩:=bZ z
    exact hj (t.st.dis j i d2 d a z1 h1 z2 q)
  ·rename_i d h1
   cases e
   refine ⟨H0,ρ,_,ρ1,st,e1,fun v H0' H' t r=>?_⟩
   obtain ⟨q,_⟩:=r
   obtain ⟨u,q',w⟩:=t.st.sh i d h1
   rw [q] at q'
   cases q'
   exact k σ _ H0' H' t.sst w fun d' a' z=>by cases z
  ·cases e
theorem C_ {t:Dm.FT} {a b:Dm.FS} (h:tDS (Dm.sIf t a b) D σ H):CB (tDT t) (tDS a) (tDS b) D σ H:=by
 obtain ⟨H0,ρ,o,st,e,k⟩:=h
 unfold Dm.sIf at e
 split at e
 ·cases e
 ·rename_i ρ1 e1
  refine ⟨H0,ρ,true,ρ1,st,e1,fun H1 Hb t1=>?_⟩
  dsimp only
  rw [if_pos rfl]
  exact ⟨H1,ρ1,o,t1.st,e,k.pre t1.sst⟩
 ·rename_i ρ1 e1
  refine ⟨H0,ρ,false,ρ1,st,e1,fun H1 Hb t1=>?_⟩
  dsimp only
  rw [if_neg Bool.false_ne_true]
  exact ⟨H1,ρ1,o,t1.st,e,k.pre t1.sst⟩
end
theorem dS {σ:St} {i j:Nat} {c d:Option V} (h:(σ.set i c)[j]?=some d):(j=i∧d=c)∨(j≠i∧σ[j]?=some d):=by
 by_cases e:j=i
 ·subst e
  by_cases l:j<σ.length
  ·rw [List.getElem?_set_self l] at h
   exact .inl ⟨rfl,(Option.some.inj h).symm⟩
  ·rw [List.getElem?_eq_none (by simpa using Nat.not_lt.mp l)] at h
   cases h
 ·rw [List.getElem?_set_ne (Ne.symm e)] at h
  exact .inr ⟨e,h⟩
theorem au.inσ {H0 H:Hp} {σ:St} {ρ:Dm.Env} {i:Nat} {c d:Dm.Cell} (st:au H0 H σ ρ) (h:(ρ.set i c)[i]?=some d):i<σ.length:=by
 have:=(List.getElem?_eq_some_iff.mp h).1
 rw [List.length_set] at this
 rw [st.len];exact this
theorem dc {σ:St} {ρ:Dm.Env} {i:Nat} {v:V} {d:Dm.Dat} {b:Addr} (h:ak (σ.set i (some v)) (ρ.set i (.sh d)) b):ak σ ρ b:=by
 obtain ⟨j,d',h1,h2⟩:=h
 rcases aR h1 with ⟨_,z⟩ | ⟨hj,h1⟩
 ·cases z
 ·rcases dS h2 with ⟨z,_⟩ | ⟨_,h2⟩
  ·exact absurd z hj
  ·exact ⟨j,d',h1,h2⟩
theorem au.pO {H0 H:Hp} {σ:St} {ρ:Dm.Env} {i:Nat} {v:V} {d:Dm.Dat} (st:au H0 H σ ρ) (r:Rep H0 v d):au H0 H (σ.set i (some v)) (ρ.set i (.sh d)) where
 same:=st.same
 len:=by rw [List.length_set,List.length_set];exact st.len
 sh:=fun j d' h=>by
  rcases aR h with ⟨rfl,z⟩ | ⟨hj,h'⟩
  ·cases z
   exact ⟨v,List.getElem?_set_self (st.inσ h),r⟩
  ·obtain ⟨u,q,w⟩:=st.sh j d' h'
   exact ⟨u,by rw [List.getElem?_set_ne (Ne.symm hj)];exact q,w⟩
 ow:=fun j d' h=>by
  rcases aR h with ⟨_,z⟩ | ⟨hj,h'⟩
  ·cases z
  ·obtain ⟨u,q,w⟩:=st.ow j d' h'
   exact ⟨u,by rw [List.getElem?_set_ne (Ne.symm hj)];exact q,w⟩
 dis:=fun j k d1 d2 b h1 h2 h3 h4=>by
  rcases aR h1 with ⟨_,z⟩ | ⟨hj,h1⟩
  ·cases z
  rcases aR h2 with ⟨_,z⟩ | ⟨hk,h2⟩
  ·cases z
  rw [List.getElem?_set_ne (Ne.symm hj)] at h3
  rw [List.getElem?_set_ne (Ne.symm hk)] at h4
  exact st.dis j k d1 d2 b h1 h2 h3 h4
theorem au.uQ {H0 H:Hp} {σ:St} {ρ:Dm.Env} {i:Nat} {a:Addr} {d:Dm.Dat} (st:au H0 H σ ρ) (no:¬ ak σ ρ a) (n0:H0 a=none) (w:Own H0 H a d):au H0 H (σ.set i (some (.ref a))) (ρ.set i (.ow d)) where
 same:=st.same
 len:=by rw [List.length_set,List.length_set];exact st.len
 sh:=fun j d' h=>by
  rcases aR h with ⟨_,z⟩ | ⟨hj,h'⟩
  ·cases z
  ·obtain ⟨u,q,w⟩:=st.sh j d' h'
   exact ⟨u,by rw [List.getElem?_set_ne (Ne.symm hj)];exact q,w⟩
 ow:=fun j d' h=>by
  rcases aR h with ⟨rfl,z⟩ | ⟨hj,h'⟩
  ·cases z
   exact ⟨a,List.getElem?_set_self (st.inσ h),n0,w⟩
  ·obtain ⟨u,q,w⟩:=st.ow j d' h'
   exact ⟨u,by rw [List.getElem?_set_ne (Ne.symm hj)];exact q,w⟩
 dis:=fun j k d1 d2 b h1 h2 h3 h4=>by
  rcases aR h1 with ⟨e1,z1⟩ | ⟨hj,h1'⟩
  ·rcases aR h2 with ⟨e2,z2⟩ | ⟨hk,h2'⟩
   ·rw [e1,e2]
   ·rcases dS h3 with ⟨_,z⟩ | ⟨z,_⟩
    ·cases z
     rw [List.getElem?_set_ne (Ne.symm hk)] at h4
     exact absurd ⟨k,d2,h2',h4⟩ no
    ·exact absurd e1 z
  ·rcases aR h2 with ⟨e2,z2⟩ | ⟨hk,h2'⟩
   ·rcases dS h4 with ⟨_,z⟩ | ⟨z,_⟩
    ·cases z
     rw [List.getElem?_set_ne (Ne.symm hj)] at h3
     exact absurd ⟨j,d1,h1',h3⟩ no
    ·exact absurd e2 z
   ·rw [List.getElem?_set_ne (Ne.symm hj)] at h3
    rw [List.getElem?_set_ne (Ne.symm hk)] at h4
    exact st.dis j k d1 d2 b h1' h2' h3 h4
theorem lC {σ:St} {ρ:Dm.Env} {i:Nat} {a b:Addr} {d:Dm.Dat} (h:ak (σ.set i (some (.ref a))) (ρ.set i (.ow d)) b):b=a∨ak σ ρ b:=by
 obtain ⟨j,d',h1,h2⟩:=h
 rcases aR h1 with ⟨e,_⟩ | ⟨hj,h1⟩
 ·rcases dS h2 with ⟨_,z⟩ | ⟨z,_⟩
  ·cases z;exact .inl rfl
  ·exact absurd e z
 ·rcases dS h2 with ⟨z,_⟩ | ⟨_,h2⟩
  ·exact absurd z hj
  ·exact .inr ⟨j,d',h1,h2⟩
theorem au.write {H0 H:Hp} {σ:St} {ρ:Dm.Env} {i:Nat} {a:Addr} {d d':Dm.Dat} {o:HO} (st:au H0 H σ ρ) (e:ρ[i]?=some (.ow d)) (q:σ[i]?=some (some (V.ref a))) (w':Own H0 (upd H a o) a d') :
  au H0 (upd H a o) σ (ρ.set i (.ow d')):=by
 obtain ⟨a',q',n,w⟩:=st.ow i d e
 rw [q] at q'
 cases q'
 refine ⟨fun b u z=>?_,by rw [List.length_set];exact st.len,fun j d1 h=>?_,fun j d1 h=>?_,fun j k d1 d2 b h1 h2 h3 h4=>?_⟩
 ·rw [aC (aG z n)];exact st.same _ _ z
 ·rcases aR h with ⟨_,z⟩ | ⟨hj,h'⟩
  ·cases z
  ·exact st.sh j d1 h'
 ·rcases aR h with ⟨rfl,z⟩ | ⟨hj,h'⟩
  ·cases z
   exact ⟨a,q,n,w'⟩
  ·obtain ⟨b,q1,n1,w1⟩:=st.ow j d1 h'
   have nb:b≠a:=fun y=>hj (st.dis j i d1 d a h' e (y▸q1) q)
   exact ⟨b,q1,n1,w1.mono (ao.refl _) (aC nb)⟩
 ·have f:∀ {j:Nat} {d1:Dm.Dat},(ρ.set i (.ow d'))[j]?=some (.ow d1)→∃ d2,ρ[j]?=some (.ow d2):=fun {j d1} h=>by
   rcases aR h with ⟨rfl,_⟩ | ⟨_,h'⟩
   ·exact ⟨d,e⟩
   ·exact ⟨d1,h'⟩
  obtain ⟨x1,y1⟩:=f h1
  obtain ⟨x2,y2⟩:=f h2
  exact st.dis j k x1 x2 b y1 y2 h3 h4
theorem dU {σ:St} {ρ:Dm.Env} {i:Nat} {d d':Dm.Dat} {b:Addr} (e:ρ[i]?=some (.ow d)) (h:ak σ (ρ.set i (.ow d')) b):ak σ ρ b:=by
 obtain ⟨j,d1,h1,h2⟩:=h
 rcases aR h1 with ⟨rfl,_⟩ | ⟨_,h'⟩
 ·exact ⟨j,d,e,h2⟩
 ·exact ⟨j,d1,h',h2⟩
theorem Stp.write {σ:St} {ρ:Dm.Env} {H0 H:Hp} {a:Addr} {o:HO} (w:ak σ ρ a):Stp (ak σ ρ) H0 H H0 (upd H a o):=
 ⟨ao.refl _,fun b u e n=>by rw [aC (show b≠a from fun z=>n (by rw [z];exact w))];exact e,fun b u e=>.inr (.inl e),fun b u e=>by
  by_cases z:b=a
  ·subst z;exact ⟨o,aD⟩
  ·exact ⟨u,by rw [aC z];exact e⟩⟩
section
variable {D:Ends} {σ:St} {H:Hp}
theorem uR {i:Nat} {f:Dm.FE} (h:tDS (Dm.sA i f) D σ H):pA (tD f) (iw i) D σ H:=by
 obtain ⟨H0,ρ,o,st,e,k⟩:=h
 unfold Dm.sA at e
 split at e
 ·cases e
 rename_i hi0
 split at e
 ·cases e
 ·rename_i d ρ1 e1
  cases e
  refine ⟨H0,ρ,_,ρ1,st,e1,fun v H0' H' t r=>?_⟩
  obtain ⟨a,e,n,no,n0,w⟩:=r
  subst e
  refine k _ H0' H' ⟨t.st.uQ no n0 w,t.stp,fun b z=>?_,List.getElem?_set_ne hi0⟩
  rcases lC z with rfl | z
  ·exact .inr n
  ·exact .inl (t.own b z)
 ·rename_i x ρ1 _ e1
  split at e
  ·cases e
  ·rename_i d ρ2 e2
   cases e
   refine ⟨H0,ρ,_,ρ1,st,e1,fun v H0' H' t r=>?_⟩
   obtain ⟨H1,t1,b1,r1,_,_⟩:=take1 t (ao.refl _) r e2
   exact k _ H1 H' ⟨t1.st.pO r1,t1.stp,fun b z=>.inl (t1.own b (dc z)),List.getElem?_set_ne hi0⟩
theorem qS {ρ:Dm.Env} {i:Nat} {d:Dm.Dat} {j:Nat} (h:Def ρ j):Def (ρ.set i (.sh d)) j:=trivial
noncomputable def cN:List Nat→TGs
 | []=>CF
 | i::is=>zo (iw i) (cN is)
theorem lD {H0 H:Hp} {Q:St→Hp→Prop}:∀ {is:List Nat} {xs:List V} {ds:List Dm.Dat} {σ:St} {ρ ρ':Dm.Env},au H0 H σ ρ→aE H0 xs ds→Dm.sets is ds ρ=some ρ' →
  (∀ σ',au H0 H σ' ρ'→(∀ a,ak σ' ρ' a→ak σ ρ a)→(∀ j,j∉is→σ'[j]?=σ[j]?)→(∀ j,Def ρ j→Def ρ' j)→σ'[0]?=σ[0]?→Q σ' H)→cN is xs σ H Q
 | [],_,[],σ,ρ,ρ',st,r,e,k=>by
  cases r
  cases e
  exact ⟨rfl,k σ st (fun _ z=>z) (fun _ _=>rfl) (fun _ z=>z) rfl⟩
 | i::is,_,d::ds,σ,ρ,ρ',st,r,e,k=>by
  cases r with
  | cons h r=>
   unfold Dm.sets at e
   split at e
   ·cases e
   rename_i hi0
   refine ⟨_,_,rfl,?_⟩
   refine lD (st.pO h) r e fun σ' st' o' n' d' f'=>k σ' st' (fun a z=>dc (o' a z)) (fun j hj=>?_) (fun j z=>d' j (qS z)) (f'.trans (List.getElem?_set_ne hi0))
   rw [n' j fun z=>hj (List.mem_cons_of_mem _ z)]
   exact List.getElem?_set_ne fun z=>hj (by rw [z];exact List.mem_cons_self)
 | [],_,_::_,_,_,_,_,_,e,_=>by cases e
 | _::_,_,[],_,_,_,_,_,e,_=>by cases e
theorem iD:∀ {is:List Nat} {ds:List Dm.Dat} {ρ ρ':Dm.Env},Dm.sets is ds ρ=some ρ'→ds.length=is.length
 | [],[],_,_,_=>rfl
 | i::is,_::ds,_,_,e=>by
  unfold Dm.sets at e
  split at e
  ·cases e
  ·simp [iD (is:=is) (ds:=ds) e]
 | [],_::_,_,_,e=>by cases e
 | _::_,[],_,_,e=>by cases e
noncomputable def BD (is:List Nat) (g:TG) (bd:Dm.FB):Prop:=∀ (H0 H:Hp) (σ:St) (ρ ρ':Dm.Env) (x:V) (d:Dm.Dat) (Q:St→Hp→Prop),au H0 H σ ρ→Rep H0 x d→bd d ρ=some ρ' →
 (∀ σ',au H0 H σ' ρ'→(∀ a,ak σ' ρ' a→ak σ ρ a)→(∀ j,j∉is→σ'[j]?=σ[j]?)→(∀ j,Def ρ j→Def ρ' j)→σ'[0]?=σ[0]?→Q σ' H)→g x σ H Q
theorem qT (i:Nat):BD [i] (iw i) (Dm.bN i):=by
 intro H0 H σ ρ ρ' x d Q st r e k
 unfold Dm.bN at e
 split at e
 ·cases e
 rename_i hi0
 cases e
 refine k _ (st.pO r) (fun a z=>dc z) (fun j hj=>?_) (fun j h=>qS h) (List.getElem?_set_ne hi0)
 exact List.getElem?_set_ne (fun z=>hj (by rw [z];exact List.mem_singleton.mpr rfl))
theorem uS {K:PySem.W.Frag} {is:List Nat} {n:Nat} {f:Dm.FE} (hn:is.length=n) (h:tDS (Dm.sU is f) D σ H):pA (tD f) (Av K n (cN is)) D σ H:=by
 obtain ⟨H0,ρ,o,st,e,k⟩:=h
 unfold Dm.sU at e
 split at e
 ·cases e
 ·rename_i x ρ1 e1
  split at e
  ·rename_i ds ρ2 e2
   split at e
   ·cases e
   ·rename_i ρ3 e3
    cases e
    refine ⟨H0,ρ,_,ρ1,st,e1,fun v H0' H' t r=>?_⟩
    obtain ⟨H1,t1,b1,r1,_,_⟩:=take1 t (ao.refl _) r e2
    cases r1 with
    | tup q rs=>
     refine ⟨_,_,rfl,SqT.of (t1.st.same _ _ q),by rw [rs.length,iD e3,hn],?_⟩
     exact lD t1.st rs e3 fun σ' st' o' _ _ f'=>k σ' H1 H' ⟨st',t1.stp,fun a z=>.inl (t1.own a (o' a z)),f'⟩
  ·cases e
theorem uT {K:PySem.W.Frag} (is:List Nat) {n:Nat} (hn:is.length=n):BD is (Av K n (cN is)) (Dm.bT is):=by
 intro H0 H σ ρ ρ' x d Q st r e k
 unfold Dm.bT at e
 split at e
 ·cases r with
  | tup q rs=>exact ⟨_,_,rfl,SqT.of (st.same _ _ q),by rw [rs.length,iD e,hn],lD st rs e k⟩
 ·cases e
theorem Dc {K:PySem.W.Frag} {i:Nat} {f:Dm.FE} (h:tDS (Dm.mV i f) D σ H):uu (tBM K "list" qP (uo i) (tDA [f])) D σ H:=by
 obtain ⟨H0,ρ,o,st,e,k⟩:=h
 unfold Dm.mV at e
 split at e
 ·rename_i ds0 h0
  obtain ⟨a0,q0,n0,w0⟩:=st.ow i _ h0
  refine ⟨_,q0,?_⟩
  split at e
  ·cases e
  rename_i x ρ1 e1
  split at e
  ·cases e
  rename_i d ρ2 e2
  split at e
  ·rename_i ds h2
   split at e
   ·rename_i hz
    cases e
    obtain ⟨xs0,y0,_⟩:=w0
    refine ⟨.inl ⟨rfl,xs0,.inl (.inl y0)⟩,?_⟩
    refine ⟨H0,ρ,[x],ρ1,st,by unfold Dm.eAs;rw [e1];rfl,fun vs H0' H' t r=>?_⟩
    cases r with
    | cons r rr=>
     cases rr
     obtain ⟨H1,t1,b1,r1,_,_⟩:=take1 t (ao.refl _) r e2
     obtain ⟨a,q,n,w⟩:=t1.st.ow i _ h2
     rw [q0] at q
     cases q
     obtain ⟨xs,y,rs⟩:=w
     refine ⟨a0,xs,_,rfl,rfl,y,by rw [rs.length];exact Nat.lt_of_lt_of_le hz (by decide),?_⟩
     have ow:ak σ ρ2 a0:=⟨i,_,h2,q0⟩
     refine k σ H1 _ ⟨t1.st.write h2 q0 ⟨_,aD,rs.append (.cons r1 .nil)⟩,t1.stp.trans (Stp.write ow) fun b z=>.inl (t1.own b z),fun b z=>.inl (t1.own b (dU h2 z)),rfl⟩
   ·cases e
  ·cases e
 ·cases e
theorem Dd {i:Nat} {j f:Dm.FE} (h:tDS (Dm.gG i j f) D σ H):pA (tD f) (cK (uo i) (tD j) zv) D σ H:=by
 obtain ⟨H0,ρ,o,st,e,k⟩:=h
 unfold Dm.gG at e
 split at e
 ·cases e
 rename_i x ρ1 e1
 split at e
 ·cases e
 rename_i d ρ2 e2
 split at e
 case h_2=>cases e
 rename_i d0 h2
 split at e
 ·rename_i m ρ3 e3
  split at e
  ·rename_i ds h3
   split at e
   ·cases e
   ·rename_i p e4
    cases e
    refine ⟨H0,ρ,_,ρ1,st,e1,fun v H0' H' t r=>?_⟩
    obtain ⟨H1,t1,b1,r1,_,_⟩:=take1 t (ao.refl _) r e2
    obtain ⟨a0,q0,_,_⟩:=t1.st.ow i _ h2
    refine ⟨_,q0,H1,ρ2,_,ρ3,t1.st,e3,fun u H2 Hc t2 r2=>?_⟩
    obtain ⟨a,q,n,w⟩:=t2.st.ow i _ h3
    rw [q0] at q
    cases q
    obtain ⟨xs,y,rs⟩:=w
    refine ⟨a0,xs,m,p,rfl,Rep.isInt r2,y,by rw [rs.length];exact e4,?_⟩
    have ow:ak σ ρ3 a0:=⟨i,_,h3,q0⟩
    have tt:=t1.trans t2
    refine k σ H2 _ ⟨t2.st.write h3 q0 ⟨_,aD,rs.set (r1.mono t2.stp.s0) p⟩,tt.stp.trans (Stp.write ow) fun b z=>.inl (tt.own b z),fun b z=>.inl (tt.own b (dU h3 z)),rfl⟩
  ·cases e
 ·cases e
noncomputable def JW (J:It) (H00:Hp) (ys:List Dm.Dat):Prop:=∀ H0 H,ao H00 H0→ao H0 H→(∀ i,ys.length≤i→J.stop i H) ∧
 ∀ (i:Nat) (d:Dm.Dat),ys[i]?=some d→J.go i H∧∀ x H',J.yld i H x H'→∃ H0',aJ H0 H H0' H'∧Rep H0' x d
noncomputable def tDI (fi:Dm.FI):TI:=fun σ H R=>∃ H0 ρ ys ρ',au H0 H σ ρ∧fi ρ=some (ys,ρ')∧∀ J H0' H',ESt σ ρ H0 H ρ' H0' H'→JW J H0' ys→R J H'
theorem De {fi:Dm.FI} {bd:Dm.FB} {g:TG} {body:Dm.FS} {is:List Nat} (hb:BD is g bd) (h:tDS (Dm.eO fi bd body) D σ H):CG (tDI fi) g (tDS body) D σ H:=by
 obtain ⟨H0,ρ,o,st,e,k⟩:=h
 unfold Dm.eO at e
 split at e
 ·cases e
 rename_i ys ρ1 e1
 refine ⟨H0,ρ,ys,ρ1,st,e1,fun J H00 Hb t1 jw=>?_⟩
 refine ⟨fun i m σ H=>∃ H0 ρ o,au H0 H σ ρ∧ao H00 H0∧m=ys.length-i∧i≤ys.length∧Dm.gH bd body (ys.drop i) ρ=some o∧kB D σ ρ H0 H o,
  ⟨ys.length,H00,ρ1,o,t1.st,ao.refl _,by simp,Nat.zero_le _,by simpa using e,k.pre t1.sst⟩,?_⟩
 rintro i m σ H ⟨H0,ρ,o,st,s00,rfl,hi,e,k⟩
 obtain ⟨js,jg⟩:=jw H0 H s00 st.same
 by_cases hlt:i<ys.length
 ·have hd:ys[i]?=some ys[i]:=by simp [hlt]
  obtain ⟨g1,g2⟩:=jg i ys[i] hd
  rw [List.drop_eq_getElem_cons hlt] at e
  unfold Dm.gH at e
  refine .inr ⟨g1,fun σ' H'=>∃ H0 ρ o,au H0 H' σ' ρ∧ao H00 H0∧Dm.gH bd body (ys.drop (i+1)) ρ=some o∧kB D σ' ρ H0 H' o,?_,fun x H' y=>?_⟩
  ·rintro σ' H' ⟨H0',ρ',o',h1,h2,h3,h4⟩
   exact ⟨ys.length-(i+1),by omega,H0',ρ',o',h1,h2,rfl,hlt,h3,h4⟩
  ·obtain ⟨H0',gr,rx⟩:=g2 x H' y
   split at e
   ·cases e
   ·rename_i ρ2 e2
    have t2:=ESt.grow st gr
    refine hb H0' H' σ ρ ρ2 x ys[i] _ t2.st rx e2 fun σ2 st2 o2 _ _ f2=>?_
    have t3:SSt σ ρ H0 H σ2 ρ2 H0' H':=⟨st2,t2.stp,fun a z=>.inl (o2 a z),f2⟩
    have k3:=k.pre t3
    have s3:ao H00 H0':=s00.trans gr.s0
    split at e
    ·rename_i ρ3 e3
     exact ⟨H0',ρ2,_,st2,e3,fun σ4 H4 Hd t4=>⟨H4,ρ3,o,t4.st,s3.trans t4.stp.s0,e,k3.pre t4⟩⟩
    ·rename_i ρ3 e3
     exact ⟨H0',ρ2,_,st2,e3,fun σ4 H4 Hd t4=>⟨H4,ρ3,o,t4.st,s3.trans t4.stp.s0,e,k3.pre t4⟩⟩
    ·rename_i ρ3 e3
     cases e
     exact ⟨H0',ρ2,_,st2,e3,k3⟩
    ·rename_i v ρ3 e3
     cases e
     exact ⟨H0',ρ2,_,st2,e3,k3⟩
    ·cases e
 ·have e':i=ys.length:=by omega
  subst e'
  rw [List.drop_length] at e
  cases e
  exact .inl ⟨js _ (Nat.le_refl _),k σ H0 H (.refl st)⟩
theorem yb {K:PySem.W.Frag} {H0:Hp} {a:Addr} {xs:List V} {ds:List Dm.Dat} (hq:Rd H0 a (.lst xs)) (rs:aE H0 xs ds):JW (Itl K a) H0 ds:=by
 intro H0' H s0 s1
 have q:SqL K H a xs:=.inl (ao.rd s1 (ao.rd s0 hq))
 refine ⟨fun i hi=>⟨xs,q,by rw [rs.length];exact hi⟩,fun i d e=>?_⟩
 obtain ⟨v,hv,rv⟩:=rs.get e
 refine ⟨⟨xs,v,q,hv⟩,fun x H' y=>?_⟩
 obtain ⟨e1,y⟩:=y
 subst e1
 have z:=y xs q
 rw [hv] at z
 cases z
 exact ⟨H0',aJ.refl s1,rv.mono s0⟩
theorem A1 {K:PySem.W.Frag} {H0:Hp} {a:Addr} {xs:List V} {ds:List Dm.Dat} (hq:H0 a=some (.tup xs)) (rs:aE H0 xs ds):JW (Itt K a) H0 ds:=by
 intro H0' H s0 s1
 have q:SqT K H a xs:=.inl (.inl (s1 _ _ (s0 _ _ hq)))
 refine ⟨fun i hi=>⟨xs,q,by rw [rs.length];exact hi⟩,fun i d e=>?_⟩
 obtain ⟨v,hv,rv⟩:=rs.get e
 refine ⟨⟨xs,v,q,hv⟩,fun x H' y=>?_⟩
 obtain ⟨e1,y⟩:=y
 subst e1
 have z:=y xs q
 rw [hv] at z
 cases z
 exact ⟨H0',aJ.refl s1,rv.mono s0⟩
theorem m6 {H0:Hp} {lo:Int} {n:Nat}:JW (Itr lo n) H0 (Dm.ups lo n):=by
 intro H0' H s0 s1
 have el:(Dm.ups lo n).length=n:=by simp [Dm.ups]
 refine ⟨fun i hi=>by rw [el] at hi;exact hi,fun i d e=>?_⟩
 have hi:i<n:=by have:=(List.getElem?_eq_some_iff.mp e).1;rw [el] at this;exact this
 have hd:d=.int (lo+i):=by
  unfold Dm.ups at e
  rw [List.getElem?_map,List.getElem?_range hi] at e
  exact (Option.some.inj e).symm
 refine ⟨hi,fun x H' y=>?_⟩
 obtain ⟨rfl,rfl⟩:=y
 subst hd
 exact ⟨H0',aJ.refl s1,.int _⟩
variable {R:It→Hp→Prop}
theorem Fg {K:PySem.W.Frag} {f:Dm.FE} (h:tDI (Dm.iL f) σ H R):mP K (tD f) σ H R:=by
 obtain ⟨H0,ρ,ys,ρ',st,e,k⟩:=h
 unfold Dm.iL at e
 split at e
 ·cases e
 rename_i x ρ1 e1
 split at e
 ·rename_i ds ρ2 e2
  cases e
  refine ⟨H0,ρ,_,ρ1,st,e1,fun v H0' H' t r=>?_⟩
  obtain ⟨H1,t1,b1,r1,_,_⟩:=take1 t (ao.refl _) r e2
  cases r1 with
  | lst q rs=>exact ⟨_,rfl,⟨_,.inl (ao.rd t1.st.same q)⟩,k _ H1 H' t1 (yb q rs)⟩
 ·cases e
theorem Fj {K:PySem.W.Frag} {f:Dm.FE} (h:tDI (Dm.iT f) σ H R):ux K (tD f) σ H R:=by
 obtain ⟨H0,ρ,ys,ρ',st,e,k⟩:=h
 unfold Dm.iT at e
 split at e
 ·cases e
 rename_i x ρ1 e1
 split at e
 ·rename_i ds ρ2 e2
  cases e
  refine ⟨H0,ρ,_,ρ1,st,e1,fun v H0' H' t r=>?_⟩
  obtain ⟨H1,t1,b1,r1,_,_⟩:=take1 t (ao.refl _) r e2
  cases r1 with
  | tup q rs=>exact ⟨_,rfl,⟨_,.inl (.inl (t1.st.same _ _ q))⟩,k _ H1 H' t1 (A1 q rs)⟩
 ·cases e
theorem Df {f:Dm.FE} (h:tDI (Dm.iR1 f) σ H R):zp (tDA [f]) σ H R:=by
 obtain ⟨H0,ρ,ys,ρ',st,e,k⟩:=h
 unfold Dm.iR1 at e
 split at e
 ·rename_i j ρ1 e1
  split at e
  ·rename_i hb
   cases e
   refine ⟨H0,ρ,[.val (.int j)],_,st,by unfold Dm.eAs;rw [e1];rfl,fun vs H0' H' t r=>?_⟩
   cases r with
   | cons r rr=>
    cases rr
    cases Rep.isInt r
    have h1:=hb.1
    have h2:=hb.2
    unfold Dm.BIG at h1 h2
    exact ⟨j,rfl,by omega,by omega,k _ H0' H' t m6⟩
  ·cases e
 ·cases e
theorem Dg {f g:Dm.FE} (h:tDI (Dm.iR2 f g) σ H R):zq (tDA [f,g]) σ H R:=by
 obtain ⟨H0,ρ,ys,ρ',st,e,k⟩:=h
 unfold Dm.iR2 at e
 split at e
 ·rename_i i ρ1 e1
  split at e
  ·rename_i j ρ2 e2
   split at e
   ·rename_i hb
    cases e
    refine ⟨H0,ρ,[.val (.int i),.val (.int j)],_,st,by unfold Dm.eAs;rw [e1];dsimp only;unfold Dm.eAs;rw [e2];rfl,fun vs H0' H' t r=>?_⟩
    cases r with
    | cons r rr=>
     cases rr with
     | cons r' rr=>
      cases rr
      cases Rep.isInt r
      cases Rep.isInt r'
      obtain ⟨h1,h2,h3,h4⟩:=hb
      unfold Dm.BIG at h1 h2 h3 h4
      exact ⟨i,j,rfl,⟨by omega,by omega,by omega,by omega⟩,k _ H0' H' t m6⟩
   ·cases e
  ·cases e
 ·cases e
noncomputable def tLC (wi:TI) (own:Nat) (g:TG) (tt:TT) (te:TE):TE:=fun σ H Q=>wi σ H fun J H1=>∀ D,H1 D=none→∃ W:Nat→Nat→St→Hp→Prop,
 (∃ m,W 0 m (σ++List.replicate own none) (upd H1 D (.lst [])))∧∀ i m σ' H',W i m σ' H' →
  (J.stop i H'∧Q (.ref D) H')∨(J.go i H'∧∀ x H2,J.yld i H' x H2→g x σ' H2 fun σ2 H3=>tt σ2 H3 fun b H4=>if b=true
   then te σ2 H4 fun y H5=>∃ acc,H5 D=some (.lst acc)∧acc.length<sizeLine∧∃ m',m'<m∧W (i+1) m' σ2 (upd H5 D (.lst (acc++[y])))
   else ∃ m',m'<m∧W (i+1) m' σ2 H4)
theorem au.aside {H0 H:Hp} {σ:St} {ρ:Dm.Env} {a:Addr} {o:HO} (st:au H0 H σ ρ) (n0:H0 a=none) (no:¬ ak σ ρ a):au H0 (upd H a o) σ ρ where
 same:=fun b u z=>by rw [aC (aG z n0)];exact st.same _ _ z
 len:=st.len
 sh:=st.sh
 ow:=fun j d h=>by
  obtain ⟨b,q,n,w⟩:=st.ow j d h
  have nb:b≠a:=fun y=>no ⟨j,d,h,y▸q⟩
  exact ⟨b,q,n,w.mono (ao.refl _) (aC nb)⟩
 dis:=st.dis
theorem au.gh {H0 H:Hp} {σ:St} {ρ:Dm.Env} {a:Addr} (st:au H0 H σ ρ) (h:H a=none):¬ ak σ ρ a:=fun ⟨i,d,h1,h2⟩=>by
 obtain ⟨b,q,n,w⟩:=st.ow i d h1
 rw [h2] at q
 cases q
 obtain ⟨o,z⟩:=w.some
 rw [h] at z;cases z
theorem gj {α:Type} {l:List α} {r:List α} {i:Nat} {x:α} (h:(l++r)[i]?=some x) (n:x∉r):i<l.length∧l[i]?=some x:=by
 by_cases hi:i<l.length
 ·rw [List.getElem?_append_left hi] at h
  exact ⟨hi,h⟩
 ·rw [List.getElem?_append_right (Nat.not_lt.mp hi)] at h
  exact absurd (List.mem_of_getElem? h) n
theorem uU {d:Dm.Dat} {k:Nat}:Dm.Cell.sh d∉List.replicate k Dm.Cell.un:=fun h=>by
 have:=List.eq_of_mem_replicate h
 cases this
theorem gk {d:Dm.Dat} {k:Nat}:Dm.Cell.ow d∉List.replicate k Dm.Cell.un:=fun h=>by
 have:=List.eq_of_mem_replicate h
 cases this
theorem au.ext {H0 H:Hp} {σ:St} {ρ:Dm.Env} (st:au H0 H σ ρ) (k:Nat):au H0 H (σ++List.replicate k none) (ρ++List.replicate k .un) where
 same:=st.same
 len:=by simp [st.len]
 sh:=fun i d h=>by
  obtain ⟨hi,h⟩:=gj h uU
  obtain ⟨v,q,r⟩:=st.sh i d h
  exact ⟨v,by rw [List.getElem?_append_left (by rw [st.len];exact hi)];exact q,r⟩
 ow:=fun i d h=>by
  obtain ⟨hi,h⟩:=gj h gk
  obtain ⟨v,q,r⟩:=st.ow i d h
  exact ⟨v,by rw [List.getElem?_append_left (by rw [st.len];exact hi)];exact q,r⟩
 dis:=fun i j d e a h1 h2 h3 h4=>by
  obtain ⟨hi,h1⟩:=gj h1 gk
  obtain ⟨hj,h2⟩:=gj h2 gk
  rw [List.getElem?_append_left (by rw [st.len];exact hi)] at h3
  rw [List.getElem?_append_left (by rw [st.len];exact hj)] at h4
  exact st.dis i j d e a h1 h2 h3 h4
theorem kC {H0 H:Hp} {σ:St} {ρ:Dm.Env} (st:au H0 H σ ρ) {k:Nat} {a:Addr} (h:ak (σ++List.replicate k none) (ρ++List.replicate k .un) a):ak σ ρ a:=by
 obtain ⟨i,d,h1,h2⟩:=h
 obtain ⟨hi,h1⟩:=gj h1 gk
 rw [List.getElem?_append_left (by rw [st.len];exact hi)] at h2
 exact ⟨i,d,h1,h2⟩
theorem Stp.aside {O:Addr→Prop} {H0 H H0' H':Hp} {D:Addr} {o:HO} (t:Stp O H0 H H0' H') (hD:H D=none):Stp O H0 H H0' (upd H' D o):=
 ⟨t.s0,fun a u e n=>by rw [aC (aG e hD)];exact t.s1 a u e n,t.s2,fun a u e=>by rw [aC (aG e hD)];exact t.s3 a u e⟩
theorem ESt.g6 {σ:St} {ρ ρ':Dm.Env} {H0 H H0' H':Hp} (t:ESt σ ρ H0 H ρ' H0' H') {D:Addr} {o:HO} (h:H D=some o) (n0:H0 D=none) (no:¬ ak σ ρ D):H' D=some o∧H0' D=none∧¬ ak σ ρ' D:=by
 refine ⟨t.stp.s1 D o h no,?_,fun z=>no (t.own D z)⟩
 cases q:H0' D with
 | none=>rfl
 | some u=>
  rcases t.stp.s2 D u q with z | z | z
  ·rw [h] at z;cases z
  ·rw [n0] at z;cases z
  ·exact absurd z no
noncomputable def JWa (J:It) (H00:Hp) (pa:Option (Addr×HO)) (ys:List Dm.Dat):Prop:=∀ H0 H,ao H00 H0→ao H0 H→(∀ q,pa=some q→H q.1=some q.2)→(∀ i,ys.length≤i→J.stop i H) ∧
 ∀ (i:Nat) (d:Dm.Dat),ys[i]?=some d→J.go i H∧∀ x H',J.yld i H x H'→∃ H0',aJ H0 H H0' H'∧Rep H0' x d
theorem m7 {σ:St} {own:Nat} {bd:Dm.FB} {g:TG} {t:Dm.FT} {el:Dm.FE} {is:List Nat} {Q:VK} {H00 Hb:Hp} {ρ1 ρ2:Dm.Env} {ds ys:List Dm.Dat} {J:It} {pa:Option (Addr×HO)} (hb:BD is g bd) (hl:∀ i∈is,σ.length≤i)
  (st1:au H00 Hb σ ρ1) (hp:∀ q,pa=some q→Hb q.1=some q.2∧H00 q.1=none∧¬ ak σ ρ1 q.1) (jw:JWa J H00 pa ds) (hsz:ds.length≤Dm.SZ) (e2:Dm.cL bd t el ds (ρ1++List.replicate own .un) []=some (ys,ρ2))
  (k:∀ v H0' H',ESt σ ρ1 H00 Hb (ρ2.take ρ1.length) H0' H'→dR Hb H0' H' σ (ρ2.take ρ1.length) v (.new (.lst ys))→(∀ q,pa=some q→H' q.1=some q.2∧H0' q.1=none)→Q v H') (D:Addr) (hD:Hb D=none) :
  ∃ W:Nat→Nat→St→Hp→Prop,(∃ m,W 0 m (σ++List.replicate own none) (upd Hb D (.lst [])))∧∀ i m σ' H',W i m σ' H' →
  (J.stop i H'∧Q (.ref D) H')∨(J.go i H'∧∀ x H2,J.yld i H' x H2→g x σ' H2 fun σ2 H3=>tDT t σ2 H3 fun b H4=>if b=true
   then tD el σ2 H4 fun y H5=>∃ acc,H5 D=some (.lst acc)∧acc.length<sizeLine∧∃ m',m'<m∧W (i+1) m' σ2 (upd H5 D (.lst (acc++[y])))
   else ∃ m',m'<m∧W (i+1) m' σ2 H4):=by
 have hpD:∀ q,pa=some q→q.1≠D:=fun q e z=>by have:=(hp q e).1;rw [z,hD] at this;cases this
 have noD:¬ ak σ ρ1 D:=st1.gh hD
 refine ⟨fun i m σ' H'=>∃ (H0c:Hp) (ρc:Dm.Env) (sP:List Dm.Dat) (pP:List V),au H0c H' σ' ρc∧ao H00 H0c∧m=ds.length-i∧i≤ds.length∧Dm.cL bd t el (ds.drop i) ρc sP=some (ys,ρ2) ∧
  H' D=some (.lst pP)∧aE H0c pP sP∧H0c D=none∧sP.length≤i∧Stp (ak σ ρ1) H00 Hb H0c H'∧(∀ j,j<σ.length→σ'[j]?=σ[j]?)∧(∀ a,ak σ' ρc a→ak σ ρ1 a)∧(∀ j,Def ρ1 j→Def ρc j)∧(∀ q,pa=some q→H' q.1=some q.2∧H0c q.1=none∧¬ ak σ' ρc q.1),
  ⟨ds.length,H00,ρ1++List.replicate own .un,[],[],(st1.aside (st1.same.free hD) noD).ext own,ao.refl _,by simp,Nat.zero_le _,by simpa using e2,aD,.nil,st1.same.free hD,Nat.zero_le _,(Stp.refl _ _ _).aside hD,
   fun j hj=>List.getElem?_append_left hj,fun a z=>kC st1 z,fun j z=>trivial,fun q e=>⟨by rw [aC (hpD q e)];exact (hp q e).1,(hp q e).2.1,fun z=>(hp q e).2.2 (kC st1 z)⟩⟩,?_⟩
 rintro i m σ' H' ⟨H0c,ρc,sP,pP,sc,s00,rfl,hi,ec,hDl,ra,n0,hal,sp,hσ,ho,hdf,hpc⟩
 have nOc:¬ ak σ' ρc D:=fun z=>noD (ho D z)
 obtain ⟨js,jg⟩:=jw H0c H' s00 sc.same fun q e=>(hpc q e).1
 by_cases hlt:i<ds.length
 ·have hd:ds[i]?=some ds[i]:=by simp [hlt]
  obtain ⟨g1,g2⟩:=jg i ds[i] hd
  rw [List.drop_eq_getElem_cons hlt] at ec
  unfold Dm.cL at ec
  refine .inr ⟨g1,fun y H2 yy=>?_⟩
  obtain ⟨H0',gr,rx⟩:=g2 y H2 yy
  split at ec
  ·cases ec
  rename_i ρ3 e3
  have t2:=ESt.grow sc gr
  obtain ⟨hD2,n02,no2⟩:=t2.g6 hDl n0 nOc
  have hp2:=fun q e=>t2.g6 (hpc q e).1 (hpc q e).2.1 (hpc q e).2.2
  refine hb H0' H2 σ' ρc ρ3 y ds[i] _ t2.st rx e3 fun σ3 st3 o3 k3 d3 _=>?_
  have no3:¬ ak σ3 ρ3 D:=fun z=>no2 (o3 D z)
  have po3:∀ q,pa=some q→¬ ak σ3 ρ3 q.1:=fun q e z=>(hp2 q e).2.2 (o3 q.1 z)
  have hσ3:∀ j,j<σ.length→σ3[j]?=σ[j]?:=fun j hj=>(k3 j fun z=>Nat.not_lt.mpr (hl j z) hj).trans (hσ j hj)
  have ho3:∀ a,ak σ3 ρ3 a→ak σ ρ1 a:=fun a z=>ho a (o3 a z)
  have Dh:∀ j,Def ρ1 j→Def ρ3 j:=fun j z=>d3 j (hdf j z)
  have sp3:Stp (ak σ ρ1) H00 Hb H0' H2:=sp.trans t2.stp fun a z=>.inl (ho a z)
  have ra3:=ra.mono gr.s0
  have s3:ao H00 H0':=s00.trans gr.s0
  split at ec
  ·cases ec
  ·rename_i ρ4 e4
   refine ⟨H0',ρ3,false,ρ4,st3,e4,fun A2 H'' t4=>?_⟩
   dsimp only
   rw [if_neg Bool.false_ne_true]
   obtain ⟨hD4,n04,no4⟩:=t4.g6 hD2 n02 no3
   have hp4:=fun q e=>t4.g6 (hp2 q e).1 (hp2 q e).2.1 (po3 q e)
   exact ⟨ds.length-(i+1),by omega,A2,ρ4,sP,pP,t4.st,s3.trans t4.stp.s0,rfl,hlt,ec,hD4,ra3.mono t4.stp.s0,n04,Nat.le_succ_of_le hal,sp3.trans t4.stp fun a z=>.inl (ho3 a z),hσ3,fun a z=>ho3 a (t4.own a z),fun j z=>t4.dfn j (Dh j z),hp4⟩
  ·rename_i ρ4 e4
   refine ⟨H0',ρ3,true,ρ4,st3,e4,fun A2 H'' t4=>?_⟩
   dsimp only
   rw [if_pos rfl]
   obtain ⟨hD4,n04,no4⟩:=t4.g6 hD2 n02 no3
   have hp4:=fun q e=>t4.g6 (hp2 q e).1 (hp2 q e).2.1 (po3 q e)
   split at ec
   ·cases ec
   rename_i x5 ρ5 e5
   split at ec
   ·cases ec
   rename_i y6 ρ6 e6
   refine ⟨A2,ρ4,x5,ρ5,t4.st,e5,fun v H5 Hc t5 r5=>?_⟩
   obtain ⟨H6,t6,b6,r6,_,_⟩:=take1 t5 (ao.refl _) r5 e6
   obtain ⟨hD6,n06,no6⟩:=t6.g6 hD4 n04 no4
   have hp6:=fun q e=>t6.g6 (hp4 q e).1 (hp4 q e).2.1 (hp4 q e).2.2
   refine ⟨pP,hD6,?_,ds.length-(i+1),by omega,H6,ρ6,sP++[y6],pP++[v],t6.st.aside n06 no6,(s3.trans t4.stp.s0).trans t6.stp.s0,rfl,hlt,ec,aD,?_,n06,?_,?_,hσ3,fun a z=>ho3 a (t4.own a (t6.own a z)),fun j z=>t6.dfn j (t4.dfn j (Dh j z)),fun q e=>⟨by rw [aC (hpD q e)];exact (hp6 q e).1,(hp6 q e).2.1,(hp6 q e).2.2⟩⟩
   ·rw [ra.length]
    unfold Dm.SZ at hsz
    exact Nat.lt_of_le_of_lt (Nat.le_trans hal (Nat.le_trans (Nat.le_of_lt hlt) hsz)) (by decide)
   ·exact ((ra3.mono t4.stp.s0).mono t6.stp.s0).append (.cons r6 .nil)
   ·rw [List.length_append,List.length_singleton];omega
   ·exact ((sp3.trans t4.stp fun a z=>.inl (ho3 a z)).trans t6.stp fun a z=>.inl (ho3 a (t4.own a z))).aside hD
 ·have e':i=ds.length:=by omega
  subst e'
  rw [List.drop_length] at ec
  cases ec
  refine .inl ⟨js _ (Nat.le_refl _),k _ H0c H' ?_ ?_ fun q e=>⟨(hpc q e).1,(hpc q e).2.1⟩⟩
  ·have hlen:σ.length≤ρ2.length:=by
    rw [← sc.len]
    refine Nat.not_lt.mp fun z=>?_
    have q:=hσ σ'.length z
    rw [List.getElem?_eq_none (Nat.le_refl _),List.getElem?_eq_getElem z] at q
    cases q
   have tk:∀ {j:Nat} {c:Dm.Cell},(ρ2.take ρ1.length)[j]?=some c→j<σ.length∧ρ2[j]?=some c:=fun {j c} h=>by
    have hj:j<ρ1.length:=by
     have:=(List.getElem?_eq_some_iff.mp h).1
     rw [List.length_take] at this
     omega
    rw [List.getElem?_take_of_lt hj] at h
    exact ⟨by rw [st1.len];exact hj,h⟩
   have own':∀ a,ak σ (ρ2.take ρ1.length) a→ak σ' ρ2 a:=fun a ⟨j,d,h1,h2⟩=>by
    obtain ⟨hj,h1⟩:=tk h1
    exact ⟨j,d,h1,(hσ j hj).trans h2⟩
   refine ⟨⟨sc.same,?_,fun j d h=>?_,fun j d h=>?_,fun j j' d d' a h1 h2 h3 h4=>?_⟩,sp,fun a z=>ho a (own' a z),fun j z=>?_⟩
   ·rw [List.length_take,← st1.len];omega
   ·obtain ⟨hj,h⟩:=tk h
    obtain ⟨v,q,r⟩:=sc.sh j d h
    exact ⟨v,(hσ j hj).symm.trans q,r⟩
   ·obtain ⟨hj,h⟩:=tk h
    obtain ⟨v,q,r⟩:=sc.ow j d h
    exact ⟨v,(hσ j hj).symm.trans q,r⟩
   ·obtain ⟨hj,h1⟩:=tk h1
    obtain ⟨hj',h2⟩:=tk h2
    exact sc.dis j j' d d' a h1 h2 ((hσ j hj).trans h3) ((hσ j' hj').trans h4)
   ·trivial
  ·refine ⟨D,rfl,hD,fun ⟨j,d,h1,h2⟩=>?_,n0,pP,hDl,ra⟩
   have hj:j<ρ1.length:=by
    have:=(List.getElem?_eq_some_iff.mp h1).1
    rw [List.length_take] at this
    omega
   rw [List.getElem?_take_of_lt hj] at h1
   exact nOc ⟨j,d,h1,(hσ j (by rw [st1.len];exact hj)).trans h2⟩
theorem pQ {fi:Dm.FI} {own:Nat} {bd:Dm.FB} {g:TG} {t:Dm.FT} {el:Dm.FE} {is:List Nat} {Q:VK} (hb:BD is g bd) (hl:∀ i∈is,σ.length≤i) (h:tD (Dm.bO fi own bd t el) σ H Q) :
  tLC (tDI fi) own g (tDT t) (tD el) σ H Q:=by
 obtain ⟨H0,ρ,x,ρ',st,e,k⟩:=h
 unfold Dm.bO at e
 split at e
 ·cases e
 rename_i ds ρ1 e1
 split at e
 case isFalse=>cases e
 rename_i hsz
 split at e
 ·cases e
 rename_i ys ρ2 e2
 cases e
 refine ⟨H0,ρ,ds,ρ1,st,e1,fun J H00 Hb t1 jw D hD=>m7 (pa:=none) hb hl t1.st (fun q e=>by cases e) (fun H0 H s0 s1 _=>jw H0 H s0 s1) hsz e2 (fun v H0' H' t2 r2 _=>k v H0' H' (t1.trans t2) (r2.early fun a n=>t1.stp.gone n)) D hD⟩
theorem aU {n m:Nat} {body:Dm.FS} {vs:List V} {H:Hp} {Q:VK} {E:XK} (h:spD (Dm.fn n m body) vs H Q E):vs.length=n:=by
 obtain ⟨H0,ds,z,s,rs,e,k⟩:=h
 unfold Dm.fn at e
 split at e
 ·rename_i hl
  rw [rs.length];exact hl
 ·cases e
theorem cy {N:List Str} {n m:Nat} {body:Dm.FS} {vs:List V} {Q:VK} {E:XK} (hm:N.length=n+m) (h:spD (Dm.fn n m body) vs H Q E) :
  tDS body { nx:=fun _ H'=>Q .non H',rt:=Q } (start N vs) H:=by
 have hvn:=aU h
 obtain ⟨H0,ds,z,s,rs,e,k⟩:=h
 have hl:=rs.length
 have no:∀ a,¬ ak (start N vs) (ds.map Dm.Cell.sh++List.replicate m .un) a:=fun a ⟨i,d,h1,_⟩=>by
  by_cases hi:i<ds.length
  ·rw [List.getElem?_append_left (by simpa using hi),List.getElem?_map] at h1
   cases q:ds[i]? with
   | none=>rw [q] at h1;cases h1
   | some y=>rw [q] at h1;cases h1
  ·rw [List.getElem?_append_right (by simpa using hi),List.getElem?_replicate] at h1
   split at h1<;>cases h1
 have st:au H0 H (start N vs) (ds.map Dm.Cell.sh++List.replicate m .un):=by
  refine ⟨s,?_,fun i d h=>?_,fun i d h=>?_,fun i j d e a h1 h2 _ _=>?_⟩
  ·unfold L2.start
   simp only [List.length_append,List.length_map,List.length_replicate]
   omega
  ·have hi:i<ds.length:=by
    by_cases hi:i<ds.length
    ·exact hi
    ·rw [List.getElem?_append_right (by simpa using hi),List.getElem?_replicate] at h
     split at h<;>cases h
   rw [List.getElem?_append_left (by simpa using hi),List.getElem?_map] at h
   cases q:ds[i]? with
   | none=>rw [q] at h;cases h
   | some y=>
    rw [q] at h
    cases h
    obtain ⟨v,hv,r⟩:=rs.get q
    refine ⟨v,?_,r⟩
    unfold L2.start
    rw [List.getElem?_append_left (by simpa [hl] using hi),List.getElem?_map,hv]
    rfl
  ·by_cases hi:i<ds.length
   ·rw [List.getElem?_append_left (by simpa using hi),List.getElem?_map] at h
    cases q:ds[i]? with
    | none=>rw [q] at h;cases h
    | some y=>rw [q] at h;cases h
   ·rw [List.getElem?_append_right (by simpa using hi),List.getElem?_replicate] at h
    split at h<;>cases h
  ·by_cases hi:i<ds.length
   ·rw [List.getElem?_append_left (by simpa using hi),List.getElem?_map] at h1
    cases q:ds[i]? with
    | none=>rw [q] at h1;cases h1
    | some y=>rw [q] at h1;cases h1
   ·rw [List.getElem?_append_right (by simpa using hi),List.getElem?_replicate] at h1
    split at h1<;>cases h1
 have gr:∀ {H0' H'},Stp (ak (start N vs) (ds.map Dm.Cell.sh++List.replicate m .un)) H0 H H0' H'→ao H0' H'→aJ H0 H H0' H':=fun {H0' H'} t ss=>
  ⟨t.s0,fun a o e=>t.s1 a o e (no a),fun a o e=>(t.s2 a o e).imp id fun q=>q.elim id fun z=>absurd z (no a),ss⟩
 unfold Dm.fn at e
 rw [if_pos (by rw [← hl];exact hvn)] at e
 split at e
 ·rename_i r ρ' e1
  cases e
  refine ⟨H0,_,_,st,e1,fun σ' v H0' H' t r _=>k v H0' H' (gr t.stp t.st.same) ?_⟩
  cases z with
  | val d=>exact r
  | new d=>
   obtain ⟨a,e,n,n0,w⟩:=r
   exact ⟨a,e,n.elim id fun z=>absurd z (no a),n0,w⟩
 ·rename_i ρ' e1
  cases e
  exact ⟨H0,_,_,st,e1,fun σ' H0' H' t=>k _ H0' H' (gr t.stp t.st.same) .non⟩
 ·cases e
end
open PySem PySem.Spec PyProof.Rows L2
noncomputable def aS (X:Cx) (nm:List Str) (scope:Scope) (own:List Str) (cl:List (Str×Addr)) (C:Addr) (s:Shared) (H:Hp) (fp:List Addr):Cx where
 prog:=X.prog
 w:=X.w
 K:=X.K
 mg:=X.mg
 base:=X.base
 A:=X.A
 N:=nm++own
 s₀:=s
 H₀:=H
 env:=compEnvC scope cl C X.env
 outer:=X.stack
 stack:=X.stack
 ex:=fp
 fn:=fun _=>false
 calm:=X.calm
 pn:=[]
 xe:=fun _ _=>False
noncomputable def PTs (X:Cx) (ifs:List Expr) (t:TT):Prop:=
 ∀ (pins:List (Addr×Obj)) (s:Shared) (σ:L2.St) (H:Hp) (Q:Bool→Hp→Prop),Inv X pins σ H s→t σ H Q →
  wpAny (model X.prog X.w) X.A (forIn ifs true fun c r=>if r=true then do let ok ← isTrue c X.env (eval c X.env);pure (ForInStep.yield ok) else pure (ForInStep.yield r)) (TP X pins σ Q) X.xe s
noncomputable def Fl:TT:=fun _ H Q=>Q true H
theorem yc {X:Cx}:PTs X [] Fl:=fun pins s σ H Q I h=>wpAny_tests_nil ⟨H,I,h⟩
theorem yd {X:Cx} {c:Expr} {t:TT} (h:PT X c t):PTs X [c] t:=fun pins s σ H Q I hq=>wpAny_tests_one (h pins s σ H Q I hq)
theorem cO (env:Env):∀ (names:List (Str×NameKind)) (cs:List (Str×Addr)),(∀ y∈names,y.2=.free→∃ c,env.cells.lookup y.1=some c) →
  ∃ cl,(forIn names cs fun (x:Str×NameKind) (r:List (Str×Addr))=>(if (x.2 == NameKind.free)=true then do let c ← cellOf env x.1;pure (ForInStep.yield ((x.1,c)::r)) else pure (ForInStep.yield r):Sem (ForInStep (List (Str×Addr)))))=pure cl ∧
   (∀ x c,cl.lookup x=some c→env.cells.lookup x=some c∨cs.lookup x=some c)∧(∀ y∈names,y.2=.free→∃ c,cl.lookup y.1=some c)∧(∀ x c,cs.lookup x=some c→∃ c',cl.lookup x=some c')
 | [],cs,_=>⟨cs,rfl,fun _ _ h=>.inr h,fun _ h=>(nomatch h),fun _ c h=>⟨c,h⟩⟩
 | (n,k)::r,cs,h=>by
  have hr:∀ y∈r,y.2=.free→∃ c,env.cells.lookup y.1=some c:=fun y hy=>h y (List.mem_cons_of_mem _ hy)
  by_cases hk:k=.free
  ·subst hk
   obtain ⟨c,hc⟩:=h (n,.free) List.mem_cons_self rfl
   obtain ⟨cl,e,h1,h2,h3⟩:=cO env r ((n,c)::cs) hr
   refine ⟨cl,?_,fun x c' q=>?_,fun y hy hf=>?_,fun x c' q=>?_⟩
   ·rw [List.forIn_cons]
    have e1:cellOf env n=pure c:=by unfold cellOf;rw [hc]
    simp only [beq_self_eq_true,if_true,e1,pure_bind]
    exact e
   ·rcases h1 x c' q with z | z
    ·exact .inl z
    ·rw [List.lookup_cons] at z
     cases hx:x == n with
     | true=>
      rw [hx] at z
      have:x=n:=by simpa using hx
      subst this
      injection z with z
      subst z
      exact .inl hc
     | false=>rw [hx] at z;exact .inr z
   ·rcases List.mem_cons.mp hy with rfl | hy
    ·exact h3 n c (by rw [List.lookup_cons,beq_self_eq_true])
    ·exact h2 y hy hf
   ·by_cases hx:x=n
    ·subst hx
     exact h3 x c (by rw [List.lookup_cons,beq_self_eq_true])
    ·have hx':(x == n)=false:=by simpa using hx
     exact h3 x c' (by rw [List.lookup_cons,hx'];exact q)
  ·have hb:(k == NameKind.free)=false:=by simpa using hk
   obtain ⟨cl,e,h1,h2,h3⟩:=cO env r cs hr
   refine ⟨cl,?_,h1,fun y hy hf=>?_,h3⟩
   ·rw [List.forIn_cons]
    simp only [hb,Bool.false_eq_true,if_false,pure_bind]
    exact e
   ·rcases List.mem_cons.mp hy with rfl | hy
    ·exact absurd hf hk
    ·exact h2 y hy hf
theorem iE {env:Env} {scope:Scope} (h:∀ y∈scope.names,y.2=.free→∃ c,env.cells.lookup y.1=some c) :
  ∃ cl,closureFor scope env=pure cl∧(∀ x c,cl.lookup x=some c→env.cells.lookup x=some c)∧∀ y∈scope.names,y.2=.free→∃ c,cl.lookup y.1=some c:=by
 obtain ⟨cl,e,h1,h2,_⟩:=cO env scope.names [] h
 refine ⟨cl,?_,fun x c q=>(h1 x c q).elim id fun z=>by simp at z,h2⟩
 unfold closureFor
 have e':(forIn scope.names ([]:List (Str×Addr)) fun (x:Str×NameKind) (r:List (Str×Addr))=>(if (x.2 == NameKind.free)=true then do let c ← cellOf env x.1;pure (ForInStep.yield ((x.1,c)::r)) else pure (ForInStep.yield r):Sem (ForInStep (List (Str×Addr)))))=pure cl:=e
 first
  | (rw [show (forIn scope.names ([]:List (Str×Addr)) _:Sem (List (Str×Addr)))=pure cl from e'];rfl)
  | (simp only [e'];rfl)
theorem lE {prog:Program} {w:World} {A:Around} {R:Result→Shared→Prop} {s:Shared} {elt target iter:Expr} {ifs:List Expr} {scope:Scope} {pos:Pos} {it acc:Value} {env:Env} (I:Nat→Shared→Prop)
  (turn:∀ n s,I n s→wpAny (model prog w) A (pyNext it) (fun r s₁=>match r with
   | none=>R (.ok .next) s₁
   | some v=>wpAny (model prog w) A (letOwnedTupleGo target it v) (fun _ s₁'=>wpAny (model prog w) A (assign target env v) (fun _ s₂=>
     wpAny (model prog w) A (forIn ifs true fun c r=>if r=true then do let ok ← isTrue c env (eval c env);pure (ForInStep.yield ok) else pure (ForInStep.yield r)) (fun ok s₃=>
      if ok=true then wpAny (model prog w) A (eval elt env) (fun x s₄=>
       wpAny (model prog w) A (call (.builtin "list.append") [acc,x]) (fun _ s₅=>∃ m,m<n∧I m s₅) (fun _ _=>False) s₄) (fun _ _=>False) s₃
      else ∃ m,m<n∧I m s₃) (fun _ _=>False) s₂) (fun _ _=>False) s₁') (fun _ _=>False) s₁) (fun _ _=>False) s)
  (n:Nat) (h:I n s) :
  codeAny (model prog w) A (.compLoop (.ListComp elt [⟨target,iter,ifs,0⟩] scope pos) 0 it acc env) R s:=by
 have no:∀ {P:Value→Shared→Prop} (x:Value) (s':Shared),False→P x s':=fun _ _ f=>f.elim
 refine codeAny_loop rfl I (fun n s hI=>?_) n h
 show wpAny _ A ((compTurn (.ListComp elt [⟨target,iter,ifs,0⟩] scope pos) 0 it acc env).onRaise (fun x=>do noteFrame x env;theTreesLotGoes x)) _ _ s
 refine wpAny_noted ?_
 rw [compTurn_list]
 refine wpAny_bind (wpAny_standAt (wpAny_bind (wpAny_mono (turn n s hI) (fun r s₁ h₁=>?_) no)))
 cases r with
 | none=>exact wpAny_pure h₁
 | some v=>
  refine wpAny_bind (wpAny_mono h₁ (fun _ s₁' h₁'=>?_) no)
  refine wpAny_bind (wpAny_mono h₁' (fun _ s₂ h₂=>wpAny_bind (wpAny_mono h₂ (fun ok s₃ h₃=>?_) no)) no)
  cases ok with
  | false=>exact wpAny_pure ⟨rfl,h₃⟩
  | true=>
   exact wpAny_bind (wpAny_bind (wpAny_mono h₃ (fun x s₄ h₄=>wpAny_bind (wpAny_mono h₄ (fun _ s₅ h₅=>wpAny_pure (wpAny_pure ⟨rfl,h₅⟩)) no)) no))
theorem cg (env:Env):∀ (names:List (Str×NameKind)) (x:Str) (k:NameKind),
  (names.map fun (n,k)=>if (k == NameKind.free&&env.scope.kind == .function&&env.kindOf n == some .cell) then (n,NameKind.cell) else (n,k)).lookup x=some k →
  ∃ k0,names.lookup x=some k0∧(k=k0∨(k0=.free∧k=.cell))
 | [],x,k,h=>by simp at h
 | (n,k1)::r,x,k,h=>by
  have h:List.lookup x ((if (k1 == NameKind.free&&env.scope.kind == .function&&env.kindOf n == some .cell)=true then (n,NameKind.cell) else (n,k1))::r.map fun (n,k)=>if (k == NameKind.free&&env.scope.kind == .function&&env.kindOf n == some .cell) then (n,NameKind.cell) else (n,k))=some k:=h
  cases hx:x == n with
  | true=>
   by_cases hc:(k1 == NameKind.free&&env.scope.kind == .function&&env.kindOf n == some .cell)=true
   ·rw [if_pos hc,List.lookup_cons,hx] at h
    injection h with h
    have hk:k1=.free:=by
     simp only [Bool.and_eq_true,beq_iff_eq] at hc
     exact hc.1.1
    exact ⟨k1,by rw [List.lookup_cons,hx],.inr ⟨hk,h.symm⟩⟩
   ·rw [if_neg hc,List.lookup_cons,hx] at h
    injection h with h
    exact ⟨k1,by rw [List.lookup_cons,hx],.inl h.symm⟩
  | false=>
   by_cases hc:(k1 == NameKind.free&&env.scope.kind == .function&&env.kindOf n == some .cell)=true
   ·rw [if_pos hc,List.lookup_cons,hx] at h
    obtain ⟨k0,e,z⟩:=cg env r x k h
    exact ⟨k0,by rw [List.lookup_cons,hx];exact e,z⟩
   ·rw [if_neg hc,List.lookup_cons,hx] at h
    obtain ⟨k0,e,z⟩:=cg env r x k h
    exact ⟨k0,by rw [List.lookup_cons,hx];exact e,z⟩
structure cG (X:Cx) (nm:List Str) (scope:Scope):Prop where
 kind:scope.kind=.function
 cell:∀ y∈scope.names,y.2≠.cell
 names:∀ y∈scope.names,y.2=.local→scope.names.lookup y.1=some .local
 free:∀ y∈scope.names,y.2=.free→X.env.kindOf y.1=some .cell∨X.env.kindOf y.1=some .free
 apart:∀ x∈nm,scope.names.lookup x≠some .local
 len:nm.length=X.N.length
 mask:∀ (i:Nat) (x:Str),nm[i]?=some x→X.N[i]?=some x∨scope.names.lookup x=none
section
variable {X:Cx} {nm:List Str} {elt tg iter:Expr} {ifs:List Expr} {scope:Scope} {pos:Pos} {own:List Str} {wi:TI} {g:TG} {tt:TT} {te:TE}
theorem kD {pins:List (Addr×Obj)} {s2:Shared} {σ:L2.St} {H2:Hp} {cl:List (Str×Addr)} {it:Addr} {fp:List Addr} {tn:Nat→Heap→Prop} {J:It} {Q:VK} {E:Value→Shared→Prop} {RR:Value→Addr→Result→Shared→Prop}
  (hc:X.calm=true) (S:cG X nm scope) (iF:∀ x c,cl.lookup x=some c→X.env.cells.lookup x=some c) (sQ:∀ y∈scope.names,y.2=.free→∃ c,cl.lookup y.1=some c)
  (hg:∀ cl C s H fp,PG (aS X nm scope own cl C s H fp) tg g) (ht:∀ cl C s H fp,PTs (aS X nm scope own cl C s H fp) ifs tt) (he:∀ cl C s H fp,PE (aS X nm scope own cl C s H fp) elt te)
  (I2:Inv X pins σ H2 s2) (T:Turn X.prog X.w X.K tg J fp it tn) (st2:tn 0 s2.heap) (f2:∀ b∈fp,j0 X pins H2 b)
  (hR:∀ D,H2 D=none→∃ W:Nat→Nat→L2.St→Hp→Prop,
   (∃ m,W 0 m (σ++List.replicate own.length none) (upd H2 D (.lst [])))∧∀ i m σ' H',W i m σ' H' →
    (J.stop i H'∧Q (.ref D) H')∨(J.go i H'∧∀ x H2,J.yld i H' x H2→g x σ' H2 fun σ2 H3=>tt σ2 H3 fun b H4=>if b=true
     then te σ2 H4 fun y H5=>∃ acc,H5 D=some (.lst acc)∧acc.length<sizeLine∧∃ m',m'<m∧W (i+1) m' σ2 (upd H5 D (.lst (acc++[y])))
     else ∃ m',m'<m∧W (i+1) m' σ2 H4))
  (Fo:∀ D C H6 s6,Inv X pins σ H6 s6→H6 C=none→C≠X.env.locals→X.s₀.heap.objs.size≤C→(∀ x c,X.env.cells.lookup x=some c→c≠C)→(∀ p∈X.pn++pins,p.1≠C)→(∃ m,s6.heap.Ns C m)→Q (.ref D) H6→RR (.ref D) C (.ok .next) s6) :
  wpAny (model X.prog X.w) X.A (newList []) (fun acc s₃=>wpAny (model X.prog X.w) X.A (newFunctionEnv scope X.env.globals cl [] X.env.qual none .none (some X.env)) (fun cenv s₄=>
   codeAny (model X.prog X.w) X.A (.compStart (.ListComp elt [⟨tg,iter,ifs,0⟩] scope pos) 0 (.ref it) acc { cenv with scope:=relabel scope X.env }) (RR acc cenv.locals) s₄) E s₃) E s2:=by
 have no:∀ {P:Value→Shared→Prop} (x:Value) (s':Shared),False→P x s':=fun _ _ f=>f.elim
 refine wpAny_newObj_type (wpAny_newFunctionEnv S.cell (by intro y hy;simp at hy) (fun h₁ hns₁ hsb₁=>?_) S.kind)
 dsimp only at hns₁ hsb₁ ⊢
 have I3:Inv X pins σ (upd H2 s2.heap.objs.size (.lst [])) { s2 with heap:=s2.heap.push { cls:=.type "list",dict:=none,data:=.seq ([]:List Value).toArray } }:=I2.AR (t':=s2.toks) (ys:=[]) (its:=[]) .nil (Nat.zero_le _)
 generalize hG2:s2.heap.push { cls:=.type "list",dict:=none,data:=.seq ([]:List Value).toArray }=G2 at hns₁ hsb₁ I3 ⊢
 have hC:G2.objs.size=s2.heap.objs.size+1:=by rw [← hG2,Heap.size_push]
 have up2:∀ b o,s2.heap.get? b=some o→G2.get? b=some o:=fun b o e=>hG2▸Heap.get?_push_of_some _ e
 have up3:∀ b o,G2.get? b=some o→h₁.get? b=some o:=fun b o e=>hsb₁.extBut b o (Nat.ne_of_lt (Heap.lt_size e)) (Heap.get?_push_of_some _ e)
 have Fp:G2.get? G2.objs.size=none:=Heap.get?_none_of_le (Nat.le_refl _)
 have fpo:∀ b∈fp,∃ o,s2.heap.get? b=some o:=fun b hb=>by
  obtain ⟨o,e,_⟩:=T.obj 0 _ st2 b hb
  exact ⟨o,e⟩
 have fpC:∀ b∈fp,b≠G2.objs.size:=fun b hb=>by
  obtain ⟨o,e⟩:=fpo b hb
  exact Nat.ne_of_lt (Heap.lt_size (up2 b o e))
 have H3C:(upd H2 s2.heap.objs.size (.lst [])) G2.objs.size=none:=I3.hok.fresh (Nat.le_refl _)
 have fpD:∀ b∈fp,b≠s2.heap.objs.size:=fun b hb=>by
  obtain ⟨o,e⟩:=fpo b hb
  exact Nat.ne_of_lt (Heap.lt_size e)
 have Di:∀ b∈fp,b∉frs X.stack:=fun b hb z=>by
  rcases List.mem_cons.mp (I3.pe b z) with y | y
  ·exact (f2 b hb).2.1 y
  ·exact (f2 b hb).2.2.1 y
 have ok':(aS X nm scope own cl G2.objs.size { s2 with heap:=G2 } (upd H2 s2.heap.objs.size (.lst [])) fp).Ok:=by
  refine ⟨I3.ok.mod,S.kind,I3.ok.glob,I3.ok.blt,Nat.le_refl _,fun x y c e1 e2=>I3.ok.inj x y c (iF x c e1) (iF y c e2),fun x hx=>?_,fun x c z=>(nomatch z),I3.ok.hd,I3.ok.frames,.inl rfl,
   fun b hb=>⟨fpC b hb,fun x c e=>(f2 b hb).2.2.2.2.1 x c (iF x c e)⟩,fun b o e=>I3.bs b o e,Nat.le_trans I3.ok.bsz I3.sz,fun b o e hb=>?_,fun b hb=>Di b hb,I3.stack,I3.qF⟩
  ·have hx:(relabel scope X.env).names.lookup x=some .cell∨(relabel scope X.env).names.lookup x=some .free:=hx
   have key:∀ k,(relabel scope X.env).names.lookup x=some k→k≠.local→k=.cell∨k=.free→∃ c,cl.lookup x=some c:=fun k hk _ hkk=>by
    obtain ⟨k0,e0,z⟩:=cg X.env scope.names x k hk
    have m0:=PySem.mem_of_lookup e0
    have f0:k0=.free:=by
     rcases z with z | z
     ·subst z
      rcases hkk with q | q
      ·exact absurd q (S.cell _ m0)
      ·exact q
     ·exact z.1
    exact sQ (x,k0) m0 f0
   rcases hx with hx | hx
   ·exact key _ hx (by decide) (.inl rfl)
   ·exact key _ hx (by decide) (.inr rfl)
  ·rcases (f2 b hb).2.2.2.1 with z | z
   ·exact I3.ok.um b o e z
   ·exact absurd (Nat.lt_of_lt_of_le (Heap.lt_size e) (Nat.le_trans I3.ok.bsz z)) (Nat.lt_irrefl _)
 have stat:∀ {H':Hp},(∀ b∈fp,H' b=none)→∀ b∈fp,j0 (aS X nm scope own cl G2.objs.size { s2 with heap:=G2 } (upd H2 s2.heap.objs.size (.lst [])) fp) [] H' b:=fun hn b hb=>
  ⟨hn b hb,fpC b hb,Di b hb,.inl hb,fun x c e=>(f2 b hb).2.2.2.2.1 x c (iF x c e),fun p hp=>(nomatch (show p∈([]:List (Addr×Obj)) from hp))⟩
 have I4:Inv (aS X nm scope own cl G2.objs.size { s2 with heap:=G2 } (upd H2 s2.heap.objs.size (.lst [])) fp) [] (σ++List.replicate own.length none) (upd H2 s2.heap.objs.size (.lst [])) { s2 with heap:=h₁,toks:=s2.toks+([]:List (Str×Value)).length }:=by
  refine ⟨ok',rfl,I3.bare,Un.kept up3,⟨_,hns₁,fun i x v e1 e2 e3=>?_⟩,fun x c e=>?_,H3C,fun x c e=>I3.eW x c (iF x c e),fun p hp=>(nomatch (show p∈([]:List (Addr×Obj)) from hp)),I3.hok.kept up3,?_⟩
  ·have e1:(nm++own)[i]?=some x:=e1
   have hi:i<σ.length:=by
    by_cases hi:i<σ.length
    ·exact hi
    ·rw [List.getElem?_append_right (Nat.not_lt.mp hi),List.getElem?_replicate] at e2
     split at e2<;>cases e2
   rw [List.getElem?_append_left hi] at e2
   rw [List.getElem?_append_left (by rw [S.len,← I3.len];exact hi)] at e1
   have key:∀ k,(relabel scope X.env).names.lookup x=some k→k=.local∨k=.cell∨k=.free→scope.names.lookup x=some .free∧(k=.cell∨k=.free):=fun k hk hkk=>by
    obtain ⟨k0,e0,z⟩:=cg X.env scope.names x k hk
    have m0:=PySem.mem_of_lookup e0
    have n1:k0≠.local:=fun y=>S.apart x (List.mem_of_getElem? e1) (y▸e0)
    have n2:k0≠.cell:=S.cell _ m0
    rcases z with z | z
    ·subst z
     rcases hkk with q | q | q
     ·exact absurd q n1
     ·exact absurd q n2
     ·subst q;exact ⟨e0,.inr rfl⟩
    ·obtain ⟨z1,z2⟩:=z
     subst z1;subst z2
     exact ⟨e0,.inl rfl⟩
   have hk:∃ k,(relabel scope X.env).names.lookup x=some k∧(k=.cell∨k=.free)∧scope.names.lookup x=some .free:=by
    rcases (show (relabel scope X.env).names.lookup x=some .local∨(relabel scope X.env).names.lookup x=some .cell∨(relabel scope X.env).names.lookup x=some .free from e3) with q | q | q
    ·obtain ⟨a,b⟩:=key _ q (.inl rfl);exact ⟨_,q,b,a⟩
    ·obtain ⟨a,b⟩:=key _ q (.inr (.inl rfl));exact ⟨_,q,b,a⟩
    ·obtain ⟨a,b⟩:=key _ q (.inr (.inr rfl));exact ⟨_,q,b,a⟩
   obtain ⟨k,hk1,hk2,hk3⟩:=hk
   have m0:=PySem.mem_of_lookup hk3
   obtain ⟨c,hcc⟩:=sQ (x,.free) m0 rfl
   obtain ⟨m,hn,hl⟩:=I3.loc
   have hout:=S.free (x,.free) m0 rfl
   have Fq:Vis X.env.scope x:=by
    rcases hout with q | q
    ·exact .inr (.inl q)
    ·exact .inr (.inr q)
   have e1':X.N[i]?=some x:=by
    rcases S.mask i x e1 with z | z
    ·exact z
    ·rw [z] at hk3;cases hk3
   obtain ⟨u,ru,lk⟩:=hl i x v e1' e2 Fq
   refine ⟨u,ru,.inr ⟨?_,c,hcc,?_⟩⟩
   ·rcases hk2 with q | q
    ·subst q;exact .inl hk1
    ·subst q;exact .inr hk1
   ·rcases lk with ⟨q,_⟩ | ⟨_,c',e',z⟩
    ·rcases hout with y | y
     ·rw [q] at y;cases y
     ·rw [q] at y;cases y
    ·rw [iF x c hcc] at e'
     cases e'
     obtain ⟨o,ho,hd⟩:=z
     exact ⟨o,up3 c o ho,hd⟩
  ·obtain ⟨v,o,ho,hd⟩:=I3.cell x c (iF x c e)
   exact ⟨v,o,up3 c o ho,hd⟩
  ·show (σ++List.replicate own.length none).length=(nm++own).length
   rw [List.length_append,List.length_append,List.length_replicate,I3.len,S.len]
 obtain ⟨W,⟨m0,w0⟩,turn⟩:=hR s2.heap.objs.size I2.fresh
 have st4:tn 0 h₁:=T.keep 0 _ _ st2 fun b hb o e=>up3 b o (up2 b o e)
 have Ft:∀ b∈fp,(upd H2 s2.heap.objs.size (.lst [])) b=none:=fun b hb=>by rw [aC (fpD b hb)];exact (f2 b hb).1
 have loop:∀ s₃:Shared,s₃={ s2 with heap:=h₁,toks:=s2.toks+([]:List (Str×Value)).length } →
   codeAny (model X.prog X.w) X.A (.compLoop (.ListComp elt [⟨tg,iter,ifs,0⟩] scope pos) 0 (.ref it) (.ref s2.heap.objs.size) (compEnvC scope cl G2.objs.size X.env))
    (RR (.ref s2.heap.objs.size) G2.objs.size) s₃:=by
  rintro s₃ rfl
  refine lE (fun n s'=>∃ i σ' H',Inv (aS X nm scope own cl G2.objs.size { s2 with heap:=G2 } (upd H2 s2.heap.objs.size (.lst [])) fp) [] σ' H' s'∧tn i s'.heap∧(∀ b∈fp,H' b=none)∧W i n σ' H') ?_ m0
   ⟨0,_,_,I4,st4,Ft,w0⟩
  rintro n s5 ⟨i,σ5,H5,I5,st5,fr5,w5⟩
  rcases turn i n σ5 H5 w5 with ⟨stop,q⟩ | ⟨go,step⟩
  ·refine wpAny_mono (T.done (aS X nm scope own cl G2.objs.size { s2 with heap:=G2 } (upd H2 s2.heap.objs.size (.lst [])) fp) rfl rfl rfl hc i [] s5 σ5 H5 (fun _ _=>False) I5 (stat fr5) st5 stop) (fun r s6 hr6=>?_) no
   obtain ⟨hr,I6⟩:=hr6
   subst hr
   have I7:Inv X pins σ H5 s6:=I3.Cw (ch:=fp) I6.os I6.base I6.hok I6.bare fun b hb=>⟨(f2 b hb).2.2.2.1,(f2 b hb).2.1,(f2 b hb).2.2.2.2.1,(f2 b hb).2.2.2.2.2⟩
   refine Fo _ _ H5 s6 I7 I6.free (Nat.ne_of_gt (show X.env.locals<G2.objs.size from I3.lt)) I3.sz (fun x c e=>?_) (fun p hp=>?_) (let ⟨m,hn,_⟩:=I6.loc;⟨m,hn⟩) q
   ·obtain ⟨v,z⟩:=I3.cell x c e
    exact Nat.ne_of_lt z.lt
   ·exact Nat.ne_of_lt (Heap.lt_size (I3.pin p hp).1)
  ·refine wpAny_mono (T.item (aS X nm scope own cl G2.objs.size { s2 with heap:=G2 } (upd H2 s2.heap.objs.size (.lst [])) fp) rfl rfl rfl hc i [] s5 σ5 H5 (fun _ _=>False) I5 (stat fr5) st5 go) (fun r s6 hr6=>?_) no
   obtain ⟨u,hr,h6⟩:=hr6
   subst hr
   refine wpAny_mono h6 (fun _ s7 h7=>?_) no
   obtain ⟨x,H7,I7,r7,y7,st7,fr7⟩:=h7
   have I7':=I7.pinned (stat fr7) (T.obj _ _ st7)
   have again:∀ {s9:Shared} {σ9:L2.St} {H9:Hp} {m':Nat},m'<n→Inv (aS X nm scope own cl G2.objs.size { s2 with heap:=G2 } (upd H2 s2.heap.objs.size (.lst [])) fp) ([]++iz fp s7.heap) σ9 H9 s9→W (i+1) m' σ9 H9 →
     ∃ m,m<n∧∃ i σ' H',Inv (aS X nm scope own cl G2.objs.size { s2 with heap:=G2 } (upd H2 s2.heap.objs.size (.lst [])) fp) [] σ' H' s9∧tn i s9.heap∧(∀ b∈fp,H' b=none)∧W i m σ' H':=fun {s9 σ9 H9 m'} hm I9 w9=>by
    refine ⟨m',hm,i+1,σ9,H9,I9.f6,T.keep _ _ _ st7 fun b hb o e=>(I9.pin (b,o) (List.mem_append_right _ (List.mem_append_right _ (cZ hb e)))).1,fun b hb=>?_,w9⟩
    obtain ⟨o,e,d⟩:=T.obj _ _ st7 b hb
    exact (I9.pin (b,o) (List.mem_append_right _ (List.mem_append_right _ (cZ hb e)))).2.1
   refine wpAny_mono (hg cl G2.objs.size _ _ fp _ s7 σ5 H7 x u _ I7' r7 (step x H7 y7)) (fun _ s8 h8=>?_) no
   obtain ⟨σ8,H8,I8,q8⟩:=h8
   refine wpAny_mono (ht cl G2.objs.size _ _ fp _ s8 σ8 H8 _ I8 q8) (fun b s9 h9=>?_) no
   obtain ⟨H9,I9,q9⟩:=h9
   cases b with
   | false=>
    rw [if_neg Bool.false_ne_true] at q9 ⊢
    obtain ⟨m',hm,w9⟩:=q9
    exact again hm I9 w9
   | true=>
    rw [if_pos rfl] at q9 ⊢
    refine wpAny_mono (he cl G2.objs.size _ _ fp _ s9 σ8 H9 _ I9 q9) (fun y s10 h10=>?_) no
    obtain ⟨yv,H10,I10,r10,acc,hacc,hlen,m',hm,w10⟩:=h10
    refine wpAny_mono (kr (X:=aS X nm scope own cl G2.objs.size { s2 with heap:=G2 } (upd H2 s2.heap.objs.size (.lst [])) fp) _ s10 σ8 H10 (.ref s2.heap.objs.size) [yv] (.ref s2.heap.objs.size) [y] (fun _ H'=>H'=upd H10 s2.heap.objs.size (.lst (acc++[yv]))) I10 rfl (.cons r10 .nil) ⟨_,acc,yv,rfl,rfl,hacc,hlen,rfl⟩) (fun _ s11 h11=>?_) no
    obtain ⟨_,H11,I11,_,e11⟩:=h11
    subst e11
    exact again hm I11 w10
 exact codeAny_compStart_list (loop _ rfl) (T.self _ 0 _ _ _ st4 (loop _ rfl))
theorem qU (hc:X.calm=true) (S:cG X nm scope) (hi:PI X tg iter wi)
  (hg:∀ cl C s H fp,PG (aS X nm scope own cl C s H fp) tg g) (ht:∀ cl C s H fp,PTs (aS X nm scope own cl C s H fp) ifs tt) (he:∀ cl C s H fp,PE (aS X nm scope own cl C s H fp) elt te)
  (hs:∀ x,foldedSetIterable iter X.env x=pure x:=by intro _;rfl):PE X (.ListComp elt [⟨tg,iter,ifs,0⟩] scope pos) (tLC wi own.length g tt te):=by
 intro pins s σ H Q I h
 obtain ⟨cl,hclos,iF,sQ⟩:=iE (env:=X.env) (scope:=scope) fun y hy hf=>I.ok.has y.1 (S.free y hy hf)
 rw [eval_ListComp]
 refine wpAny_comprehension_free (use:=none) rfl hs hclos S.kind S.names (thn (hi pins s σ H _ I h) fun v s1 h1=>thn h1 fun itv s2 h2=>?_)
 obtain ⟨it,fp,tn,J,H2,e,I2,T,st2,f2,hR⟩:=h2
 subst e
 refine kD (Q:=Q) (RR:=fun acc C=>compPost (model X.prog X.w) X.A X.xe none (EP X pins σ Q) acc C) hc S iF sQ hg ht he I2 T st2 f2 hR ?_
 intro D C H6 s6 I6 hCn hCL hCs hCc hCp hns q
 obtain ⟨m,hn⟩:=hns
 refine ⟨m,hn,fun h' hs'=>⟨.ref D,H6,I6.turned (t':=s6.toks) (fun b o hb e=>(hs'.2 b hb).trans e) hCn hCL (.inr hCs) hCc hCp,rfl,q⟩⟩
theorem g7 {i:Nat} {y:Str} {py spos:Pos} (hN:X.N.Nodup) (hi':X.N[i]?=some y) (hy:Loc X.env.scope y) (hc:X.calm=true) (S:cG X nm scope) (hi:PI X tg iter wi)
  (hg:∀ cl C s H fp,PG (aS X nm scope own cl C s H fp) tg g) (ht:∀ cl C s H fp,PTs (aS X nm scope own cl C s H fp) ifs tt) (he:∀ cl C s H fp,PE (aS X nm scope own cl C s H fp) elt te)
  (hsw:swapsWith (.ListComp elt [⟨tg,iter,ifs,0⟩] scope pos) (some (.Name y py)) spos.line X.env=pure true:=by rfl)
  (hs:∀ x,foldedSetIterable iter X.env x=pure x:=by intro _;rfl) (hf:X.fn y=true∨X.env.scope.names.lookup y=some .local:=by first | exact .inl rfl | exact .inr rfl | assumption) :
  PS X (.Assign [.Name y py] (.ListComp elt [⟨tg,iter,ifs,0⟩] scope pos) spos) (pA (tLC wi own.length g tt te) (iw i)):=by
 intro pins s σ H Dn I h
 obtain ⟨cl,hclos,iF,sQ⟩:=iE (env:=X.env) (scope:=scope) fun y hy hf=>I.ok.has y.1 (S.free y hy hf)
 rw [exec_Assign_Name_used _ _ _ _ hsw]
 refine wpAny_bind (wpAny_standAt (wpAny_bind ?_))
 show wpAny _ X.A (do let _ ← comprehension (.ListComp elt [⟨tg,iter,ifs,0⟩] scope pos) scope X.env _ (newList []) false (eval iter X.env) (some (assign (.Name y py) X.env))) _ _ s
 refine wpAny_bind (wpAny_mono (wpAny_comprehension_free (use:=some (assign (.Name y py) X.env)) (Q:=fun _ s'=>SP X pins Dn .next s') rfl hs hclos S.kind S.names
  (thn (hi pins s σ H _ I h) fun v s1 h1=>thn h1 fun itv s2 h2=>?_)) (fun _ s' hq=>wpAny_pure (wpAny_pure hq)) fun _ _ e=>e)
 obtain ⟨it,fp,tn,J,H2,e,I2,T,st2,f2,hR⟩:=h2
 subst e
 refine kD (Q:=fun x H1=>iw i x σ H1 Dn.nx) (RR:=fun acc C=>compPost (model X.prog X.w) X.A X.xe (some (assign (.Name y py) X.env)) (fun _ s'=>SP X pins Dn .next s') acc C) hc S iF sQ hg ht he I2 T st2 f2 hR ?_
 intro D C H6 s6 I6 hCn hCL hCs hCc hCp hns q
 obtain ⟨m,hn⟩:=hns
 show wpAny _ X.A (assign (.Name y py) X.env (.ref D)) _ _ _
 refine wpAny_assign_Name (kg I6 hN hi' hy (v:=.ref D) rfl (fun s7 I7 h7=>?_) hf)
 obtain ⟨a,sb,ha⟩:=h7
 have hCa:C≠a:=by
  rcases ha with ha | ha
  ·rw [ha];exact hCL
  ·exact Ne.symm (hCc y a ha)
 refine ⟨m,hn.sameBut sb hCa,fun h' hs'=>⟨_,H6,I7.turned (t':=s7.toks) (fun b o hb e=>(hs'.2 b hb).trans e) hCn hCL (.inr hCs) hCc hCp,q⟩⟩
end
mutual
noncomputable def toPy:Dm.Dat→PyData
 | .non=>.none
 | .bl b=>.bool b
 | .int i=>.int i
 | .str s=>.str ⟨s.toArray⟩
 | .tup xs=>.tuple (bH xs)
 | .lst xs=>.list (bH xs)
 | .dct _ _=>.dict []
 | .exc _=>.dict []
 | .fn _=>.dict []
noncomputable def bH:List Dm.Dat→List PyData
 | []=>[]
 | x::xs=>toPy x::bH xs
end
mutual
theorem gm:∀ a b:Dm.Dat,PyData.eqv (toPy a) (toPy b)=Dm.eqD a b
 | .non,b=>by cases b<;>simp [toPy,PyData.eqv,Dm.eqD]
 | .bl x,b=>by cases b<;>simp [toPy,PyData.eqv,Dm.eqD,Dm.b2i]
 | .int x,b=>by cases b<;>simp [toPy,PyData.eqv,Dm.eqD,Dm.b2i]
 | .str x,b=>by
  cases b with
  | str y=>
   simp only [toPy,PyData.eqv,Dm.eqD]
   rw [Bool.eq_iff_iff]
   simp only [beq_iff_eq]
   constructor
   ·intro h
    have h:=congrArg (fun s:Str=>s.cps.toList) h
    simpa using h
   ·rintro rfl
    rfl
  | _=>simp [toPy,PyData.eqv,Dm.eqD]
 | .tup xs,b=>by
  cases b with
  | tup ys=>simp only [toPy,PyData.eqv,Dm.eqD];exact gJ xs ys
  | _=>simp [toPy,PyData.eqv,Dm.eqD]
 | .lst xs,b=>by
  cases b with
  | lst ys=>simp only [toPy,PyData.eqv,Dm.eqD];exact gJ xs ys
  | _=>simp [toPy,PyData.eqv,Dm.eqD]
 | .dct ks vs,b=>by cases b<;>simp [toPy,PyData.eqv,Dm.eqD]
 | .exc C,b=>by cases b<;>simp [toPy,PyData.eqv,Dm.eqD]
 | .fn C,b=>by cases b<;>simp [toPy,PyData.eqv,Dm.eqD]
theorem gJ:∀ a b:List Dm.Dat,PyData.eqvAll (bH a) (bH b)=Dm.j5 a b
 | [],b=>by cases b<;>simp [bH,PyData.eqvAll,Dm.j5]
 | x::xs,b=>by
  cases b with
  | nil=>simp [bH,PyData.eqvAll,Dm.j5]
  | cons y ys=>simp only [bH,PyData.eqvAll,Dm.j5];rw [gm x y,gJ xs ys]
end
theorem uV {s:List Nat} (h:(s.all fun c=>decide (c<128))=true):PyData.strOk ⟨s.toArray⟩=true:=by
 unfold PyData.strOk
 rw [Array.all_eq_true']
 intro c hc
 have h1:=List.all_eq_true.mp h c (by simpa using hc)
 have h2:c<128:=of_decide_eq_true h1
 exact decide_eq_true (by omega)
theorem bI {P:Program} {w:World} {H:Hp} {h:Heap} (ok:HOk P w H h):∀ (n:Nat),
  (∀ (v:V) (d:Dm.Dat) (u:Value),Rep H v d→RelV v u→Dm.okD n d=true→∃ as,Reads h u (toPy d) as∧(toPy d).canLay0=true∧(toPy d).depth≤n) ∧
  (∀ (vs:List V) (ds:List Dm.Dat) (us:List Value),aE H vs ds→Vals vs us→ds.all (Dm.okD n)=true→∃ as,ReadsAll h us (bH ds) as∧PyData.canLayAll0 (bH ds)=true∧PyData.depthAll (bH ds)≤n):=by
 intro n
 induction n with
 | zero=>
  have one:∀ (v:V) (d:Dm.Dat) (u:Value),Rep H v d→RelV v u→Dm.okD 0 d=true→∃ as,Reads h u (toPy d) as∧(toPy d).canLay0=true∧(toPy d).depth≤0:=by
   intro v d u r rv k
   cases r with
   | non=>cases rv;exact ⟨_,.none,rfl,Nat.le_refl _⟩
   | bl b=>cases rv;exact ⟨_,.bool b,rfl,Nat.le_refl _⟩
   | int i=>obtain ⟨t,rfl⟩:=rv;exact ⟨_,.int i t,rfl,Nat.le_refl _⟩
   | str s=>obtain ⟨t,rfl⟩:=rv;exact ⟨_,.str _ t,uV k,Nat.le_refl _⟩
   | tup _ _=>cases k
   | lst _ _=>cases k
   | dct _ _ _=>cases k
   | exc _=>cases k
   | fn _=>cases k
  refine ⟨one,fun vs ds=>?_⟩
  induction ds generalizing vs with
  | nil=>intro us r rv _;cases r;cases rv;exact ⟨_,.nil,rfl,Nat.le_refl _⟩
  | cons d ds ih=>
   intro us r rv k
   cases r with
   | cons r rs=>
    cases rv with
    | cons q qs=>
     rw [List.all_cons,Bool.and_eq_true] at k
     obtain ⟨a1,h1,h2,h3⟩:=one _ _ _ r q k.1
     obtain ⟨a2,h4,h5,h6⟩:=ih _ _ rs qs k.2
     exact ⟨_,.cons h1 h4,by simp [bH,PyData.canLayAll0,h2,h5],by simp only [bH,PyData.depthAll];omega⟩
 | succ n ih=>
  have one:∀ (v:V) (d:Dm.Dat) (u:Value),Rep H v d→RelV v u→Dm.okD (n+1) d=true→∃ as,Reads h u (toPy d) as∧(toPy d).canLay0=true∧(toPy d).depth≤n+1:=by
   intro v d u r rv k
   cases r with
   | non=>cases rv;exact ⟨_,.none,rfl,Nat.zero_le _⟩
   | bl b=>cases rv;exact ⟨_,.bool b,rfl,Nat.zero_le _⟩
   | int i=>obtain ⟨t,rfl⟩:=rv;exact ⟨_,.int i t,rfl,Nat.zero_le _⟩
   | str s=>obtain ⟨t,rfl⟩:=rv;exact ⟨_,.str _ t,uV k,Nat.zero_le _⟩
   | tup q rs=>
    cases rv
    obtain ⟨z,its,vr,ob,e,hc,m,hd⟩:=ok _ _ q
    obtain ⟨as,h1,h2,h3⟩:=ih.2 _ _ _ rs vr k
    exact ⟨_,.tuple e hc hd h1,h2,by simp only [toPy,PyData.depth];omega⟩
   | lst q rs=>
    cases rv
    obtain ⟨z,its,m,vr,e⟩:=q.ok ok
    obtain ⟨as,h1,h2,h3⟩:=ih.2 _ _ _ rs vr k
    exact ⟨_,.list e rfl rfl h1,h2,by simp only [toPy,PyData.depth];omega⟩
   | dct _ _ _=>cases k
   | exc _=>cases k
   | fn _=>cases k
  refine ⟨one,fun vs ds=>?_⟩
  induction ds generalizing vs with
  | nil=>intro us r rv _;cases r;cases rv;exact ⟨_,.nil,rfl,Nat.zero_le _⟩
  | cons d ds ih=>
   intro us r rv k
   cases r with
   | cons r rs=>
    cases rv with
    | cons q qs=>
     rw [List.all_cons,Bool.and_eq_true] at k
     obtain ⟨a1,h1,h2,h3⟩:=one _ _ _ r q k.1
     obtain ⟨a2,h4,h5,h6⟩:=ih _ _ rs qs k.2
     exact ⟨_,.cons h1 h4,by simp [bH,PyData.canLayAll0,h2,h5],by simp only [bH,PyData.depthAll];omega⟩
theorem iB.full {H0 H:Hp} (s:ao H0 H) {v:V} {d:Dm.Dat} (r:iB H0 H v d):Rep H v d:=by
 rcases r with r | ⟨a,rfl,w⟩
 ·exact r.mono s
 ·cases d with
  | lst ds=>obtain ⟨xs,q,rs⟩:=w;exact .lst (.inl q) (rs.mono s)
  | dct ks ds=>obtain ⟨kvs,q,e,rs⟩:=w;exact .dct q e (rs.mono s)
  | _=>exact False.elim w
noncomputable def ye (neg:Bool):R2:=fun x y H Q=>∃ dx dy,Rep H x dx∧Rep H y dy∧Dm.okD 8 dx=true∧Dm.okD 8 dy=true∧Q (.bl (if neg then !Dm.eqD dx dy else Dm.eqD dx dy)) H
section
variable {X:Cx}
theorem uW {k:Nat} (hr:bG k X.A):OpR X (compareOp .Eq) (ye false):=by
 intro pins s σ H x y v u Q I rx ry h
 obtain ⟨dx,dy,r1,r2,k1,k2,q⟩:=h
 obtain ⟨as,h1,h2,h3⟩:=(bI I.hok 8).1 x dx v r1 rx k1
 obtain ⟨bs,h4,h5,h6⟩:=(bI I.hok 8).1 y dy u r2 ry k2
 have hu:=hr.units
 refine PySem.SeqAt.compareEq_reads h1 h4 h2 h5 (by omega) ?_
 rw [gm]
 exact ⟨.bl (Dm.eqD dx dy),H,I,rfl,q⟩
theorem A3 {k:Nat} (hr:bG k X.A):OpR X (compareOp .NotEq) (ye true):=by
 intro pins s σ H x y v u Q I rx ry h
 obtain ⟨dx,dy,r1,r2,k1,k2,q⟩:=h
 obtain ⟨as,h1,h2,h3⟩:=(bI I.hok 8).1 x dx v r1 rx k1
 obtain ⟨bs,h4,h5,h6⟩:=(bI I.hok 8).1 y dy u r2 ry k2
 have hu:=hr.units
 refine PySem.SeqAt.compareNe_reads h1 h4 h2 h5 (by omega) ?_
 rw [gm]
 exact ⟨.bl (!Dm.eqD dx dy),H,I,rfl,q⟩
noncomputable def yf (neg:Bool):R2:=fun x y H Q=>∃ dx ds,Rep H x dx∧(Rep H y (.lst ds)∨Rep H y (.tup ds))∧Dm.okD 8 dx=true∧ds.all (Dm.okD 7)=true∧Q (.bl (if neg then !Dm.inD dx ds else Dm.inD dx ds)) H
theorem dW (x:Dm.Dat):∀ ds:List Dm.Dat,((bH ds).any fun y=>PyData.eqv y (toPy x))=Dm.inD x ds
 | []=>rfl
 | d::ds=>by
  have:=dW x ds
  unfold Dm.inD at this ⊢
  simp only [bH,List.any_cons,gm]
  rw [this]
theorem A4 {k:Nat} (hr:bG k X.A):OpR X (compareOp .In) (yf false):=by
 intro pins s σ H x y v u Q I rx ry h
 obtain ⟨dx,ds,r1,r2,k1,k2,q⟩:=h
 obtain ⟨as,h1,h2,h3⟩:=(bI I.hok 8).1 x dx v r1 rx k1
 have hu:=hr.units
 rcases r2 with r2 | r2
 ·obtain ⟨bs,h4,h5,h6⟩:=(bI I.hok 8).1 y (.lst ds) u r2 ry k2
  have h6:PyData.depthAll (bH ds)+1≤8:=h6
  refine PySem.SeqAt.in_list_reads h4 h1 h5 h2 (by omega) ?_
  rw [dW]
  exact ⟨.bl (Dm.inD dx ds),H,I,rfl,q⟩
 ·obtain ⟨bs,h4,h5,h6⟩:=(bI I.hok 8).1 y (.tup ds) u r2 ry k2
  have h6:PyData.depthAll (bH ds)+1≤8:=h6
  refine PySem.SeqAt.in_tuple_reads h4 h1 h5 h2 (by omega) ?_
  rw [dW]
  exact ⟨.bl (Dm.inD dx ds),H,I,rfl,q⟩
theorem sS {k:Nat} (hr:bG k X.A):OpR X (compareOp .NotIn) (yf true):=by
 intro pins s σ H x y v u Q I rx ry h
 obtain ⟨dx,ds,r1,r2,k1,k2,q⟩:=h
 obtain ⟨as,h1,h2,h3⟩:=(bI I.hok 8).1 x dx v r1 rx k1
 have hu:=hr.units
 rcases r2 with r2 | r2
 ·obtain ⟨bs,h4,h5,h6⟩:=(bI I.hok 8).1 y (.lst ds) u r2 ry k2
  have h6:PyData.depthAll (bH ds)+1≤8:=h6
  refine PySem.SeqAt.notIn_list_reads h4 h1 h5 h2 (by omega) ?_
  rw [dW]
  exact ⟨.bl (!Dm.inD dx ds),H,I,rfl,q⟩
 ·obtain ⟨bs,h4,h5,h6⟩:=(bI I.hok 8).1 y (.tup ds) u r2 ry k2
  have h6:PyData.depthAll (bH ds)+1≤8:=h6
  refine PySem.SeqAt.notIn_tuple_reads h4 h1 h5 h2 (by omega) ?_
  rw [dW]
  exact ⟨.bl (!Dm.inD dx ds),H,I,rfl,q⟩
end
theorem av {H0 H:Hp} {v:V} {i:Int} (r:iB H0 H v (.int i)):v=.int i:=by
 rcases r with r | ⟨a,_,w⟩
 ·exact Rep.isInt r
 ·exact False.elim w
theorem lF {H0 H:Hp} {v:V} {b:Bool} (r:iB H0 H v (.bl b)):v=.bl b:=by
 rcases r with r | ⟨a,_,w⟩
 ·exact Rep.lB r
 ·exact False.elim w
theorem bx {H0 H:Hp} (s:ao H0 H) {v:V} {ds:List Dm.Dat} (r:iB H0 H v (.lst ds)):∃ a xs,v=.ref a∧Rd H a (.lst xs)∧aE H0 xs ds:=by
 rcases r with r | ⟨a,e,xs,q,rs⟩
 ·cases r with
  | lst q rs=>exact ⟨_,_,rfl,ao.rd s q,rs⟩
 ·exact ⟨a,xs,e,.inl q,rs⟩
theorem iG {H0 H:Hp} (s:ao H0 H) {v:V} {ds:List Dm.Dat} (r:iB H0 H v (.tup ds)):∃ a xs,v=.ref a∧H a=some (.tup xs)∧aE H0 xs ds:=by
 rcases r with r | ⟨a,_,w⟩
 ·cases r with
  | tup q rs=>exact ⟨_,_,rfl,s _ _ q,rs⟩
 ·exact False.elim w
theorem A5:OpD (rI0 fun i j=>.int (i-j)) Dm.cK:=by
 intro H0 H x y dx dy z Q s rx ry e k
 unfold Dm.cK at e
 split at e
 ·cases e;cases av rx;cases av ry
  exact ⟨_,_,rfl,rfl,k _ H0 H (aJ.refl s) (.int _)⟩
 ·cases e
theorem zx:OpD (rI0 fun i j=>.bl (decide (i<j))) Dm.gLt:=by
 intro H0 H x y dx dy z Q s rx ry e k
 unfold Dm.gLt at e
 split at e
 ·cases e;cases av rx;cases av ry
  exact ⟨_,_,rfl,rfl,k _ H0 H (aJ.refl s) (.bl _)⟩
 ·cases e
theorem gn:OpD (rI0 fun i j=>.bl (decide (i≤j))) Dm.gLe:=by
 intro H0 H x y dx dy z Q s rx ry e k
 unfold Dm.gLe at e
 split at e
 ·cases e;cases av rx;cases av ry
  exact ⟨_,_,rfl,rfl,k _ H0 H (aJ.refl s) (.bl _)⟩
 ·cases e
theorem Dj:OpD (rI0 fun i j=>.bl (decide (j<i))) Dm.gGt:=by
 intro H0 H x y dx dy z Q s rx ry e k
 unfold Dm.gGt at e
 split at e
 ·cases e;cases av rx;cases av ry
  exact ⟨_,_,rfl,rfl,k _ H0 H (aJ.refl s) (.bl _)⟩
 ·cases e
theorem Dl:OpD (rI0 fun i j=>.bl (decide (j≤i))) Dm.gGe:=by
 intro H0 H x y dx dy z Q s rx ry e k
 unfold Dm.gGe at e
 split at e
 ·cases e;cases av rx;cases av ry
  exact ⟨_,_,rfl,rfl,k _ H0 H (aJ.refl s) (.bl _)⟩
 ·cases e
theorem A6:OpD (rI (fun _ j=>0<j) fun i j=>.int (i % j)) Dm.e7:=by
 intro H0 H x y dx dy z Q s rx ry e k
 unfold Dm.e7 at e
 split at e
 ·split at e
  ·rename_i hj
   cases e;cases av rx;cases av ry
   exact ⟨_,_,rfl,rfl,hj,k _ H0 H (aJ.refl s) (.int _)⟩
  ·cases e
 ·cases e
theorem A7:OpD (rI CK fun i j=>.int (i ^ j.toNat)) Dm.gI:=by
 intro H0 H x y dx dy z Q s rx ry e k
 unfold Dm.gI at e
 split at e
 ·split at e
  ·rename_i hj
   cases e;cases av rx;cases av ry
   exact ⟨_,_,rfl,rfl,⟨hj.1,hj.2.1,Nat.lt_trans hj.2.2 (by decide)⟩,k _ H0 H (aJ.refl s) (.int _)⟩
  ·cases e
 ·cases e
section
variable {X:Cx}
noncomputable def zy (i j:Int):Prop:=0<j∧j<Dm.lz
theorem uX:OpR X (binaryOp .FloorDiv) (rI zy fun i j=>.int (i / j)):=opI fun i j _ _ _ _ _ hc q=>by
 have h:j.natAbs.log2<9000:=by
  have h1:j.natAbs<2 ^ 200:=by
   have:=hc.2
   unfold Dm.lz at this
   have h2:=hc.1
   have e:(2:Nat) ^ 200=1606938044258990275541962092341162602522202993782792835301376:=by decide +kernel
   omega
  have h3:j.natAbs≠0:=by have:=hc.1;omega
  have:=(Nat.log2_lt h3).mpr h1
  omega
 have e:i.fdiv j=i / j:=Int.fdiv_eq_ediv_of_nonneg i (Int.le_of_lt hc.1)
 rw [← e] at q
 exact floordiv_int (Int.ne_of_gt hc.1) q (.inl (PyProof.noPylong_of_log2 h))
end
theorem A8:OpD (rI zy fun i j=>.int (i / j)) Dm.mW:=by
 intro H0 H x y dx dy z Q s rx ry e k
 unfold Dm.mW at e
 split at e
 ·split at e
  ·rename_i hj
   cases e;cases av rx;cases av ry
   exact ⟨_,_,rfl,rfl,hj,k _ H0 H (aJ.refl s) (.int _)⟩
  ·cases e
 ·cases e
theorem A9:UnD (rU fun i=>.int (-i)) Dm.pJ:=by
 intro H0 H x dx z Q s rx e k
 unfold Dm.pJ at e
 split at e
 ·cases e;cases av rx
  exact ⟨_,rfl,k _ H0 H (aJ.refl s) (.int _)⟩
 ·cases e
noncomputable def uY:R2:=fun x y H Q=>∃ l b xs zs,x=.ref l∧y=.ref b∧Rd H l (.lst xs)∧Rd H b (.lst zs)∧xs.length+zs.length≤sizeLine∧∀ p,H p=none→Q (.ref p) (upd H p (.lst (xs++zs)))
noncomputable def uZ:R2:=fun x y H Q=>∃ l k xs,x=.ref l∧y=.int k∧Rd H l (.lst xs)∧-(2 ^ 63)≤k∧k<2 ^ 63∧xs.length*k.toNat≤sizeLine ∧
 ∀ p,H p=none→Q (.ref p) (upd H p (.lst (List.replicate k.toNat xs).flatten))
section
variable {X:Cx}
theorem yg:OpR X (binaryOp .Add) uY:=by
 intro pins s σ H x y v u Q I rx ry h
 obtain ⟨l,b,xs,zs,rfl,rfl,hH,hB,hz,q⟩:=h
 cases rx
 cases ry
 obtain ⟨z,its,n,r,e⟩:=hH.ok I.hok
 obtain ⟨z2,its2,n2,r2,e2⟩:=hB.ok I.hok
 have hl:=r.length
 have hl2:=r2.length
 refine PySem.P.add_list e e2 ?_ (by rw [List.size_toArray,List.size_toArray];omega)
 have ea:its.toArray++its2.toArray=(its++its2).toArray:=by simp
 rw [ea]
 exact ⟨.ref _,_,I.AR (t':=s.toks) (r.append r2) (by rw [List.length_append];omega),rfl,q _ I.fresh⟩
theorem yh:OpR X (binaryOp .Mult) uZ:=by
 intro pins s σ H x y v u Q I rx ry h
 obtain ⟨l,k,xs,rfl,rfl,hH,h1,h2,hz,q⟩:=h
 cases rx
 obtain ⟨t,rfl⟩:=ry
 obtain ⟨z,its,n,r,e⟩:=hH.ok I.hok
 have hl:=r.length
 have hlen:its.toArray.size*k.toNat≤sizeLine:=by rw [List.size_toArray,← hl];exact hz
 have hcap:¬ its.toArray.size*k.toNat>(2 ^ 63-1) / 8:=by
  have:(sizeLine:Nat)≤(2 ^ 63-1) / 8:=by decide
  omega
 have hfit:¬ (!Builtin.List.listFitsIndex k)=true:=by
  rw [fitsIndex_both h1 h2]
  exact Bool.false_ne_true
 have Dq:¬ Builtin.List.listTooLong (its.toArray.size*k.toNat)=true:=by
  rw [uJ hlen]
  exact Bool.false_ne_true
 have hnew:List.foldl (fun x1 x2=>x1++x2) #[] (List.replicate (if its.toArray.isEmpty=true then 0 else k.toNat) its.toArray)=(List.replicate k.toNat its).flatten.toArray:=by
  have f0:∀ m:Nat,List.foldl (fun x1 x2=>x1++x2) #[] (List.replicate m its.toArray)=(List.replicate m its).flatten.toArray:=fun m=>by
   have:=foldl_rep its m []
   rw [List.nil_append] at this
   exact this
  rw [f0]
  cases its with
  | nil=>simp
  | cons a r'=>rw [if_neg (by simp)]
 refine wpAny_binaryOp_repeat_ref (T := "list") (U := "int") (by decide) ⟨_,e,rfl⟩ (fun s'=>typeIs_int s' k t) noFill_list_mul F.fills_int_mul F.slot_int_rmul repeat_list F.slot_int_index.lookup
  (call_meets F.slot_int_rmul (typeIs_int s k t) F.entry_int_rmul (F.args_int_rmul_2 _ _) (int___rmul___int_list k t l its.toArray n)
   ⟨e,rfl,⟨_,e,rfl⟩,call_meets F.slot_list_mul ⟨_,e,rfl⟩ F.entry_list_mul (F.args_list_mul_2 _ _) (AutoListH.list___mul___list_int_3 l its.toArray n k t hfit hcap Dq) ⟨e,?_⟩⟩)
 rw [hnew]
 exact ⟨.ref _,_,I.AR (t':=s.toks) (r.rep k.toNat) (by rw [len_rep,Nat.mul_comm];exact hz),rfl,q _ I.fresh⟩
theorem yi:OpR X (binaryOp .Add) (fun x y H Q=>rI0 (fun i j=>.int (i+j)) x y H Q∨uY x y H Q):=AA.or yg
theorem yj:OpR X (binaryOp .Mult) (fun x y H Q=>rI uz (fun i j=>.int (i*j)) x y H Q∨uZ x y H Q):=AD.or yh
end
theorem A_:OpD (fun x y H Q=>rI0 (fun i j=>.int (i+j)) x y H Q∨uY x y H Q) Dm.aX:=by
 intro H0 H x y dx dy z Q s rx ry e k
 unfold Dm.aX at e
 split at e
 ·cases e;cases av rx;cases av ry
  exact .inl ⟨_,_,rfl,rfl,k _ H0 H (aJ.refl s) (.int _)⟩
 ·split at e
  ·rename_i hz
   cases e
   obtain ⟨a,us,rfl,qa,ra⟩:=bx s rx
   obtain ⟨b,ws,rfl,qb,rb⟩:=bx s ry
   refine .inr ⟨a,b,us,ws,rfl,rfl,qa,qb,by rw [ra.length,rb.length];exact gg hz,fun p hp=>?_⟩
   exact k _ _ _ (aJ.j7 s hp) ⟨p,rfl,hp,s.free hp,_,aD,ra.append rb⟩
  ·cases e
 ·cases e
theorem Ba:OpD (fun x y H Q=>rI uz (fun i j=>.int (i*j)) x y H Q∨uZ x y H Q) Dm.dQ:=by
 intro H0 H x y dx dy z Q s rx ry e k
 unfold Dm.dQ at e
 split at e
 ·split at e
  ·rename_i hj
   cases e;cases av rx;cases av ry
   exact .inl ⟨_,_,rfl,rfl,hj,k _ H0 H (aJ.refl s) (.int _)⟩
  ·cases e
 ·split at e
  ·rename_i hz
   cases e;cases av ry
   obtain ⟨a,us,rfl,qa,ra⟩:=bx s rx
   obtain ⟨h1,h2,h3⟩:=hz
   unfold Dm.BIG at h1 h2
   refine .inr ⟨a,_,us,rfl,rfl,qa,by omega,by omega,by rw [ra.length];exact gg h3,fun p hp=>?_⟩
   exact k _ _ _ (aJ.j7 s hp) ⟨p,rfl,hp,s.free hp,_,aD,ra.rep _⟩
  ·cases e
 ·cases e
theorem zA:OpD (ye false) Dm.gEq:=by
 intro H0 H x y dx dy z Q s rx ry e k
 unfold Dm.gEq at e
 split at e
 ·rename_i hk
  rw [Bool.and_eq_true] at hk
  cases e
  exact ⟨dx,dy,rx.full s,ry.full s,hk.1,hk.2,k _ H0 H (aJ.refl s) (.bl _)⟩
 ·cases e
theorem Dr:OpD (ye true) Dm.gNe:=by
 intro H0 H x y dx dy z Q s rx ry e k
 unfold Dm.gNe at e
 split at e
 ·rename_i hk
  rw [Bool.and_eq_true] at hk
  cases e
  exact ⟨dx,dy,rx.full s,ry.full s,hk.1,hk.2,k _ H0 H (aJ.refl s) (.bl _)⟩
 ·cases e
theorem Dt:OpD (yf false) Dm.gIn:=by
 intro H0 H x y dx dy z Q s rx ry e k
 unfold Dm.gIn at e
 split at e
 ·split at e
  ·rename_i hk
   rw [Bool.and_eq_true] at hk
   cases e
   exact ⟨dx,_,rx.full s,.inl (ry.full s),hk.1,hk.2,k _ H0 H (aJ.refl s) (.bl _)⟩
  ·cases e
 ·split at e
  ·rename_i hk
   rw [Bool.and_eq_true] at hk
   cases e
   exact ⟨dx,_,rx.full s,.inr (ry.full s),hk.1,hk.2,k _ H0 H (aJ.refl s) (.bl _)⟩
  ·cases e
 ·cases e
theorem u0:OpD (yf true) Dm.e8:=by
 intro H0 H x y dx dy z Q s rx ry e k
 unfold Dm.e8 at e
 split at e
 ·split at e
  ·rename_i hk
   rw [Bool.and_eq_true] at hk
   cases e
   exact ⟨dx,_,rx.full s,.inl (ry.full s),hk.1,hk.2,k _ H0 H (aJ.refl s) (.bl _)⟩
  ·cases e
 ·split at e
  ·rename_i hk
   rw [Bool.and_eq_true] at hk
   cases e
   exact ⟨dx,_,rx.full s,.inr (ry.full s),hk.1,hk.2,k _ H0 H (aJ.refl s) (.bl _)⟩
  ·cases e
 ·cases e
theorem qV {H0:Hp} {xs:List V} {ds:List Dm.Dat} {i:Int} {d:Dm.Dat} (rs:aE H0 xs ds) (e:Dm.atI ds i=some d):∃ v,L2.atI xs i=some v∧Rep H0 v d:=by
 unfold Dm.atI at e
 cases q:Dm.ixN ds.length i with
 | none=>rw [q] at e;cases e
 | some j=>
  rw [q] at e
  obtain ⟨v,hv,r⟩:=rs.get (i:=j) e
  refine ⟨v,?_,r⟩
  unfold L2.atI
  rw [rs.length]
  have q':L2.ixN ds.length i=some j:=q
  rw [q']
  exact hv
theorem Du {K:PySem.W.Frag}:OpD (fun x y H Q=>CS K x y H Q∨CT K x y H Q) Dm.gIx:=by
 intro H0 H x y dx dy z Q s rx ry e k
 unfold Dm.gIx at e
 split at e
 ·rename_i ds i
  cases q:Dm.atI ds i with
  | none=>rw [q] at e;cases e
  | some d=>
   rw [q] at e;cases e
   cases av ry
   obtain ⟨a,us,rfl,qa,ra⟩:=bx s rx
   obtain ⟨v,hv,rv⟩:=qV ra q
   exact .inl ⟨a,us,i,v,rfl,rfl,.inl qa,hv,k _ H0 H (aJ.refl s) rv⟩
 ·rename_i ds i
  cases q:Dm.atI ds i with
  | none=>rw [q] at e;cases e
  | some d=>
   rw [q] at e;cases e
   cases av ry
   obtain ⟨a,us,rfl,qa,ra⟩:=iG s rx
   obtain ⟨v,hv,rv⟩:=qV ra q
   exact .inr ⟨a,us,i,v,rfl,rfl,.inl (.inl qa),hv,k _ H0 H (aJ.refl s) rv⟩
 ·cases e
theorem Bb {K:PySem.W.Frag}:CallD (fun xs H Q=>∃ p ys,xs=[.ref p]∧(SqL K H p ys∨SqT K H p ys)∧Q (.int ys.length) H) Dm.bQ:=by
 intro H0 H vs ds z Q s rs e k
 unfold Dm.bQ at e
 split at e
 ·cases e
  cases rs with
  | cons r rr=>
   cases rr
   obtain ⟨a,us,rfl,qa,ra⟩:=bx s r
   exact ⟨a,us,rfl,.inl (.inl qa),k _ H0 H (aJ.refl s) (by rw [ra.length];exact .int _)⟩
 ·cases e
  cases rs with
  | cons r rr=>
   cases rr
   obtain ⟨a,us,rfl,qa,ra⟩:=iG s r
   exact ⟨a,us,rfl,.inr (.inl (.inl qa)),k _ H0 H (aJ.refl s) (by rw [ra.length];exact .int _)⟩
 ·cases e
theorem yk:CallD (fun xs H Q=>∃ i j,xs=[.int i,.int j]∧Q (.int (if j<i then j else i)) H) Dm.iA:=by
 intro H0 H vs ds z Q s rs e k
 unfold Dm.iA at e
 split at e
 ·cases e
  cases rs with
  | cons r rr=>
   cases rr with
   | cons r' rr=>
    cases rr
    cases av r;cases av r'
    exact ⟨_,_,rfl,k _ H0 H (aJ.refl s) (.int _)⟩
 ·cases e
theorem yl:CallD (fun xs H Q=>∃ i j,xs=[.int i,.int j]∧Q (.int (if j>i then j else i)) H) Dm.f_:=by
 intro H0 H vs ds z Q s rs e k
 unfold Dm.f_ at e
 split at e
 ·cases e
  cases rs with
  | cons r rr=>
   cases rr with
   | cons r' rr=>
    cases rr
    cases av r;cases av r'
    exact ⟨_,_,rfl,k _ H0 H (aJ.refl s) (.int _)⟩
 ·cases e
theorem ym {K:PySem.W.Frag}:CallD (fun xs H Q=>∃ p ys,xs=[.ref p]∧(SqL K H p ys∨SqT K H p ys)∧∀ l,H l=none→Q (.ref l) (upd H l (.lst ys))) Dm.mX:=by
 intro H0 H vs ds z Q s rs e k
 unfold Dm.mX at e
 split at e
 ·cases e
  cases rs with
  | cons r rr=>
   cases rr
   obtain ⟨a,us,rfl,qa,ra⟩:=bx s r
   exact ⟨a,us,rfl,.inl (.inl qa),fun p hp=>k _ _ _ (aJ.j7 s hp) ⟨p,rfl,hp,s.free hp,_,aD,ra⟩⟩
 ·cases e
  cases rs with
  | cons r rr=>
   cases rr
   obtain ⟨a,us,rfl,qa,ra⟩:=iG s r
   exact ⟨a,us,rfl,.inr (.inl (.inl qa)),fun p hp=>k _ _ _ (aJ.j7 s hp) ⟨p,rfl,hp,s.free hp,_,aD,ra⟩⟩
 ·cases e
theorem u5 {K:PySem.W.Frag}:CallD (fun xs H Q=>∃ p ys,xs=[.ref p]∧((SqL K H p ys∧∀ l,H l=none→Q (.ref l) (upd H l (.tup ys)))∨(SqT K H p ys∧Q (.ref p) H))) Dm.lA:=by
 intro H0 H vs ds z Q s rs e k
 unfold Dm.lA at e
 split at e
 ·cases e
  cases rs with
  | cons r rr=>
   cases rr
   obtain ⟨a,us,rfl,qa,ra⟩:=bx s r
   refine ⟨a,us,rfl,.inl ⟨.inl qa,fun p hp=>?_⟩⟩
   have g:=aJ.x_ (o:=HO.tup us) s hp
   exact k _ _ _ g (.tup aD (ra.mono g.s0))
 ·cases e
  cases rs with
  | cons r rr=>
   cases rr
   rcases r with r | ⟨a,_,w⟩
   ·cases r with
    | tup q rs=>exact ⟨_,_,rfl,.inr ⟨.inl (.inl (s _ _ q)),k _ H0 H (aJ.refl s) (.tup q rs)⟩⟩
   ·exact False.elim w
 ·cases e
noncomputable abbrev DS (X:Cx) (st:Stmt) (f:Dm.FS):Prop:=PS X st (tDS f)
noncomputable abbrev DSs (X:Cx) (st:List Stmt) (f:Dm.FS):Prop:=PSs X st (tDS f)
noncomputable abbrev DI (X:Cx) (tg it:Expr) (f:Dm.FI):Prop:=PI X tg it (tDI f)
theorem PI.weak {X:Cx} {tg it:Expr} {t t':TI} (h:PI X tg it t) (k:∀ σ H R,t' σ H R→t σ H R):PI X tg it t':=fun pins s σ H R I q=>h pins s σ H R I (k σ H R q)
section
variable {X:Cx} {a b c e:Expr} {fa fb fc f:Dm.FE} {pos:Pos}
theorem d_v (i:Nat) {x:Str} (hN:X.N[i]?=some x:=by rfl) (hv:Vis X.env.scope x:=by first | exact Or.inl rfl | exact Or.inr (Or.inl rfl) | exact Or.inr (Or.inr rfl)) (hd:(x == ("__debug__" : Str))=false:=by decide)
  (hcd:(x == ("__classdict__" : Str))=false:=by decide):DE X (.Name x pos) (Dm.eV i):=PE.weak (kY hN hv hd hcd) fun _ _ _=>CZ
theorem d_i {i:Int} {j}:DE X (.Constant (.int i) j pos) (Dm.eC (.int i)):=PE.weak Ai fun _ _ _=>gf fun _=>.int i
theorem d_b {v:Bool} {j}:DE X (.Constant (.bool v) j pos) (Dm.eC (.bl v)):=PE.weak Cy fun _ _ _=>gf fun _=>.bl v
theorem d_n {j}:DE X (.Constant .none j pos) (Dm.eC .non):=PE.weak Aj fun _ _ _=>gf fun _=>.non
theorem d_s {s:List Nat} {x:Str} {j} (hx:x=⟨s.toArray⟩:=by rfl):DE X (.Constant (.str x) j pos) (Dm.eC (.str s)):=by
 subst hx
 exact PE.weak Ak fun _ _ _=>gf fun _=>.str s
theorem d_g {x:Str} {i:Int} {t:Tok} (hg:Gl X x) (hm:X.mg x=some (.int i t)) (hd:(x == ("__debug__" : Str))=false:=by decide):DE X (.Name x pos) (Dm.eC (.int i)):=
 PE.weak (xO (v:=.int i) hg hm ⟨t,rfl⟩ hd) fun _ _ _=>gf fun _=>.int i
theorem sV {op:Operator} {r:R2} {g:Dm.Dat→Dm.Dat→Option Dm.RV} (o:OpR X (binaryOp op) r) (od:OpD r g) (ha:DE X a fa) (hb:DE X b fb):DE X (.BinOp a op b pos) (Dm.e2 g fa fb):=
 PE.weak (CH o ha hb) fun _ _ _=>ya od
theorem aV (ha:DE X a fa) (hb:DE X b fb):DE X (.BinOp a .Add b pos) (Dm.e2 Dm.aX fa fb):=sV yi A_ ha hb
theorem cH (ha:DE X a fa) (hb:DE X b fb):DE X (.BinOp a .Sub b pos) (Dm.e2 Dm.cK fa fb):=sV AB A5 ha hb
theorem eX (ha:DE X a fa) (hb:DE X b fb):DE X (.BinOp a .Mult b pos) (Dm.e2 Dm.dQ fa fb):=sV yj Ba ha hb
theorem u6 (ha:DE X a fa) (hb:DE X b fb):DE X (.BinOp a .FloorDiv b pos) (Dm.e2 Dm.mW fa fb):=sV uX A8 ha hb
theorem gp (ha:DE X a fa) (hb:DE X b fb):DE X (.BinOp a .Mod b pos) (Dm.e2 Dm.e7 fa fb):=sV AE A6 ha hb
theorem g8 (ha:DE X a fa) (hb:DE X b fb):DE X (.BinOp a .Pow b pos) (Dm.e2 Dm.gI fa fb):=sV AF A7 ha hb
theorem qW (ha:DE X a fa):DE X (.UnaryOp .USub a pos) (Dm.e1 Dm.pJ fa):=PE.weak (CI AG ha) fun _ _ _=>C0 A9
theorem m8 {op:CmpOp} {r:R2} {g:Dm.Dat→Dm.Dat→Option Dm.RV} (o:OpR X (compareOp op) r) (od:OpD r g) (ha:DE X a fa) (hb:DE X b fb) (hm:behindInMarks op b=false):DE X (.Compare a [op] [b] pos) (Dm.e2 g fa fb):=
 PE.weak (xU o ha hb hm) fun _ _ _=>ya od
theorem kE {op:CmpOp} {r:R2} {g:Dm.Dat→Dm.Dat→Option Dm.RV} (o:OpR X (compareOp op) r) (od:OpD r g) (ha:DE X a fa) (hb:DE X b fb) (hm:behindInMarks op b=false):DT X (.Compare a [op] [b] pos) (Dm.tV (Dm.e2 g fa fb)):=
 PT.weak (xV o ha hb hm) fun σ H Q h=>ya od (pN h)
theorem u7 {k:Nat} (hr:bG k X.A) (ha:DE X a fa) (hb:DE X b fb):DE X (.Compare a [.Eq] [b] pos) (Dm.e2 Dm.gEq fa fb):=m8 (uW hr) zA ha hb (c_ _)
theorem Bc (ha:DE X a fa) (hb:DE X b fb):DE X (.Compare a [.Lt] [b] pos) (Dm.e2 Dm.gLt fa fb):=m8 zu zx ha hb (c_ _)
theorem Bd (ha:DE X a fa) (hb:DE X b fb):DE X (.Compare a [.LtE] [b] pos) (Dm.e2 Dm.gLe fa fb):=m8 f7 gn ha hb (c_ _)
theorem Fv {k:Nat} (hr:bG k X.A) (ha:DE X a fa) (hb:DE X b fb) (hm:behindInMarks .In b=false:=by rfl):DE X (.Compare a [.In] [b] pos) (Dm.e2 Dm.gIn fa fb):=m8 (A4 hr) Dt ha hb hm
theorem zB {k:Nat} (hr:bG k X.A) (ha:DE X a fa) (hb:DE X b fb) (hm:behindInMarks .NotIn b=false:=by rfl):DE X (.Compare a [.NotIn] [b] pos) (Dm.e2 Dm.e8 fa fb):=m8 (sS hr) u0 ha hb hm
theorem lG {k:Nat} (hr:bG k X.A) (ha:DE X a fa) (hb:DE X b fb):DT X (.Compare a [.Eq] [b] pos) (Dm.tV (Dm.e2 Dm.gEq fa fb)):=kE (uW hr) zA ha hb (c_ _)
theorem lH {k:Nat} (hr:bG k X.A) (ha:DE X a fa) (hb:DE X b fb):DT X (.Compare a [.NotEq] [b] pos) (Dm.tV (Dm.e2 Dm.gNe fa fb)):=kE (A3 hr) Dr ha hb (c_ _)
theorem Fw (ha:DE X a fa) (hb:DE X b fb):DT X (.Compare a [.Lt] [b] pos) (Dm.tV (Dm.e2 Dm.gLt fa fb)):=kE zu zx ha hb (c_ _)
theorem m9 (ha:DE X a fa) (hb:DE X b fb):DT X (.Compare a [.Gt] [b] pos) (Dm.tV (Dm.e2 Dm.gGt fa fb)):=kE CL Dj ha hb (c_ _)
theorem Fx (ha:DE X a fa) (hb:DE X b fb):DT X (.Compare a [.GtE] [b] pos) (Dm.tV (Dm.e2 Dm.gGe fa fb)):=kE CM Dl ha hb (c_ _)
theorem aN (ha:DE X a fa) (hb:DE X b fb) (hs:qO b:=by intro _ _;rfl):DE X (.Subscript a b pos) (Dm.e2 Dm.gIx fa fb):=PE.weak (CQ (x6.or AO) ha hb hs) fun _ _ _=>ya Du
theorem af:DA X [] []:=PA.weak uE fun _ _ _=>C1
theorem aa {es:List Expr} {fs:List Dm.FE} (h:DE X e f) (r:DA X es fs) (hs:starEach (e::es) X.env=(false,eval e X.env)::starEach es X.env:=by rfl):DA X (e::es) (f::fs):=PA.weak (k8 h r hs) fun _ _ _=>AV
theorem aK {es:List Expr} {fs:List Dm.FE} {x1} (h:DA X es fs):DE X (.Tuple es x1 pos) (Dm.aT fs):=PE.weak (AJ h) fun _ _ _=>C2
theorem aQ {es:List Expr} {fs:List Dm.FE} (h:DA X es fs):DE X (.List es pos) (Dm.bf fs):=PE.weak (AK h) fun _ _ _=>C3
theorem sW {es:List Expr} {fs:List Dm.FE} {r:List V→Hp→VK→Prop} {g:List Dm.Dat→Option Dm.RV} {x:Str} {id:String} {p:Pos} (hc:cE X (.builtin id) r) (cd:CallD r g) (hv:bootBuiltins x=some (.builtin id)) (hg:Gl X x) (hm:X.mg x=none) (ha:DA X (e::es) fs)
  (hn:x ≠ "__name__" := by decide) (hdb:(x == ("__debug__" : Str))=false:=by decide) (he:starEach (e::es) X.env=(false,eval e X.env)::starEach es X.env:=by rfl) (hpl:(backTo pos (starEach es X.env)).any (·.1)=false:=by rfl) :
  DE X (.Call (.Name x p) (e::es) [] pos) (Dm.eB g fs):=PE.weak (mS hc hg hm hv ha hn hdb he hpl) fun _ _ _=>AW cd
theorem yo {es:List Expr} {fs:List Dm.FE} {r:List V→Hp→VK→Prop} {g:List Dm.Dat→Option Dm.RV} {x:Str} {T:String} {p:Pos} (hc:cE X (.type T) r) (cd:CallD r g) (hv:bootBuiltins x=some (.type T)) (hg:Gl X x) (hm:X.mg x=none) (ha:DA X (e::es) fs)
  (hn:x ≠ "__name__" := by decide) (hdb:(x == ("__debug__" : Str))=false:=by decide) (he:starEach (e::es) X.env=(false,eval e X.env)::starEach es X.env:=by rfl) (hpl:(backTo pos (starEach es X.env)).any (·.1)=false:=by rfl) :
  DE X (.Call (.Name x p) (e::es) [] pos) (Dm.eB g fs):=PE.weak (sL hc hg hm hv ha hn hdb he hpl) fun _ _ _=>AW cd
variable {es:List Expr} {fs:List Dm.FE} {p:Pos}
theorem bX (hg:Gl X "len") (hm:X.mg "len" = none) (ha:DA X [e] fs) (he:starEach [e] X.env=[(false,eval e X.env)]:=by rfl) (hpl:(backTo pos (starEach [] X.env)).any (·.1)=false:=by rfl):DE X (.Call (.Name "len" p) [e] [] pos) (Dm.eB Dm.bQ fs):=sW k_ Bb PySem.boot_len hg hm ha (he:=he) (hpl:=hpl)
theorem pR (hc:X.calm=true) (hg:Gl X "min") (hm:X.mg "min" = none) (ha:DA X [a,b] fs) (he:starEach [a,b] X.env=(false,eval a X.env)::starEach [b] X.env:=by rfl) (hpl:(backTo pos (starEach [b] X.env)).any (·.1)=false:=by rfl):DE X (.Call (.Name "min" p) [a,b] [] pos) (Dm.eB Dm.iA fs):=sW (sD hc) yk (by rfl) hg hm ha (he:=he) (hpl:=hpl)
theorem iH (hc:X.calm=true) (hg:Gl X "max") (hm:X.mg "max" = none) (ha:DA X [a,b] fs) (he:starEach [a,b] X.env=(false,eval a X.env)::starEach [b] X.env:=by rfl) (hpl:(backTo pos (starEach [b] X.env)).any (·.1)=false:=by rfl):DE X (.Call (.Name "max" p) [a,b] [] pos) (Dm.eB Dm.f_ fs):=sW (sC hc) yl (by rfl) hg hm ha (he:=he) (hpl:=hpl)
theorem Be (hg:Gl X "list") (hm:X.mg "list" = none) (ha:DA X [e] fs) (he:starEach [e] X.env=[(false,eval e X.env)]:=by rfl) (hpl:(backTo pos (starEach [] X.env)).any (·.1)=false:=by rfl):DE X (.Call (.Name "list" p) [e] [] pos) (Dm.eB Dm.mX fs):=yo lu ym (by rfl) hg hm ha (he:=he) (hpl:=hpl)
theorem yp (hg:Gl X "tuple") (hm:X.mg "tuple" = none) (ha:DA X [e] fs) (he:starEach [e] X.env=[(false,eval e X.env)]:=by rfl) (hpl:(backTo pos (starEach [] X.env)).any (·.1)=false:=by rfl):DE X (.Call (.Name "tuple" p) [e] [] pos) (Dm.eB Dm.lA fs):=yo j4 u5 (by rfl) hg hm ha (he:=he) (hpl:=hpl)
theorem aH {k:Nat} {F:Addr} {fd:FuncData} {ps:List Str} {g:List Dm.Dat→Option Dm.RV} {x:Str} (G:aY X.prog X.w X.K X.mg X.base CX0 k F fd ps (spD g)) (hr:bG k X.A) (hg:Gl X x) (hm:X.mg x=some (.ref F)) (hk:PySem.W.keepIn X.K (.ref F)=true) (hb:Binds X.K fd ps [])
  (ha:DA X (e::es) fs) (hdb:(x == ("__debug__" : Str))=false:=by decide) (he:starEach (e::es) X.env=(false,eval e X.env)::starEach es X.env:=by rfl) (hpl:(backTo pos (starEach es X.env)).any (·.1)=false:=by rfl) :
  DE X (.Call (.Name x p) (e::es) [] pos) (Dm.eF g fs):=PE.weak (qL G hr hg hm hk hb .nil (zw (X:=X)) ha hdb he hpl) fun _ _ _=>AX
theorem Fy {t:Dm.FT} {q:Expr} (hq:DT X q t) (ha:DE X a fa) (hb:DE X b fb):DE X (.IfExp q a b pos) (Dm.eIf t fa fb):=PE.weak (uq hq ha hb) fun _ _ _=>Fe
theorem iI {op} (h:DE X a fa):DE X (.BoolOp op [a] pos) fa:=An h
theorem dX {rest:List Expr} (ha:DE X a fa) (hb:DE X (.BoolOp .And (b::rest) pos) fb):DE X (.BoolOp .And (a::b::rest) pos) (Dm.dP fa fb):=PE.weak (Ao ha hb) fun _ _ _=>C4
theorem zC (ha:DE X a fa):DE X (.UnaryOp .Not a pos) (Dm.uO fa):=PE.weak (Aq ha) fun _ _ _=>C5
noncomputable abbrev DW (X:Cx) (e:Expr) (f:Dm.FT):Prop:=PW X e (tDT f)
theorem PW.weak {t t':TT} (h:PW X e t) (k:∀ σ H Q,t' σ H Q→t σ H Q):PW X e t':=fun whole pins s σ H Q I q=>h whole pins s σ H Q I (k σ H Q q)
variable {ta tb:Dm.FT}
theorem lI (h:DT X a ta):DW X (.BoolOp .And [a] pos) ta:=pw_and1 h
theorem eY (h:DT X a ta):DW X (.BoolOp .Or [a] pos) ta:=pw_or1 h
theorem w_and {rest:List Expr} (ha:DT X a ta) (hb:DW X (.BoolOp .And (b::rest) pos) tb):DW X (.BoolOp .And (a::b::rest) pos) (Dm.fZ ta tb):=PW.weak (pw_and ha hb) fun _ _ _=>AZ
theorem w_or {rest:List Expr} (ha:DT X a ta) (hb:DW X (.BoolOp .Or (b::rest) pos) tb):DW X (.BoolOp .Or (a::b::rest) pos) (Dm.tOr ta tb):=PW.weak (pw_or ha hb) fun _ _ _=>C6
theorem t_w (h:DW X a ta):DT X a ta:=h.pt
theorem bJ (h:DT X a ta):DT X (.UnaryOp .Not a pos) (Dm.bP ta):=PT.weak (Am h) fun _ _ _=>AY
theorem bS (h:DE X e f) (he:∀ whole,isTrue e X.env whole=(do let v ← whole;standAt e.pos;holding [v] (truthy v)):=by intro _;rfl):DT X e (Dm.tV f):=PT.weak (Al h he) fun _ _ _=>pN
variable {tg:Expr}
theorem sX (hg:Gl X "range") (hm:X.mg "range" = none) (ha:DA X [a] [fa]) (hs:starEach [a] X.env=[(false,eval a X.env)]:=by rfl):DI X tg (.Call (.Name "range" p) [a] [] pos) (Dm.iR1 fa):=
 PI.weak (sr hg hm ha hs) fun _ _ _=>Df
theorem Dv (hg:Gl X "range") (hm:X.mg "range" = none) (ha:DA X [a,b] [fa,fb]) (hs:starEach [a,b] X.env=[(false,eval a X.env),(false,eval b X.env)]:=by rfl) (hs2:starEach [b] X.env=[(false,eval b X.env)]:=by rfl):DI X tg (.Call (.Name "range" p) [a,b] [] pos) (Dm.iR2 fa fb):=
 PI.weak (su hg hm ha hs hs2) fun _ _ _=>Dg
end
section
variable {X:Cx} {st:Stmt} {rest:List Stmt} {fs gs:Dm.FS} {e a b c:Expr} {f fa fb:Dm.FE} {pos:Pos}
theorem bg:DSs X [] Dm.sNx:=PSs.weak xQ fun _ _ _=>Ff
theorem ah (h1:DS X st fs) (h2:DSs X rest gs):DSs X (st::rest) (Dm.az fs gs):=PSs.weak (ur h1 h2) fun _ _ _=>C8
theorem aj (h1:DS X st fs):DSs X [st] fs:=xR h1
theorem s_a (i:Nat) {x:Str} {pos':Pos} (hN:X.N.Nodup) (he:DE X e f) (hi:X.N[i]?=some x:=by rfl) (hx:Loc X.env.scope x:=by first | exact Or.inl rfl | exact Or.inr rfl) (hs:swapsWith e (some (.Name x pos')) pos.line X.env=pure false:=by rfl)
  (hf:X.fn x=true∨X.env.scope.names.lookup x=some .local:=by first | exact .inl rfl | exact .inr rfl | assumption):DS X (.Assign [.Name x pos'] e pos) (Dm.sA i f):=PS.weak (Ax hN hi hx he hs hf) fun _ _ _=>uR
theorem cu:PGs X [] (cN []):=xS
theorem aF {es:List Expr} {is:List Nat} (i:Nat) {x:Str} {px:Pos} (hN:X.N.Nodup) (h2:PGs X es (cN is)) (hi:X.N[i]?=some x:=by rfl) (hx:Loc X.env.scope x:=by first | exact Or.inl rfl | exact Or.inr rfl)
  (hf:X.fn x=true∨X.env.scope.names.lookup x=some .local:=by first | exact .inl rfl | exact .inr rfl | assumption) (hs:(assignEach (.Name x px::es) X.env).map (·.2)=assign (.Name x px) X.env::(assignEach es X.env).map (·.2):=by rfl):PGs X (.Name x px::es) (cN (i::is)):=uw (kZ hN hi hx hf) h2 hs
theorem s_u {is:List Nat} {es:List Expr} {k:Nat} {tpos:Pos} (hc:X.calm=true) (hg:PGs X es (cN is)) (he:DE X e f) (hn:(assignEach es X.env).length=is.length:=by rfl) (hst:(assignEach es X.env).findIdx? (·.1)=none:=by rfl)
  (hs:swapsWithSole [.Tuple es k tpos] e pos.line X.env=pure false:=by rfl) (hw:swappedStores [.Tuple es k tpos] e X.env=pure none:=by rfl) (h1:(assignEach [.Tuple es k tpos] X.env).map (·.2)=[assign (.Tuple es k tpos) X.env]:=by rfl) :
  DS X (.Assign [.Tuple es k tpos] e pos) (Dm.sU is f):=PS.weak (pB he (pq hc hg hn hst) hs hw h1) fun _ _ _=>uS rfl
theorem s_e (he:DE X e f) (hs:swapsWith e none pos.line X.env=pure false:=by rfl):DS X (.Expr e pos) (Dm.sE f):=PS.weak (qI he hs) fun _ _ _=>A0
theorem s_r (he:DE X e f):DS X (.Return (some e) pos) (Dm.sR f):=PS.weak (Ar he) fun _ _ _=>C9
theorem bU {t:Dm.FT} {x y:List Stmt} (ht:DT X c t) (ha:DSs X x fs) (hb:DSs X y gs):DS X (.If c x y pos) (Dm.sIf t fs gs):=PS.weak (CC ht ha hb) fun _ _ _=>C_
theorem yq:DS X st (fun _=>none):=PS.weak uv fun _ _ _ ⟨_,_,_,_,z,_⟩=>by cases z
theorem u9 (i:Nat) {x:Str} {px ap cp:Pos} (he:DE X e f) (hi:X.N[i]?=some x:=by rfl) (hv:Vis X.env.scope x:=by first | exact Or.inl rfl | exact Or.inr (Or.inl rfl) | exact Or.inr (Or.inr rfl)) (hd:(x == ("__debug__" : Str))=false:=by decide)
  (hcd:(x == ("__classdict__" : Str))=false:=by decide) (hbase:attributeBase (.Name x px) "append" X.env (eval (.Name x px) X.env)=eval (.Name x px) X.env:=by rfl)
  (hfew:((backTo cp (starEach [e] X.env)).all (fun x=>!x.1)&&(backToKw cp (keywordEach [] X.env)).all (fun x=>x.1.isSome)
   && decide ([e].length+([]:List Keyword).length+(if ([]:List Keyword).isEmpty then 0 else 1)<30))=true:=by rfl)
  (hline:(ap.endLine == cp.line)=true:=by rfl) (hs:starEach [e] X.env=(false,eval e X.env)::starEach [] X.env:=by rfl) (hplain:(backTo cp (starEach [] X.env)).any (·.1)=false:=by rfl)
  (hsw:swapsWith (.Call (.Attribute (.Name x px) "append" ap) [e] [] cp) none pos.line X.env=pure false:=by rfl) :
  DS X (.Expr (.Call (.Attribute (.Name x px) "append" ap) [e] [] cp) pos) (Dm.mV i f):=
 PS.weak (qI (CV PySem.F.plainAttrs_list PySem.F.slot_list_append PySem.F.type_list_append kr (kY hi hv hd hcd) (aa he af hs) hbase hfew hline hs hplain) hsw) fun _ _ _=>Dc
theorem iJ (i:Nat) {x:Str} {j:Expr} {fj:Dm.FE} {px sp:Pos} (hj:DE X j fj) (he:DE X e f) (hi:X.N[i]?=some x:=by rfl) (hv:Vis X.env.scope x:=by first | exact Or.inl rfl | exact Or.inr (Or.inl rfl) | exact Or.inr (Or.inr rfl)) (hd:(x == ("__debug__" : Str))=false:=by decide)
  (hcd:(x == ("__classdict__" : Str))=false:=by decide) (ha:∀ v,assign (.Subscript (.Name x px) j sp) X.env v=(do
   let ov ← holding [v] (eval (.Name x px) X.env)
   let iv ← holding [v,ov] (eval j X.env)
   standAt sp
   holding [v,ov,iv] (setItem ov iv v)
   release [v,ov,iv] []):=by intro _;rfl)
  (hs:swapsWithSole [.Subscript (.Name x px) j sp] e pos.line X.env=pure false:=by rfl) (hw:swappedStores [.Subscript (.Name x px) j sp] e X.env=pure none:=by rfl) (h1:(assignEach [.Subscript (.Name x px) j sp] X.env).map (·.2)=[assign (.Subscript (.Name x px) j sp) X.env]:=by rfl) :
  DS X (.Assign [.Subscript (.Name x px) j sp] e pos) (Dm.gG i fj f):=PS.weak (pB he (Aw (kY hi hv hd hcd) hj set_list ha) hs hw h1) fun _ _ _=>Dd
structure TG' (X:Cx) (tg:Expr) (is:List Nat) (bd:Dm.FB):Prop where
 ex:∃ g,PG X tg g∧BD is g bd
theorem g_n (i:Nat) {x:Str} {px:Pos} (hN:X.N.Nodup) (hi:X.N[i]?=some x:=by rfl) (hx:Loc X.env.scope x:=by first | exact Or.inl rfl | exact Or.inr rfl) (hf:X.fn x=true∨X.env.scope.names.lookup x=some .local:=by first | exact .inl rfl | exact .inr rfl | assumption) :
  TG' X (.Name x px) [i] (Dm.bN i):=⟨⟨_,kZ hN hi hx hf,qT i⟩⟩
theorem g_t {is:List Nat} {es:List Expr} {k:Nat} {tpos:Pos} (hc:X.calm=true) (hg:PGs X es (cN is)) (hn:(assignEach es X.env).length=is.length:=by rfl) (hst:(assignEach es X.env).findIdx? (·.1)=none:=by rfl):TG' X (.Tuple es k tpos) is (Dm.bT is):=
 ⟨⟨_,pq hc hg hn hst,uT is rfl⟩⟩
theorem eZ {tg it:Expr} {fi:Dm.FI} {is:List Nat} {bd:Dm.FB} {body:List Stmt} (hp:PassesOwn (model X.prog X.w) X.A X.env X.xe) (hc:X.calm=true) (hi:DI X tg it fi) (hg:TG' X tg is bd) (hb:DSs X body fs)
  (hs:∀ x,foldedSetIterable it X.env x=pure x:=by intro _;rfl):DS X (.For tg it body [] pos) (Dm.eO fi bd fs):=by
 obtain ⟨g,h1,h2⟩:=hg.ex
 exact PS.weak (Ay hp hc hi h1 hb hs) fun _ _ _=>De h2
end
noncomputable def tyName:Dm.Dat→String
 | .non => "NoneType"
 | .bl _ => "bool"
 | .int _ => "int"
 | .str _ => "str"
 | .tup _ => "tuple"
 | .lst _ => "list"
 | .dct _ _ => "dict"
 | .exc _ => "dict"
 | .fn _ => "dict"
noncomputable def sY (T:String) (p:Dm.Dat→Bool):Prop:=∀ (K:PySem.W.Frag) (d:Dm.Dat),PySem.W.kitOne K (.type (tyName d)) (.type T)=some (p d)
theorem qX:sY "int" Dm.isI:=fun K d=>by cases d<;>rfl
theorem iK:sY "bool" Dm.isB:=fun K d=>by cases d<;>rfl
theorem ng:sY "list" Dm.isL:=fun K d=>by cases d<;>rfl
theorem kit_tuple:sY "tuple" Dm.isT:=fun K d=>by cases d<;>rfl
theorem u_ {K:PySem.W.Frag} {H:Hp} {v:V} {d:Dm.Dat} (r:Rep H v d) (nx:∀ C,d≠.exc C∧d≠.fn C):f9 K H v (.type (tyName d)):=by
 cases r with
 | non=>exact .non
 | bl b=>exact .bl b
 | int i=>exact .int i
 | str s=>exact .str _
 | tup q _=>exact .tup q
 | lst q _=>
  rcases q with q | ⟨o,q⟩
  ·exact .lst q
  ·exact .frz q
 | dct q _ _=>exact .dK q
 | exc _=>exact absurd rfl (nx _).1
 | fn _=>exact absurd rfl (nx _).2
noncomputable def Dw (K:PySem.W.Frag) (T:String):List V→Hp→VK→Prop:=fun xs H Q=>∃ x t b,xs=[x,.ty T]∧f9 K H x t∧PySem.W.kitOne K t (.type T)=some b∧Q (.bl b) H
section
variable {X:Cx} {e:Expr} {f:Dm.FE} {p p2 pos:Pos}
theorem vc {T:String}:cE X (.builtin "isinstance") (Dw X.K T):=by
 intro pins s σ H xs us Q I r h
 obtain ⟨x,t,b,rfl,ty,e,q⟩:=h
 obtain ⟨u,u2,rfl,rx,ry⟩:=vals2 r
 cases ry
 exact sH I rx ty e fun tk=>⟨.bl b,H,I.tok tk,rfl,q⟩
theorem Dy {K:PySem.W.Frag} {T:String} {p:Dm.Dat→Bool} (kp:sY T p) {σ:L2.St} {H:Hp} {Q:VK} (h:tD (Dm.e1 (Dm.eS p) f) σ H Q):tCB (Dw K T) (qK (tD f) (qK (tC (.ty T)) AI)) σ H Q:=by
 obtain ⟨H0,ρ,x,ρ',st,e,k⟩:=h
 unfold Dm.e1 at e
 split at e
 ·cases e
 rename_i x1 ρ1 e1
 split at e
 ·cases e
 rename_i dx p1
 have nx:∀ C,dx≠.exc C∧dx≠.fn C:=fun C=>⟨fun z=>(by subst z;cases e),fun z=>(by subst z;cases e)⟩
 have ev:Dm.eS p dx=Dm.vB (p dx):=by cases dx<;>first | rfl | exact absurd rfl (nx _).1 | exact absurd rfl (nx _).2
 rw [ev] at e
 dsimp only at e
 cases e
 refine ⟨H0,ρ,x1,_,st,e1,fun v H1 Hb t1 r1=>?_⟩
 exact ⟨v,_,_,rfl,u_ ((r1.look t1.st p1).full t1.st.same) nx,kp K dx,k _ H1 Hb t1 (Rep.bl _)⟩
theorem dY {T:String} {tn:Str} {p':Dm.Dat→Bool} (kp:sY T p') (hvT:bootBuiltins tn=some (.type T)) (hgT:Gl X tn) (hmT:X.mg tn=none) (hg:Gl X "isinstance") (hm:X.mg "isinstance" = none) (h:DE X e f)
  (hn:tn ≠ "__name__" := by decide) (hdb:(tn == ("__debug__" : Str))=false:=by decide)
  (he:starEach [e,.Name tn p2] X.env=(false,eval e X.env)::starEach [.Name tn p2] X.env:=by rfl) (hpl:(backTo pos (starEach [.Name tn p2] X.env)).any (·.1)=false:=by rfl) (he2:starEach [.Name tn p2] X.env=(false,eval (.Name tn p2) X.env)::starEach [] X.env:=by rfl) :
  DE X (.Call (.Name "isinstance" p) [e,.Name tn p2] [] pos) (Dm.e1 (Dm.eS p') f):=
 PE.weak (mS vc hg hm PyProof.Rows.boot_isinstance (k8 h (k8 (xP (v:=.ty T) hgT hmT hvT rfl hn hdb) uE he2) he) (he:=he) (hpl:=hpl)) fun _ _ _=>Dy kp
theorem all_range (bs:List Bool):(List.range bs.length).all (fun i=>bs.getD i true)=bs.all id:=by
 rw [Bool.eq_iff_iff,List.all_eq_true,List.all_eq_true]
 constructor
 ·intro h b hb
  obtain ⟨i,hi,rfl⟩:=List.mem_iff_getElem.mp hb
  have:=h i (List.mem_range.mpr hi)
  rw [List.getD_eq_getElem?_getD,List.getElem?_eq_getElem hi] at this
  exact this
 ·intro h i hi
  have hi:=List.mem_range.mp hi
  rw [List.getD_eq_getElem?_getD,List.getElem?_eq_getElem hi]
  exact h _ (List.getElem_mem hi)
theorem sZ (hc:X.calm=true):cE X (.builtin "all") (fun xs H Q=>∃ (a:Addr) (bs:List Bool),xs=[.ref a]∧Rd H a (.lst (bs.map V.bl))∧Q (.bl (bs.all id)) H):=by
 intro pins s σ H xs us Q I r h
 obtain ⟨a,bs,rfl,hq,q⟩:=h
 obtain ⟨u,rfl,rx⟩:=vals1 r
 cases rx
 obtain ⟨z,its,n,rv,e⟩:=hq.ok I.hok
 have hl:s.heap.IsList a its.toArray:=⟨_,e,rfl,_,rfl⟩
 have hlen:=rv.length
 rw [List.length_map] at hlen
 have hax:a≠s.heap.objs.size:=Nat.ne_of_lt (Heap.lt_size e)
 refine PySem.call_all_walk (wpAny_pyIter_list hl ⟨s.heap.objs.size,_,_,_,_,_,fun i=>bs.getD i true,rfl,Walks.list (A:=X.A.in1) (I.ok.hd hc) s.heap.objs.size a hax its.toArray,⟨⟨_,Heap.get?_push_size _ rfl,rfl,rfl⟩,hl.push _⟩,?_,fun h' tk hk=>?_⟩)
 ·intro i v s' Q' E' hv hQ'
  have hv':its[i]?=some v:=by simpa using hv
  have hi:i<bs.length:=by rw [hlen];exact (List.getElem?_eq_some_iff.mp hv').1
  have hb:(bs.map V.bl)[i]?=some (V.bl bs[i]):=by rw [List.getElem?_map,List.getElem?_eq_getElem hi];rfl
  obtain ⟨u,hu,ru⟩:=rv.get hb
  rw [hv'] at hu
  cases hu
  cases ru
  refine wpAny_truthy_bool ?_
  have e2:bs.getD i true=bs[i]:=by rw [List.getD_eq_getElem?_getD,List.getElem?_eq_getElem hi];rfl
  rw [← e2]
  exact hQ'
 ·have e1:its.toArray.size=bs.length:=by rw [List.size_toArray,hlen]
  rw [e1,all_range]
  refine ⟨.bl _,H,I.kept (t':=tk) fun b o eb=>hk b o ?_ (Heap.get?_push_of_some _ eb),rfl,q⟩
  intro hm
  have:b=s.heap.objs.size:=by simpa using hm
  exact absurd (Heap.lt_size eb) (by rw [this];exact Nat.lt_irrefl _)
end
section
variable {X:Cx} {a b c e:Expr} {f fa fb fc:Dm.FE} {p p2 pos:Pos}
noncomputable def Dz (neg:Bool):R2:=fun x y H Q=>∃ i j,x=.bl i∧y=.bl j∧Q (.bl (if neg then i != j else i == j)) H
theorem s_:OpR X (compareOp .IsNot) (Dz true):=by
 intro pins s σ H x y v u Q I rx ry h
 obtain ⟨i,j,rfl,rfl,q⟩:=h
 cases rx;cases ry
 exact isnot_bool ⟨.bl _,H,I,rfl,q⟩
theorem tu:OpD (Dz true) Dm.eE:=by
 intro H0 H x y dx dy z Q s rx ry e k
 unfold Dm.eE at e
 split at e
 ·cases e;cases lF rx;cases lF ry
  exact ⟨_,_,rfl,rfl,k _ H0 H (aJ.refl s) (.bl _)⟩
 ·cases e
theorem zD (ha:DE X a fa) (hb:DE X b fb):DT X (.Compare a [.IsNot] [b] pos) (Dm.tV (Dm.e2 Dm.eE fa fb)):=kE s_ tu ha hb (c_ _)
theorem qY {r r':R2} {g h:Dm.Dat→Dm.Dat→Option Dm.RV} (o1:OpD r g) (o2:OpD r' h) {σ:L2.St} {H:Hp} {Q:VK} (hh:tD (Dm.bR g h fa fb fc) σ H Q):pG r r' (tD fa) (tD fb) (tD fc) σ H Q:=by
 obtain ⟨H0,ρ,x,ρ',st,e,k⟩:=hh
 unfold Dm.bR at e
 split at e
 ·cases e
 rename_i x1 ρ1 e1
 split at e
 ·cases e
 rename_i y1 ρ2 e2
 split at e
 ·cases e
 rename_i dx p1
 split at e
 ·cases e
 rename_i dy p2
 refine ⟨H0,ρ,x1,ρ1,st,e1,fun v H1 Hb t1 r1=>⟨H1,ρ1,y1,ρ2,t1.st,e2,fun u H2 Hc t2 r2=>?_⟩⟩
 split at e
 ·rename_i gz
  refine o1 H2 Hc v u dx dy _ _ t2.st.same ((r1.mono t2).look t2.st p1) (r2.look t2.st p2) gz fun w H3 Hd g3 r3=>?_
  refine ⟨true,Rep.lB r3,?_⟩
  rw [if_pos rfl]
  have t3:=t2.trans (.grow t2.st g3)
  have r2':=r2.mono (.grow t2.st g3)
  split at e
  ·cases e
  rename_i z ρ3 e3
  split at e
  ·cases e
  rename_i dy' p3
  split at e
  ·cases e
  rename_i dz p4
  split at e
  ·cases e
  rename_i w2 hz
  cases e
  refine ⟨H3,ρ2,z,_,t3.st,e3,fun w' H4 He t4 r4=>?_⟩
  refine o2 H4 He u w' dy' dz w2 Q t4.st.same ((r2'.mono t4).look t4.st p3) (r4.look t4.st p4) hz fun w5 H5 Hf g5 r5=>?_
  exact k w5 H5 Hf (t1.trans (t3.trans (t4.trans (.grow t4.st g5)))) ((r5.toV t4.st).early fun a n=>(t1.trans (t3.trans t4)).stp.gone n)
 ·rename_i gz
  cases e
  refine o1 H2 Hc v u dx dy _ _ t2.st.same ((r1.mono t2).look t2.st p1) (r2.look t2.st p2) gz fun w H3 Hd g3 r3=>?_
  refine ⟨false,Rep.lB r3,?_⟩
  rw [if_neg Bool.false_ne_true]
  exact k _ H3 Hd (t1.trans (t2.trans (.grow t2.st g3))) (Rep.bl false)
 ·cases e
theorem qZ {op op':CmpOp} {r r':R2} {g h:Dm.Dat→Dm.Dat→Option Dm.RV} (o1:OpR X (compareOp op) r) (q1:OpD r g) (o2:OpR X (compareOp op') r') (q2:OpD r' h) (ha:DE X a fa) (hb:DE X b fb) (hc:DE X c fc)
  (hm:lastMarks [op,op'] [b,c]=false:=by with_unfolding_all rfl):DE X (.Compare a [op,op'] [b,c] pos) (Dm.bR g h fa fb fc):=PE.weak (uB o1 o2 ha hb hc hm) fun _ _ _=>qY q1 q2
theorem lJ (n d:Nat) (o:Option Int) (hd:d≤n):HT.sIx n d o=Dm.sIx n d o:=by
 cases o with
 | none=>rfl
 | some v=>
  unfold HT.sIx Dm.sIx
  first
   | rfl
   | (dsimp only;split<;>omega)
theorem tw {H0:Hp} {xs:List V} {ds:List Dm.Dat} (rs:aE H0 xs ds) (lo hi:Option Int):aE H0 (pH xs lo hi) (Dm.cut ds lo hi):=by
 unfold pH Dm.cut
 rw [rs.length,lJ _ _ _ (Nat.zero_le _),lJ _ _ _ (Nat.le_refl _)]
 exact (rs.drop _).take _
theorem ig {fo:Option Dm.FE} {σ:L2.St} {H0 H:Hp} {ρ ρ':Dm.Env} {o:Option Int} {Q:Option Int→Hp→Prop} (st:au H0 H σ ρ) (e:Dm.part fo ρ=some (o,ρ')) (k:∀ H0' H',ESt σ ρ H0 H ρ' H0' H'→Q o H') :
  (match fo with | none=>k9 | some f=>uG (tD f)) σ H Q:=by
 cases fo with
 | none=>cases e;exact k H0 H (.refl st)
 | some f=>
  unfold Dm.part at e
  dsimp only at e
  split at e
  ·rename_i i ρ1 e1
   cases e
   exact ⟨H0,ρ,_,_,st,e1,fun v H1 Hb t1 r1=>⟨i,Rep.isInt r1,k H1 Hb t1⟩⟩
  ·cases e
noncomputable abbrev tOf (fo:Option Dm.FE):TO:=match fo with | none=>k9 | some f=>uG (tD f)
theorem Fz {K:PySem.W.Frag} {lo hi:Option Dm.FE} {σ:L2.St} {H:Hp} {Q:VK} (h:tD (Dm.eSl f lo hi) σ H Q):tSl (CU K) (tD f) (tOf lo) (tOf hi) σ H Q:=by
 obtain ⟨H0,ρ,x,ρ',st,e,k⟩:=h
 unfold Dm.eSl at e
 split at e
 ·cases e
 rename_i x1 ρ1 e1
 split at e
 ·cases e
 rename_i l ρ2 e2
 split at e
 ·cases e
 rename_i hh ρ3 e3
 split at e
 ·rename_i ds p1
  cases e
  refine ⟨H0,ρ,x1,ρ1,st,e1,fun v H1 Hb t1 r1=>?_⟩
  refine ig t1.st e2 fun H2 Hc t2=>?_
  refine ig t2.st e3 fun H3 Hd t3=>?_
  have tt:=t1.trans (t2.trans t3)
  obtain ⟨a,xs,rfl,qa,ra⟩:=bx t3.st.same ((r1.mono (t2.trans t3)).look t3.st p1)
  refine ⟨a,xs,rfl,.inl qa,fun q hq=>?_⟩
  have g:=aJ.j7 (o:=HO.lst (pH xs l hh)) t3.st.same hq
  refine k _ _ _ (tt.trans (.grow t3.st g)) ⟨q,rfl,tt.stp.gone hq,t3.st.gh hq,t3.st.same.free hq,_,aD,tw ra l hh⟩
 ·cases e
theorem tE {lo hi:Option Expr} {flo fhi:Option Dm.FE} (h:DE X e f) (hl:PO X lo (tOf flo)) (hh:PO X hi (tOf fhi)):DE X (.Subscript e (.Slice lo hi none p2) pos) (Dm.eSl f flo fhi):=PE.weak (uH x8 h hl hh) fun _ _ _=>Fz
theorem o_n:PO X none (tOf none):=xY
theorem o_s (h:DE X e f):PO X (some e) (tOf (some f)):=xZ h
end
section
variable {X:Cx} {nm:List Str} {elt tg iter:Expr} {ifs:List Expr} {scope:Scope} {pos:Pos} {own:List Str} {fi:Dm.FI} {bd:Dm.FB} {is:List Nat} {t:Dm.FT} {f:Dm.FE}
noncomputable abbrev DTs (X:Cx) (ifs:List Expr) (t:Dm.FT):Prop:=PTs X ifs (tDT t)
theorem cI:DTs X [] Dm.cF:=fun pins s σ H Q I h=>by
 obtain ⟨H0,ρ,b,ρ',st,e,k⟩:=h
 cases e
 exact yc pins s σ H Q I (k H0 H (.refl st))
theorem Bf {c:Expr} (h:DT X c t):DTs X [c] t:=yd h
structure TGc (X:Cx) (nm:List Str) (scope:Scope) (own:List Str) (tg:Expr) (is:List Nat) (bd:Dm.FB):Prop where
 ex:∃ g,(∀ cl C s H fp,PG (aS X nm scope own cl C s H fp) tg g)∧BD is g bd
theorem c_n (i:Nat) {x:Str} {px:Pos} (hN:(nm++own).Nodup) (hi:(nm++own)[i]?=some x) (hx:(relabel scope X.env).names.lookup x=some .local):TGc X nm scope own (.Name x px) [i] (Dm.bN i):=
 ⟨⟨_,fun cl C s H fp=>kZ (X:=aS X nm scope own cl C s H fp) hN hi (.inl hx) (.inr hx),qT i⟩⟩
theorem c_t {es:List Expr} {k:Nat} {tpos:Pos} (hc:X.calm=true) (hg:∀ cl C s H fp,PGs (aS X nm scope own cl C s H fp) es (cN is)) (hn:∀ cl C,(assignEach es (compEnvC scope cl C X.env)).length=is.length:=by intro _ _;rfl)
  (hst:∀ cl C,(assignEach es (compEnvC scope cl C X.env)).findIdx? (·.1)=none:=by intro _ _;rfl):TGc X nm scope own (.Tuple es k tpos) is (Dm.bT is):=
 ⟨⟨_,fun cl C s H fp=>pq (X:=aS X nm scope own cl C s H fp) hc (hg cl C s H fp) (hn cl C) (hst cl C),uT is rfl⟩⟩
theorem Bg (hc:X.calm=true) (S:cG X nm scope) (hi:DI X tg iter fi) (hg:TGc X nm scope own tg is bd) (ht:∀ cl C s H fp,DTs (aS X nm scope own cl C s H fp) ifs t) (he:∀ cl C s H fp,DE (aS X nm scope own cl C s H fp) elt f)
  (hl:∀ i∈is,X.N.length≤i) (hs:∀ x,foldedSetIterable iter X.env x=pure x:=by intro _;rfl):DE X (.ListComp elt [⟨tg,iter,ifs,0⟩] scope pos) (Dm.bO fi own.length bd t f):=by
 obtain ⟨g,h1,h2⟩:=hg.ex
 intro pins s σ H Q I h
 exact qU hc S hi h1 ht he hs pins s σ H Q I (pQ h2 (fun i hi=>by rw [I.len];exact hl i hi) h)
theorem Bh (j:Nat) {y:Str} {py spos:Pos} (hN:X.N.Nodup) (hc:X.calm=true) (S:cG X nm scope) (hi:DI X tg iter fi) (hg:TGc X nm scope own tg is bd) (ht:∀ cl C s H fp,DTs (aS X nm scope own cl C s H fp) ifs t) (he:∀ cl C s H fp,DE (aS X nm scope own cl C s H fp) elt f)
  (hl:∀ i∈is,X.N.length≤i) (hj:X.N[j]?=some y:=by rfl) (hy:Loc X.env.scope y:=by first | exact Or.inl rfl | exact Or.inr rfl)
  (hsw:swapsWith (.ListComp elt [⟨tg,iter,ifs,0⟩] scope pos) (some (.Name y py)) spos.line X.env=pure true:=by rfl) (hs:∀ x,foldedSetIterable iter X.env x=pure x:=by intro _;rfl)
  (hf:X.fn y=true∨X.env.scope.names.lookup y=some .local:=by first | exact .inl rfl | exact .inr rfl | assumption):DS X (.Assign [.Name y py] (.ListComp elt [⟨tg,iter,ifs,0⟩] scope pos) spos) (Dm.sA j (Dm.bO fi own.length bd t f)):=by
 obtain ⟨g,h1,h2⟩:=hg.ex
 intro pins s σ H D I h
 exact g7 hN hj hy hc S hi h1 ht he hsw hs hf pins s σ H D I (pQ h2 (fun i hi=>by rw [I.len];exact hl i hi) (uR h))
end
theorem iM {H0:Hp}:∀ {ds:List Dm.Dat} {bs:List Bool} {vs:List V},aE H0 vs ds→Dm.bools ds=some bs→vs=bs.map V.bl
 | [],bs,vs,r,e=>by cases r;cases e;rfl
 | .bl b::ds,bs,vs,r,e=>by
  cases r with
  | cons r rs=>
   unfold Dm.bools at e
   cases q:Dm.bools ds with
   | none=>rw [q] at e;cases e
   | some cs=>
    rw [q] at e
    cases e
    cases Rep.lB r
    rw [iM rs q]
    rfl
 | .non::ds,bs,vs,r,e=>by cases e
 | .int _::ds,bs,vs,r,e=>by cases e
 | .str _::ds,bs,vs,r,e=>by cases e
 | .tup _::ds,bs,vs,r,e=>by cases e
 | .lst _::ds,bs,vs,r,e=>by cases e
 | .dct _ _::ds,bs,vs,r,e=>by cases e
theorem Bj:CallD (fun xs H Q=>∃ (a:Addr) (bs:List Bool),xs=[.ref a]∧Rd H a (.lst (bs.map V.bl))∧Q (.bl (bs.all id)) H) Dm.j6:=by
 intro H0 H vs ds z Q s rs e k
 unfold Dm.j6 at e
 split at e
 ·split at e
  ·rename_i bs hb
   cases e
   cases rs with
   | cons r rr=>
    cases rr
    obtain ⟨a,us,rfl,qa,ra⟩:=bx s r
    have:=iM ra hb
    subst this
    exact ⟨a,bs,rfl,qa,k _ H0 H (aJ.refl s) (.bl _)⟩
  ·cases e
 ·cases e
theorem Bk:CallD (fun xs H Q=>(∃ i,xs=[.int i]∧Q (.int i) H)∨∃ k,xs=[.bl k]∧Q (.int (if k then 1 else 0)) H) Dm.mY:=by
 intro H0 H vs ds z Q s rs e k
 unfold Dm.mY at e
 split at e
 ·cases e
  cases rs with
  | cons r rr=>
   cases rr
   cases av r
   exact .inl ⟨_,rfl,k _ H0 H (aJ.refl s) (.int _)⟩
 ·cases e
  cases rs with
  | cons r rr=>
   cases rr
   cases lF r
   exact .inr ⟨_,rfl,k _ H0 H (aJ.refl s) (.int _)⟩
 ·cases e
section
variable {X:Cx} {a b c e:Expr} {f:Dm.FE} {fs:List Dm.FE} {p p2 pos:Pos}
theorem nh (hc:X.calm=true) (hg:Gl X "all") (hm:X.mg "all" = none) (ha:DA X [e] fs) (he:starEach [e] X.env=[(false,eval e X.env)]:=by rfl) (hpl:(backTo pos (starEach [] X.env)).any (·.1)=false:=by rfl) :
  DE X (.Call (.Name "all" p) [e] [] pos) (Dm.eB Dm.j6 fs):=sW (sZ hc) Bj (by rfl) hg hm ha (he:=he) (hpl:=hpl)
theorem q_ (hg:Gl X "int") (hm:X.mg "int" = none) (ha:DA X [e] fs) (he:starEach [e] X.env=[(false,eval e X.env)]:=by rfl) (hpl:(backTo pos (starEach [] X.env)).any (·.1)=false:=by rfl) :
  DE X (.Call (.Name "int" p) [e] [] pos) (Dm.eB Dm.mY fs):=yo sF Bk (by rfl) hg hm ha (he:=he) (hpl:=hpl)
end
noncomputable def b7 (sc:Scope):List Str→List Str→Bool
 | [],[]=>true
 | x::N,y::nm=>(x == y||(sc.names.lookup y).isNone)&&b7 sc N nm
 | _,_=>false
theorem b7.len {sc:Scope}:∀ {N nm:List Str},b7 sc N nm=true→nm.length=N.length
 | [],[],_=>rfl
 | [],_::_,h=>by cases h
 | _::_,[],h=>by cases h
 | x::N,y::nm,h=>by
  rw [b7,Bool.and_eq_true] at h
  rw [List.length_cons,List.length_cons,b7.len h.2]
theorem b7.at {sc:Scope}:∀ {N nm:List Str},b7 sc N nm=true→∀ (i:Nat) (x:Str),nm[i]?=some x→N[i]?=some x∨sc.names.lookup x=none
 | [],[],_,i,x,e=>by simp at e
 | [],_::_,h,_,_,_=>by cases h
 | _::_,[],h,_,_,_=>by cases h
 | x::N,y::nm,h,0,z,e=>by
  rw [b7,Bool.and_eq_true,Bool.or_eq_true] at h
  simp at e
  subst e
  rcases h.1 with q | q
  ·have:x=y:=by simpa using q
   subst this
   exact .inl rfl
  ·exact .inr (by simpa using q)
 | x::N,y::nm,h,i+1,z,e=>by
  rw [b7,Bool.and_eq_true] at h
  rw [List.getElem?_cons_succ] at e ⊢
  exact b7.at h.2 i z e
noncomputable def kF (osc:Scope) (N nm:List Str) (sc:Scope):Bool:=
 sc.names.all (fun y=>y.2 != .cell)&&sc.names.all (fun y=>y.2 != .local||sc.names.lookup y.1 == some .local) &&
 sc.names.all (fun y=>y.2 != .free||(osc.names.lookup y.1 == some .cell||osc.names.lookup y.1 == some .free))&&nm.all (fun x=>sc.names.lookup x != some .local)&&b7 sc N nm
theorem cG.of {X:Cx} {nm:List Str} {scope:Scope} (h:kF X.env.scope X.N nm scope=true) (hk:scope.kind=.function):cG X nm scope:=by
 unfold kF at h
 simp only [Bool.and_eq_true,List.all_eq_true] at h
 obtain ⟨⟨⟨⟨h1,h2⟩,h3⟩,h4⟩,h5⟩:=h
 refine ⟨hk,fun y hy=>?_,fun y hy hl=>?_,fun y hy hf=>?_,fun x hx=>?_,b7.len h5,b7.at h5⟩
 ·have:=h1 y hy;simpa using this
 ·have:=h2 y hy
  rw [hl] at this
  simpa using this
 ·have:=h3 y hy
  rw [hf] at this
  have:(X.env.scope.names.lookup y.1 == some .cell||X.env.scope.names.lookup y.1 == some .free)=true:=by simpa using this
  rw [Bool.or_eq_true,beq_iff_eq,beq_iff_eq] at this
  exact this
 ·have:=h4 x hx;simpa using this
section
variable {X:Cx} {elt tg iter:Expr} {ifs:List Expr} {scope:Scope} {pos:Pos} {fi:Dm.FI} {bd:Dm.FB} {is:List Nat} {t:Dm.FT} {f:Dm.FE}
theorem rj {l:List Nat} {n:Nat} (h:(l.all fun i=>decide (n≤i))=true):∀ i∈l,n≤i:=fun i hi=>of_decide_eq_true (List.all_eq_true.mp h i hi)
theorem yr (nm own:List Str) (hg:TGc X nm scope own tg is bd) (hi:DI X tg iter fi) (ht:∀ cl C s H fp,DTs (aS X nm scope own cl C s H fp) ifs t) (he:∀ cl C s H fp,DE (aS X nm scope own cl C s H fp) elt f)
  (hc:X.calm=true:=by rfl) (hk:scope.kind=.function:=by rfl) (hS:kF X.env.scope X.N nm scope=true:=by rfl) (hl:(is.all fun i=>decide (X.N.length≤i))=true:=by rfl) (hs:∀ x,foldedSetIterable iter X.env x=pure x:=by intro _;rfl) :
  DE X (.ListComp elt [⟨tg,iter,ifs,0⟩] scope pos) (Dm.bO fi own.length bd t f):=Bg hc (cG.of hS hk) hi hg ht he (rj hl) hs
theorem DB (j:Nat) (nm own:List Str) {y:Str} {py spos:Pos} (hN:X.N.Nodup) (hg:TGc X nm scope own tg is bd) (hi:DI X tg iter fi) (ht:∀ cl C s H fp,DTs (aS X nm scope own cl C s H fp) ifs t) (he:∀ cl C s H fp,DE (aS X nm scope own cl C s H fp) elt f)
  (hc:X.calm=true:=by rfl) (hk:scope.kind=.function:=by rfl) (hS:kF X.env.scope X.N nm scope=true:=by rfl) (hl:(is.all fun i=>decide (X.N.length≤i))=true:=by rfl) (hj:X.N[j]?=some y:=by rfl) (hy:Loc X.env.scope y:=by first | exact Or.inl rfl | exact Or.inr rfl)
  (hsw:swapsWith (.ListComp elt [⟨tg,iter,ifs,0⟩] scope pos) (some (.Name y py)) spos.line X.env=pure true:=by rfl) (hs:∀ x,foldedSetIterable iter X.env x=pure x:=by intro _;rfl)
  (hf:X.fn y=true∨X.env.scope.names.lookup y=some .local:=by first | exact .inl rfl | exact .inr rfl | assumption):DS X (.Assign [.Name y py] (.ListComp elt [⟨tg,iter,ifs,0⟩] scope pos) spos) (Dm.sA j (Dm.bO fi own.length bd t f)):=
 Bh j hN hc (cG.of hS hk) hi hg ht he (rj hl) hj hy hsw hs hf
end
theorem PI.or {X:Cx} {tg it:Expr} {t t':TI} (h:PI X tg it t) (h':PI X tg it t'):PI X tg it (fun σ H R=>t σ H R∨t' σ H R):=fun pins s σ H R I q=>q.elim (h pins s σ H R I) (h' pins s σ H R I)
theorem DC {K:PySem.W.Frag} {f:Dm.FE} {σ:L2.St} {H:Hp} {R:It→Hp→Prop} (h:tDI (Dm.iS f) σ H R):mP K (tD f) σ H R∨ux K (tD f) σ H R:=by
 obtain ⟨H0,ρ,ys,ρ',st,e,k⟩:=h
 unfold Dm.iS at e
 split at e
 ·cases e
 rename_i x ρ1 e1
 split at e
 ·rename_i ds ρ2 e2
  cases e
  exact .inl (Fg ⟨H0,ρ,_,_,st,by unfold Dm.iL;rw [e1];dsimp only;rw [e2],k⟩)
 ·rename_i ds ρ2 e2
  cases e
  exact .inr (Fj ⟨H0,ρ,_,_,st,by unfold Dm.iT;rw [e1];dsimp only;rw [e2],k⟩)
 ·cases e
theorem i_S {X:Cx} {tg e:Expr} {f:Dm.FE} (h:DE X e f):DI X tg e (Dm.iS f):=PI.weak (PI.or (qJ h) (uy h)) fun _ _ _=>DC
noncomputable def vd (K:PySem.W.Frag):Bool:=K.all fun p=>match p.2.cls with | .type n=>n != "list" | _=>true
theorem lookup_mem {a:Addr} {o:Obj}:∀ {K:List (Addr×Obj)},K.lookup a=some o→(a,o)∈K
 | [],h=>by cases h
 | (b,x)::r,h=>by
  rw [List.lookup_cons] at h
  cases q:a == b with
  | true=>
   rw [q] at h
   cases h
   have:a=b:=by simpa using q
   rw [this]
   exact List.mem_cons_self
  | false=>
   rw [q] at h
   exact List.mem_cons_of_mem _ (lookup_mem h)
theorem Bl {f:List Dm.Dat→Option Dm.RV} {K:PySem.W.Frag} {H:Hp} {a:Addr} {ns:List Int} {E:XK} (hf:f [.lst (ns.map Dm.Dat.int)]=some (.val (.bl true))) (hK:vd K=true) (hS:SqL K H a (ns.map V.int)) :
  spD f [.ref a] H (fun v _=>v=.bl true) E:=by
 have hq:Rd H a (.lst (ns.map V.int)):=by
  rcases hS with h | ⟨o,its,n,hk,hc,_⟩
  ·exact h
  ·have:=List.all_eq_true.mp hK _ (lookup_mem hk)
   dsimp only at this
   rw [hc] at this
   exact absurd this (by decide)
 have hr:∀ ns:List Int,aE H (ns.map V.int) (ns.map Dm.Dat.int):=fun ns=>by
  induction ns with
  | nil=>exact .nil
  | cons n ns ih=>exact .cons (.int n) ih
 exact ⟨H,_,_,ao.refl _,.cons (.lst hq (hr ns)) .nil,hf,fun v H0' H' _ r=>Rep.lB r⟩
end Br
namespace Dm
noncomputable def iRd (a b c:FE):FI:=fun ρ=>match a ρ with
 | some (.val (.int i),ρ1)=>(match b ρ1 with
  | some (.val (.int j),ρ2)=>(match c ρ2 with
   | some (.val (.int k),ρ3)=>if k=-1∧j≤BIG∧-BIG≤j∧i≤BIG∧-BIG≤i then some (downs i (i-j).toNat,ρ3) else none
   | _=>none)
  | _=>none)
 | _=>none
noncomputable def tF (a:FE):FI:=fun ρ=>match a ρ with
 | none=>none
 | some (x,ρ1)=>match tk ρ1 x with
  | some (.lst ds,ρ2)=>some (ds.reverse,ρ2)
  | _=>none
noncomputable def gq:Nat→List Dat→List Dat
 | _,[]=>[]
 | i,d::ds=>.tup [.int (i:Nat),d]::gq (i+1) ds
noncomputable def iEn (a:FE):FI:=fun ρ=>match a ρ with
 | none=>none
 | some (x,ρ1)=>match tk ρ1 x with
  | some (.lst ds,ρ2)=>some (gq 0 ds,ρ2)
  | _=>none
noncomputable def e_ (d:Dat):Option RV:=match d with
 | .lst ds=>some (.new (.lst ds.reverse))
 | _=>none
noncomputable def iN:List Dat→Option RV
 | [.int j]=>if j≤1000000∧-1000000≤j then some (.new (.lst (ups 0 j.toNat))) else none
 | _=>none
end Dm
namespace Br
open PySem PySem.Spec PyProof.Rows L2
theorem kG {X:Cx} {pins:List (Addr×Obj)} {σ:L2.St} {H:Hp} {s:Shared} {h':Heap} {t':Nat} {fp:List Addr} {p:Addr} {o:HO} (I:Inv X pins σ H s) (hf:∀ b∈fp,j0 X pins H b)
  (k:∀ b u,b∉fp→s.heap.get? b=some u→h'.get? b=some u) (hp:s.heap.objs.size≤p) (new:bw X.prog X.w (upd H p o) h' p o):Inv X pins σ (upd H p o) { s with heap:=h',toks:=t' }:=by
 have hn:H p=none:=I.hok.fresh hp
 have nf:∀ b u,H b=some u→b∉fp:=fun b u e z=>by rw [(hf b z).1] at e;cases e
 have nL:X.env.locals∉fp:=fun z=>(hf _ z).2.1 rfl
 refine I.step (g':=s.gens) (d':=s.drawn) (ch:=fp) (fun b hb=>?_) (fun b u _ _ hc e _=>k b u hc e) (fun b u _ _ hc e _=>⟨u.slots,k b u hc e⟩)
  (fun b u _ e n=>by rw [aC (Nat.ne_of_lt (Nat.lt_of_lt_of_le (Heap.lt_size e) hp))];exact n) (fun b u hc e=>⟨u,k b u hc e⟩)
  (fun b xs q=>by rw [aC (aG q hn)];exact q) (fun b u xs q=>by rw [aC (aG q hn)];exact q) (fun b ps q=>⟨#[],by rw [aC (aG q hn),q];simp⟩) (fun m hm=>?_) (fun b u e=>?_) I.bare
 ·obtain ⟨f0,f1,f2,f3,f4,f5⟩:=hf b hb
  exact ⟨f3,f1,f4,f5⟩
 ·obtain ⟨o,es,ep,ho,r⟩:=hm
  exact ⟨o,es,ep,k _ o nL ho,r⟩
 ·by_cases hb:b=p
  ·subst hb;rw [aD] at e;cases e;exact new
  ·rw [aC hb] at e
   refine (I.hok b u e).stay (fun c v hc q=>k c v ?_ q) (fun c q=>by rw [aC (aG q hn)];exact q) fun c xs q=>by rw [aC (aG q hn)];exact q
   rcases hc with z | z
   ·rw [z];exact nf b u e
   ·exact nf c _ z
noncomputable def Itv (K:PySem.W.Frag) (a:Addr) (n:Nat):It:=
 ⟨fun i H=>∃ xs x,SqL K H a xs∧xs.length=n∧xs.reverse[i]?=some x,fun i H x H'=>H'=H∧∀ xs,SqL K H a xs→xs.reverse[i]?=some x,fun i H=>n≤i⟩
theorem ve {P:Program} {w:World} {K:PySem.W.Frag} {tg:Expr} (a it:Addr) (n:Nat):Turn P w K tg (Itv K a n) [it] it (fun i h=>i≤n∧h.IsRevIter it a ((n:Int)-1-(i:Nat))) where
 mem:=by simp
 obj:=fun i h st b hb=>by
  have e:b=it:=by simpa using hb
  subst e
  obtain ⟨_,o,e,c,d⟩:=st
  exact ⟨o,e,fun v z=>by rw [d] at z;cases z⟩
 keep:=fun i h h' st k=>⟨st.1,st.2.at fun o e=>k it (by simp) o e⟩
 item:=by
  intro X hP hw hK hc i pins s σ H E I hf st hg
  subst hP hw hK
  obtain ⟨xs,x,hq,hl,hx⟩:=hg
  obtain ⟨its,rv,p,hz⟩:=I.list hq
  have hi:i<n:=by
   have:=(List.getElem?_eq_some_iff.mp hx).1
   rw [List.length_reverse,hl] at this
   exact this
  rw [List.getElem?_reverse (by omega),hl] at hx
  obtain ⟨u,hu,ru⟩:=rv.get hx
  obtain ⟨f0,f1,f2,f3,f4,f5⟩:=hf it (by simp)
  obtain ⟨_,st⟩:=st
  have ei:((n:Int)-1-(i:Nat))=((n-1-i:Nat):Int):=by omega
  rw [ei] at st
  refine wpAny_pyNext_rev_item st p.isList (x:=u) (by simpa using hu) fun h' st' sb=>?_
  have ej:((n-1-i:Nat):Int)-1=(n:Int)-1-((i+1:Nat):Int):=by omega
  rw [ej] at st'
  have I1:Inv X pins σ H { s with heap:=h' }:=I.turned (t':=s.toks) (fun b o hb e=>(sb.2 b hb).trans e) f0 f1 f3 f4 f5
  obtain ⟨o,e,c,d⟩:=id st'
  refine ⟨u,rfl,mO (s:={ s with heap:=h' }) e c d (by decide) ⟨x,H,I1,ru,⟨rfl,fun ys hy=>?_⟩,⟨hi,st'⟩,fun b hb=>(hf b hb).1⟩⟩
  rw [I.dN hy hq,List.getElem?_reverse (by omega),hl];exact hx
 done:=by
  intro X hP hw hK hc i pins s σ H E I hf st hg
  subst hP hw hK
  obtain ⟨f0,f1,f2,f3,f4,f5⟩:=hf it (by simp)
  obtain ⟨h1,st⟩:=st
  have h2:n≤i:=hg
  have ei:((n:Int)-1-(i:Nat))=-1:=by omega
  rw [ei] at st
  exact wpAny_pyNext_rev_end (I.ok.hd hc) st fun h' eb=>⟨rfl,I.turned (t':=s.toks) (fun b o hb e=>eb b o hb e) f0 f1 f3 f4 f5⟩
 self:=fun _ _ _ _ _ st h=>wpAny_pyIter_revIter st.2 h
noncomputable def zF (K:PySem.W.Frag) (tl:TE):TI:=fun σ H R=>tl σ H fun x H1=>∃ a xs,x=.ref a∧SqL K H1 a xs∧R (Itv K a xs.length) H1
section
variable {X:Cx} {tg l:Expr} {tl:TE} {p pos:Pos}
theorem vf {Q:Value→Shared→Prop} {Qx:VK} {pins:List (Addr×Obj)} {s:Shared} {σ:L2.St} {H:Hp} (hg:Gl X "reversed") (hm:X.mg "reversed" = none) (hl:PE X l tl) (hs:starEach [l] X.env=[(false,eval l X.env)]) (I:Inv X pins σ H s) (h:tl σ H Qx)
  (k:∀ x H1 s1,Inv X pins σ H1 s1→Qx x H1→∃ a xs,x=.ref a∧SqL X.K H1 a xs∧∀ its:List Value,Vals xs its→PlainL s1.heap a its.toArray→xs.length≤sizeLine→Q (.ref s1.heap.objs.size) { s1 with heap:=s1.heap.push (revObj a ((its.toArray.size:Int)-1)) }) :
  wpAny (model X.prog X.w) X.A (eval (.Call (.Name "reversed" p) [l] [] pos) X.env) Q X.xe s:=by
 refine Call_ (ck I hg hm boot_reversed (PyProof.Rows.callWith_type1 (spliced_more ?_ (by rw [hs];rfl)) (by rw [hs];rfl) rfl))
 refine thn (hl pins s σ H _ I h) fun v s1 ⟨x,H1,I1,r1,q1⟩=>?_
 obtain ⟨a,xs,e,hq,q⟩:=k x H1 s1 I1 q1
 subst e
 cases r1
 obtain ⟨its,rv,pl,hz⟩:=I1.list hq
 refine Calls.spliced_nil (call_reversed_list pl.isList (q its rv pl hz))
theorem Bm (hg:Gl X "reversed") (hm:X.mg "reversed" = none) (hl:PE X l tl) (hs:starEach [l] X.env=[(false,eval l X.env)]:=by rfl):PI X tg (.Call (.Name "reversed" p) [l] [] pos) (zF X.K tl):=by
 intro pins s σ H R I h
 refine vf hg hm hl hs I h fun x H1 s1 I1 q1=>?_
 obtain ⟨a,xs,e,hq,q⟩:=q1
 refine ⟨a,xs,e,hq,fun its rv pl hz=>?_⟩
 have hn:(its.toArray.size:Int)=((xs.length:Nat):Int):=by rw [List.size_toArray,rv.length]
 have st:({ s1 with heap:=s1.heap.push (revObj a ((its.toArray.size:Int)-1)) }:Shared).heap.IsRevIter s1.heap.objs.size a (((xs.length:Nat):Int)-1-((0:Nat):Int)):=⟨_,Heap.get?_push_size _ rfl,rfl,by rw [hn];simp [revObj]⟩
 refine wpAny_pyIter_revIter st ?_
 refine ⟨s1.heap.objs.size,[s1.heap.objs.size],_,_,H1,rfl,I1.kept (t':=s1.toks) fun b o e=>Heap.get?_push_of_some _ e,ve a _ xs.length,⟨Nat.zero_le _,st⟩,fun b hb=>?_,q⟩
 have e:b=s1.heap.objs.size:=by simpa using hb
 subst e
 exact I1.pC (Nat.le_refl _) (I1.hok.fresh (Nat.le_refl _))
end
noncomputable def Itd (hi:Int) (n:Nat):It:=⟨fun i _=>i<n,fun i H x H'=>H'=H∧x=.int (hi-i),fun i _=>n≤i⟩
theorem tG {P:Program} {w:World} {K:PySem.W.Frag} {tg:Expr} (it:Addr) (lo:Int) (n:Nat):Turn P w K tg (Itd lo n) [it] it (fun i h=>IsRangeIter h it (lo+(i:Nat)*(-1)) ((n:Int)-(i:Nat)) (-1)) where
 mem:=by simp
 obj:=fun i h st b hb=>by
  have e:b=it:=by simpa using hb
  subst e
  exact ⟨_,st,fun v z=>by
   have z':Data.fields _=Data.cell v:=z
   cases z'⟩
 keep:=fun i h h' st k=>k it (by simp) _ st
 item:=by
  intro X hP hw hK hc i pins s σ H E I hf st hg
  subst hP hw hK
  obtain ⟨f0,f1,f2,f3,f4,f5⟩:=hf it (by simp)
  have W:=Walks.range (prog:=X.prog) (w:=X.w) (I.ok.hd hc) it lo (-1) n
  refine W.item i s _ _ hg st fun v h' tk hv st' kk=>?_
  obtain ⟨t,rfl⟩:=hv
  have I1:Inv X pins σ H { s with heap:=h',toks:=tk }:=I.turned (fun b o hb e=>kk b o (by simpa using hb) e) f0 f1 f3 f4 f5
  refine ⟨_,rfl,mO (s:={ s with heap:=h',toks:=tk }) (n := "range_iterator") st' rfl rfl (by decide) ⟨.int (lo-i),H,I1,⟨t,?_⟩,⟨rfl,rfl⟩,st',fun b hb=>(hf b hb).1⟩⟩
  have:lo+(i:Int)*(-1)=lo-i:=by omega
  rw [this]
 done:=by
  intro X hP hw hK hc i pins s σ H E I hf st hg
  subst hP hw hK
  obtain ⟨f0,f1,f2,f3,f4,f5⟩:=hf it (by simp)
  exact wpAny_pyNext_range_end (I.ok.hd hc) st (by have:n≤i:=hg;omega) fun h' eb=>⟨rfl,I.turned (t':=s.toks) (fun b o hb e=>eb b o hb e) f0 f1 f3 f4 f5⟩
 self:=fun _ _ _ _ _ st h=>wpAny_pyIter_rangeiter st h
theorem rangeSize_down (a b:Int):Builtin.Range.rangeSize a b (-1)=if b<a then a-b else 0:=by
 unfold Builtin.Range.rangeSize
 simp only [show ¬ ((-1:Int)>0) by decide,if_false]
 have:(-(-1:Int))=1:=by decide
 rw [this]
 simp only [Int.ediv_one]
 split<;>omega
theorem small_down {a b:Int} (ha:-(2 ^ 61)≤a) (ha':a<2 ^ 61) (hb:-(2 ^ 61)≤b) (hb':b<2 ^ 61):Builtin.Range.small a b (-1)=true:=by
 unfold Builtin.Range.small
 rw [rangeSize_down]
 simp only [Builtin.Range.rangeFitsLong,Bool.and_eq_true,Bool.or_eq_true,decide_eq_true_eq,beq_iff_eq,show ¬ ((-1:Int)>0) by decide,if_false]
 split<;>omega
section
variable {X:Cx} {tg:Expr}
noncomputable def zG (ta:TA):TI:=fun σ H R=>ta σ H fun vs H1=>∃ i j:Int,vs=[.int i,.int j,.int (-1)]∧(-(2 ^ 61)≤i∧i<2 ^ 61∧-(2 ^ 61)≤j∧j<2 ^ 61)∧R (Itd i (i-j).toNat) H1
theorem tH {a b c:Expr} {ta:TA} {p pos:Pos} (hg:Gl X "range") (hm:X.mg "range" = none) (ha:PA X [a,b,c] ta) (hs:starEach [a,b,c] X.env=(false,eval a X.env)::starEach [b,c] X.env:=by rfl) (hs2:(backTo pos (starEach [b,c] X.env)).any (·.1)=false:=by rfl) :
  PI X tg (.Call (.Name "range" p) [a,b,c] [] pos) (zG ta):=by
 intro pins s σ H R I h
 refine Call_ (ck I hg hm boot_range (PyProof.Rows.callWith_type1 (thn (ha pos pins s σ H _ I h) fun us s1 ⟨vs,H1,I1,r1,q1⟩=>?_) hs hs2))
 obtain ⟨i,j,e,⟨q1,q2,q3,q4⟩,q⟩:=q1
 subst e
 cases r1 with
 | cons r rr=>
  cases rr with
  | cons r' rr=>
   cases rr with
   | cons r'' rr=>
   cases rr
   obtain ⟨t,rfl⟩:=r
   obtain ⟨t',rfl⟩:=r'
   obtain ⟨t'',rfl⟩:=r''
   refine call_range_3 (by decide) ?_ (Or.inl (PyProof.noPylong_small (by omega)))
   refine wpAny_pyIter_range (IsRange.new ..) (small_down q1 q2 q3 q4) ?_
   have I2:Inv X pins σ H1 { s1 with heap:=s1.heap.push { cls:=.type "range",data:=.fields #[.int i t,.int j t',.int (-1) t''] },toks:=s1.toks }:=I1.kept fun b o e=>Heap.get?_push_of_some _ e
   refine ⟨(s1.heap.push { cls:=.type "range",data:=.fields #[.int i t,.int j t',.int (-1) t''] }).objs.size,[(s1.heap.push { cls:=.type "range",data:=.fields #[.int i t,.int j t',.int (-1) t''] }).objs.size],_,_,H1,rfl,
    I2.kept (t':=s1.toks) fun b o e=>Heap.get?_push_of_some _ e,tG _ i (i-j).toNat,?_,fun b hb=>?_,q⟩
   ·have e1:i+((0:Nat):Int)*(-1)=i:=by omega
    have e2:(((i-j).toNat:Nat):Int)-((0:Nat):Int)=Builtin.Range.rangeSize i j (-1):=by rw [rangeSize_down];split<;>omega
    show IsRangeIter _ _ (i+((0:Nat):Int)*(-1)) ((((i-j).toNat:Nat):Int)-((0:Nat):Int)) (-1)
    rw [e1,e2]
    exact Heap.get?_push_size _ rfl
   ·have e:b=(s1.heap.push { cls:=.type "range",data:=.fields #[.int i t,.int j t',.int (-1) t''] }).objs.size:=by simpa using hb
    subst e
    exact I2.pC (Nat.le_refl _) (I2.hok.fresh (Nat.le_refl _))
end
noncomputable def Ite (K:PySem.W.Frag) (a:Addr):It:=
 ⟨fun i H=>∃ xs x,SqL K H a xs∧xs[i]?=some x,fun i H x H'=>∃ p v,H p=none∧x=.ref p∧H'=upd H p (.tup [.int i,v])∧∀ xs,SqL K H a xs→xs[i]?=some v,fun i H=>∃ xs,SqL K H a xs∧xs.length≤i⟩
theorem tK {P:Program} {w:World} {K:PySem.W.Frag} {elts:List Expr} {x1} {tp:Pos} (a e it:Addr) (hne:e≠it):Turn P w K (.Tuple elts x1 tp) (Ite K a) [e,it] e (fun i h=>(∃ old,IsEnum h e it (i:Nat) old)∧h.IsListIter it a i) where
 mem:=by simp
 obj:=fun i h st b hb=>by
  obtain ⟨⟨old,he⟩,o,e1,c,d⟩:=st
  rcases List.mem_cons.mp hb with rfl | hb
  ·exact ⟨_,he,fun v z=>by
    have z':Data.fields _=Data.cell v:=z
    cases z'⟩
  ·have e2:b=it:=by simpa using hb
   subst e2
   exact ⟨o,e1,fun v z=>by rw [d] at z;cases z⟩
 keep:=fun i h h' st k=>⟨let ⟨old,he⟩:=st.1;⟨old,k e (by simp) _ he⟩,st.2.at fun o z=>k it (by simp) o z⟩
 item:=by
  intro X hP hw hK hc i pins s σ H E I hf st hg
  subst hP hw hK
  obtain ⟨xs,x,hq,hx⟩:=hg
  obtain ⟨its,rv,p,hz⟩:=I.list hq
  obtain ⟨u,hu,ru⟩:=rv.get hx
  obtain ⟨⟨old,he⟩,hit⟩:=st
  refine wpAny_pyNext_enum_item he hit p.isList (x:=u) (by simpa using hu) hne fun h1 heo FA ht1 hz1 hk1=>?_
  refine ⟨_,rfl,wpAny_letOwnedTupleGo_enum heo fun h2 he2 hs2=>?_⟩
  have hlt:e<s.heap.objs.size:=Heap.lt_size he
  have ht2:h2.get? s.heap.objs.size=some { cls:=.type "tuple",data:=.seq #[.int i s.toks,u] }:=(hs2.2 _ (Nat.ne_of_gt hlt)).trans ht1
  have k2:∀ b o,b∉[e,it]→s.heap.get? b=some o→h2.get? b=some o:=fun b o hb z=>by
   have n1:b≠e:=fun y=>hb (by simp [y])
   have n2:b≠it:=fun y=>hb (by simp [y])
   exact (hs2.2 b n1).trans (hk1 b o n1 n2 z)
  have hn:H s.heap.objs.size=none:=I.hok.fresh (Nat.le_refl _)
  have I2:Inv X pins σ (upd H s.heap.objs.size (.tup [.int i,x])) { s with heap:=h2,toks:=s.toks+1 }:=
   kG I hf k2 (Nat.le_refl _) ⟨by simp [sizeLine],[.int i s.toks,u],.cons ⟨s.toks,rfl⟩ (.cons ru .nil),_,ht2,rfl,_,rfl⟩
  refine ⟨.ref s.heap.objs.size,_,I2,rfl,⟨_,x,hn,rfl,rfl,fun ys hy=>by rw [I.dN hy hq];exact hx⟩,⟨⟨u,?_⟩,?_⟩,fun b hb=>?_⟩
  ·have:(((i+1:Nat):Int))=(i:Int)+1:=by omega
   rw [this];exact he2
  ·exact FA.at fun o z=>(hs2.2 it (Ne.symm hne)).trans z
  ·have hb1:b≠s.heap.objs.size:=fun y=>by
    rcases List.mem_cons.mp hb with z | z
    ·rw [y] at z;exact absurd z (Nat.ne_of_gt hlt)
    ·have z':b=it:=by simpa using z
     obtain ⟨o,ho,_⟩:=hit
     have:=Heap.lt_size ho
     rw [← z',y] at this
     exact Nat.lt_irrefl _ this
   rw [aC hb1]
   exact (hf b hb).1
 done:=by
  intro X hP hw hK hc i pins s σ H E I hf st hg
  subst hP hw hK
  obtain ⟨xs,hq,hx⟩:=hg
  obtain ⟨its,rv,p,hz⟩:=I.list hq
  obtain ⟨f0,f1,f2,f3,f4,f5⟩:=hf it (by simp)
  obtain ⟨⟨old,he⟩,hit⟩:=st
  have hl:=rv.length
  exact wpAny_pyNext_enum_end (I.ok.hd hc) he hit p.isList (by simp;omega) fun h' eb=>⟨rfl,I.turned (t':=s.toks) (fun b o hb e=>eb b o hb e) f0 f1 f3 f4 f5⟩
 self:=fun A i s Q E st h=>by
  obtain ⟨⟨old,he⟩,hit⟩:=st
  have hT:s.TypeIs (.ref e) "enumerate" := ⟨_,he,rfl⟩
  refine wpAny_pyIter_slot hT F.slot_enumerate_iter (wpAny_call_entry F.slot_enumerate_iter hT F.entry_enumerate_iter ?_ (F.args_enumerate_iter_1 _))
  show wpAny _ _ (ret (.ref e)) _ _ s
  exact wpAny_pure ⟨_,rfl,"enumerate",_,hT,F.slot_enumerate_next.lookup,h⟩
noncomputable def DF (K:PySem.W.Frag) (tl:TE):TI:=fun σ H R=>tl σ H fun x H1=>∃ a,x=.ref a∧(∃ xs,SqL K H1 a xs)∧R (Ite K a) H1
section
variable {X:Cx} {l:Expr} {tl:TE} {p pos:Pos} {elts:List Expr} {x1:Nat} {tp:Pos}
theorem yt (hg:Gl X "enumerate") (hm:X.mg "enumerate" = none) (hl:PE X l tl) (hs:starEach [l] X.env=[(false,eval l X.env)]:=by rfl):PI X (.Tuple elts x1 tp) (.Call (.Name "enumerate" p) [l] [] pos) (DF X.K tl):=by
 intro pins s σ H R I h
 refine Call_ (ck I hg hm boot_enumerate (PyProof.Rows.callWith_type1 (spliced_more ?_ (by rw [hs];rfl)) (by rw [hs];rfl) rfl))
 refine thn (hl pins s σ H _ I h) fun v s1 ⟨x,H1,I1,r1,q1⟩=>?_
 obtain ⟨a,e,⟨xs,hq⟩,q⟩:=q1
 subst e
 cases r1
 obtain ⟨its,rv,pl,hz⟩:=I1.list hq
 refine Calls.spliced_nil (call_enumerate_list pl.isList fun h' he hit hsz k=>?_)
 have I2:Inv X pins σ H1 { s1 with heap:=h' }:=I1.kept (t':=s1.toks) k
 have T:=tK (P:=X.prog) (w:=X.w) (K:=X.K) (elts:=elts) (x1:=x1) (tp:=tp) a (s1.heap.objs.size+1) s1.heap.objs.size (Nat.succ_ne_self _)
 refine T.self X.A 0 { s1 with heap:=h' } _ X.xe ⟨⟨_,he⟩,hit⟩ ?_
 refine ⟨s1.heap.objs.size+1,[s1.heap.objs.size+1,s1.heap.objs.size],_,_,H1,rfl,I2,T,⟨⟨_,he⟩,hit⟩,fun b hb=>?_,q⟩
 have:s1.heap.objs.size≤b:=by
  rcases List.mem_cons.mp hb with rfl | hb
  ·exact Nat.le_succ _
  ·have:b=s1.heap.objs.size:=by simpa using hb
   exact Nat.le_of_eq this.symm
 exact I1.pC this (I1.hok.fresh this)
end
theorem pS:typeLookup (.type "list_reverseiterator") "__len__" = pure none:=by rw [typeLookup_type,builtinLookup_eq_fast];kernel_rfl
theorem vg:typeLookup (.type "list_reverseiterator") "__length_hint__" = pure (some (.builtin "list_reverseiterator.__length_hint__")):=by rw [typeLookup_type,builtinLookup_eq_fast];kernel_rfl
section
variable {prog:Program} {w:World} {A:Around} {E:Value→Shared→Prop} {s:Shared}
theorem vh {I l:Addr} {i:Int} {Q:Bool→Shared→Prop} (hit:s.heap.IsRevIter I l i) (h:Q false s):wpAny (model prog w) A (Builtin.List.listLengthHint (.ref I)) Q E s:=by
 unfold Builtin.List.listLengthHint
 refine wpAny_bind (wpAny_specialOf hit.typeIs pS ?_)
 show wpAny _ A (specialOf (Value.ref I) (Str.ofString "__length_hint__") >>= _) _ _ _
 refine wpAny_bind (wpAny_specialOf hit.typeIs vg ?_)
 generalize hid:("list_reverseiterator.__length_hint__" : String)=id0
 wp_delta
 rw [show splitId id0=some ("list_reverseiterator","__length_hint__") from by subst hid;decide +kernel]
 subst hid
 refine wpAny_bind (wpAny_isInstance (T := "list_reverseiterator") (b:=true) hit.typeIs (by rw [isSubtype_type];kernel_rfl) ?_)
 refine wpAny_ite_split (fun hab=>absurd hab (by decide)) (fun _=>?_)
 refine wpAny_ite_split (fun _=>?_) (fun hab=>absurd (by decide +kernel) hab)
 refine wpAny_ite_split (fun hab=>absurd hab (by decide +kernel)) (fun _=>wpAny_pure h)
theorem pT {R:Result→Shared→Prop} {I l:Addr} {items:Array Value} (hh:A.handled=none) (hit:s.heap.IsRevIter I l ((items.size:Int)-1)) (hl:s.heap.IsList l items) (hne:l≠I) (hlen:items.size≤sizeLine)
  (S:Addr) (res:Value) (c₀:Nat) (hSI:S≠I) (hSl:S≠l) (hS:s.heap.get? S=some { cls:=.type "list",data:=.seq #[] c₀ })
  (hR:∀ h' tk acc' c',(∀ b o,b≠S→b≠I→s.heap.get? b=some o→h'.get? b=some o)→h'.get? S=some { cls:=.type "list",dict:=none,data:=.seq acc' c',slots:=#[] } →
   ItemsOf (fun i v=>items[items.size-1-i]?=some v) acc' items.size→R (.ok (.ret res)) { s with heap:=h',toks:=tk }) :
  wpAny (model prog w) A.in1 (Builtin.List.listExtendWith (.ref S) (.ref I) res)
   (fun fin s'=>match fin with | .done f=>R (.ok f) s' | .again c'=>c'.quiet=true∧codeAny (model prog w) A c' R s') (fun e s'=>R (.error e) s') s:=by
 have hSf:S∉[I,l]:=fun hm=>by
  rcases List.mem_cons.mp hm with z | z
  ·exact hSI z
  ·exact hSl (List.mem_singleton.mp z)
 have W:=(Walks.listRev (prog:=prog) (w:=w) (A:=A.in1) hh I l hne items).toS
 unfold Builtin.List.listExtendWith
 refine wpAny_bind (wpAny_typeOf (T := "list_reverseiterator") hit.typeIs ?_)
 have h1:Builtin.List.listSameRef (.ref S) (.ref I)=false:=by simp [Builtin.List.listSameRef,hSI]
 have h2:(Value.type "list_reverseiterator" == Value.type "list")=false:=by decide
 have h3:(Value.type "list_reverseiterator" == Value.type "tuple")=false:=by decide
 simp only [h1,h2,h3,Bool.or_false,Bool.false_eq_true,if_false]
 refine wpAny_bind (wpAny_pyIter_revIter hit ?_)
 refine wpAny_bind (wpAny_holding (vh hit ?_))
 refine wpAny_ite_split (fun hab=>absurd hab (by decide +kernel)) (fun _=>wpAny_pure ⟨plainId_quiet F.plain_extend_loop _,?_⟩)
 have hst:(0≤items.size)∧s.heap.IsRevIter I l ((items.size:Int)-1-((0:Nat):Int))∧s.heap.IsList l items:=⟨Nat.zero_le _,by simpa using hit,hl⟩
 refine codeAny_extend_loopS W hlen S hSf res items.size 0 _ #[] c₀ rfl (Nat.zero_le _) hst hS (ItemsOf.nil _) fun s' acc' c' hm hS' hacc=>?_
 rw [Moved.eq_with hm]
 refine hR s'.heap s'.toks acc' c' (fun b o hb hb2 e=>hm.heap b o (fun hmem=>?_) e) hS' hacc
 rcases List.mem_cons.mp hmem with e' | hmem
 ·exact hb e'
 ·exact hb2 (List.mem_singleton.mp hmem)
theorem vj {R:Result→Shared→Prop} {I l:Addr} {items:Array Value} (hh:A.handled=none) (hit:s.heap.IsRevIter I l ((items.size:Int)-1)) (hl:s.heap.IsList l items) (hne:l≠I) (hlen:items.size≤sizeLine)
  (S:Addr) (hSI:S≠I) (hSl:S≠l) (hS:s.heap.get? S=some { cls:=.type "list",data:=.seq #[] })
  (hR:∀ h' tk acc' c',(∀ b o,b≠S→b≠I→s.heap.get? b=some o→h'.get? b=some o)→h'.get? S=some { cls:=.type "list",dict:=none,data:=.seq acc' c',slots:=#[] } →
   ItemsOf (fun i v=>items[items.size-1-i]?=some v) acc' items.size→R (.ok (.ret .none)) { s with heap:=h',toks:=tk }) :
  wpAny (model prog w) A.in1 (Builtin.«list.__init__» ⟨[.ref S,.ref I],[]⟩)
   (fun fin s'=>match fin with | .done f=>R (.ok f) s' | .again c'=>c'.quiet=true∧codeAny (model prog w) A c' R s') (fun e s'=>R (.error e) s') s:=by
 show wpAny _ A.in1 (do let old ← Builtin.List.listItems (.ref S);Builtin.List.listUpdate (.ref S) (fun _=>#[]);letGo old.toList.reverse;Builtin.List.listExtendWith (.ref S) (.ref I) .none) _ _ s
 refine wpAny_bind ?_
 unfold Builtin.List.listItems
 refine wpAny_bind (wpAny_seqItems hS rfl (wpAny_pure ?_))
 show wpAny _ A.in1 (updateSeq S (fun _=>#[]) >>= fun _=>letGo (#[]:Array Value).toList.reverse >>= fun _=>Builtin.List.listExtendWith (.ref S) (.ref I) .none) _ _ s
 refine wpAny_bind (wpAny_updateSeq hS rfl ?_)
 have hS₂:=Heap.get?_update_self (Obj.mapSeq (fun _=>(#[]:Array Value))) hS rfl
 have oth:∀ b o,b≠S→s.heap.get? b=some o→(s.heap.update S (Obj.mapSeq (fun _=>(#[]:Array Value)))).get? b=some o:=
  fun b o hb e=>(Heap.get?_update_other _ _ (Ne.symm hb)).trans e
 refine wpAny_bind (wpAny_letGo ?_)
 refine pT hh (hit.at fun o e=>oth I o (Ne.symm hSI) e) (hl.at fun o e=>oth l o (Ne.symm hSl) e) hne hlen S .none _ hSI hSl hS₂ fun h' tk acc' c' hk hS' hacc=>?_
 exact hR h' tk acc' c' (fun b o hb hb2 e=>hk b o hb hb2 (oth b o hb e)) hS' hacc
theorem j8 {Q:Value→Shared→Prop} {I l:Addr} {items:Array Value} (hh:A.handled=none) (hit:s.heap.IsRevIter I l ((items.size:Int)-1)) (hl:s.heap.IsList l items) (hne:l≠I) (hlen:items.size≤sizeLine)
  (hQ:∀ h' tk acc' c',(∀ b o,b≠I→s.heap.get? b=some o→h'.get? b=some o)→h'.get? s.heap.objs.size=some { cls:=.type "list",dict:=none,data:=.seq acc' c',slots:=#[] } →
   ItemsOf (fun i v=>items[items.size-1-i]?=some v) acc' items.size→Q (.ref s.heap.objs.size) { s with heap:=h',toks:=tk }) :
  wpAny (model prog w) A (call (.type "list") [.ref I]) Q E s:=by
 refine callType_codes (Q₁:=fun obj s₁=>obj=.ref s.heap.objs.size∧s₁={ s with heap:=s.heap.push { cls:=.type "list",data:=.seq #[] } }) F.called_list (F.typeCall_list_1 _) F.entry_list_init
  (code_list_new _ ⟨rfl,rfl⟩) fun obj s₁ h₁=>?_
 obtain ⟨rfl,rfl⟩:=h₁
 have hS:(s.heap.push { cls:=.type "list",data:=.seq #[] }).get? s.heap.objs.size=some { cls:=.type "list",data:=.seq #[] }:=Heap.get?_push_size _ rfl
 obtain ⟨oi,hoi,_⟩:=id hit
 obtain ⟨ol,hol,_⟩:=id hl
 refine ⟨⟨_,hS,rfl⟩,F.args_list_init_2 _ _,vj (A:=A.in1) hh (hit.at fun o e=>Heap.get?_push_of_some _ e) (hl.at fun o e=>Heap.get?_push_of_some _ e) hne hlen _ (Nat.ne_of_gt (Heap.lt_size hoi)) (Nat.ne_of_gt (Heap.lt_size hol)) hS fun h' tk acc' c' hk hS' hacc=>?_⟩
 exact ⟨rfl,hQ h' tk acc' c' (fun b o hb e=>hk b o (Nat.ne_of_lt (Heap.lt_size e)) hb (Heap.get?_push_of_some _ e)) hS' hacc⟩
end
theorem iO {P:Nat→Value→Prop} {acc:Array Value} {ys:List V} (h:ItemsOf P acc ys.length) (k:∀ i v,P i v→i<ys.length→∃ y,ys[i]?=some y∧RelV y v):Vals ys acc.toList:=by
 have:∀ (ys:List V) (us:List Value),ys.length=us.length→(∀ (i:Nat) (u:Value),us[i]?=some u→∃ y,ys[i]?=some y∧RelV y u)→Vals ys us:=by
  intro ys
  induction ys with
  | nil=>intro us e _;cases us with
   | nil=>exact .nil
   | cons _ _=>cases e
  | cons y ys ih=>intro us e f;cases us with
   | nil=>cases e
   | cons u us=>
    obtain ⟨y',h1,h2⟩:=f 0 u rfl
    cases h1
    exact .cons h2 (ih us (by simpa using e) fun i u' hu=>by simpa using f (i+1) u' (by simpa using hu))
 refine this ys acc.toList (by have:=h.1;simp only [Array.length_toList];exact this.symm) fun i u hu=>?_
 have hu':acc[i]?=some u:=by rw [← Array.getElem?_toList];exact hu
 have hi:i<ys.length:=by
  rw [← h.1]
  exact (Array.getElem?_eq_some_iff.mp hu').1
 exact k i u (h.2 i u hu') hi
noncomputable def Bo (K:PySem.W.Frag) (tl:TE):TE:=fun σ H Q=>tl σ H fun x H1=>∃ a xs,x=.ref a∧SqL K H1 a xs∧∀ q,H1 q=none→Q (.ref q) (upd H1 q (.lst xs.reverse))
noncomputable def DG (ta:TA):TE:=fun σ H Q=>ta σ H fun vs H1=>∃ j:Int,vs=[.int j]∧-(2 ^ 62)≤j∧j≤1000000∧∀ q,H1 q=none→Q (.ref q) (upd H1 q (.lst ((List.range j.toNat).map fun i=>V.int (i:Nat))))
section
variable {X:Cx} {l a:Expr} {tl:TE} {ta:TA} {p pos p0 iP:Pos}
theorem vm (hc:X.calm=true) (hgl:Gl X "list") (hml:X.mg "list" = none) (hg:Gl X "reversed") (hm:X.mg "reversed" = none) (hl:PE X l tl) (hs:starEach [l] X.env=[(false,eval l X.env)]:=by rfl)
  (hs0:starEach [.Call (.Name "reversed" p) [l] [] pos] X.env=[(false,eval (.Call (.Name "reversed" p) [l] [] pos) X.env)]:=by rfl) :
  PE X (.Call (.Name "list" p0) [.Call (.Name "reversed" p) [l] [] pos] [] iP) (Bo X.K tl):=by
 intro pins s σ H Q I h
 refine wpAny_Call_Name_kw (ck I hgl hml boot_list (PyProof.Rows.callWith_type1 (spliced_more ?_ (by rw [hs0];rfl)) (by rw [hs0];rfl) rfl))
 refine vf hg hm hl hs I h fun x H1 s1 I1 q1=>?_
 obtain ⟨a,xs,e,hq,q⟩:=q1
 refine ⟨a,xs,e,hq,fun its rv pl hz=>Calls.spliced_nil ?_⟩
 have hal:a<s1.heap.objs.size:=by
  obtain ⟨o,ho,_⟩:=pl.isList
  exact Heap.lt_size ho
 have hn:=rv.length
 refine j8 (items:=its.toArray) (I.ok.hd hc) ⟨_,Heap.get?_push_size _ rfl,rfl,rfl⟩ (pl.isList.at fun o e=>Heap.get?_push_of_some _ e) (Nat.ne_of_lt hal) (by rw [List.size_toArray,← hn];exact hz) fun h' tk acc' c' hk hS' hacc=>?_
 have hsz:({ s1 with heap:=s1.heap.push (revObj a ((its.toArray.size:Int)-1)) }:Shared).heap.objs.size=s1.heap.objs.size+1:=Heap.size_push ..
 have hp:s1.heap.objs.size≤({ s1 with heap:=s1.heap.push (revObj a ((its.toArray.size:Int)-1)) }:Shared).heap.objs.size:=by rw [hsz];exact Nat.le_succ _
 have vl:Vals xs.reverse acc'.toList:=by
  refine iO (by rw [List.length_reverse,hn,← List.size_toArray];exact hacc) fun i v hv hi=>?_
  rw [List.length_reverse] at hi
  rw [List.size_toArray] at hv
  have hv':its[its.length-1-i]?=some v:=by simpa using hv
  rw [List.getElem?_reverse hi,hn]
  have hlt:=(List.getElem?_eq_some_iff.mp hv').1
  have hx:xs[its.length-1-i]?=some (xs[its.length-1-i]'(by omega)):=List.getElem?_eq_getElem _
  obtain ⟨u,hu,ru⟩:=rv.get hx
  rw [hv'] at hu
  cases hu
  exact ⟨_,hx,ru⟩
 have ok:bw X.prog X.w (upd H1 ({ s1 with heap:=s1.heap.push (revObj a ((its.toArray.size:Int)-1)) }:Shared).heap.objs.size (.lst xs.reverse)) h' ({ s1 with heap:=s1.heap.push (revObj a ((its.toArray.size:Int)-1)) }:Shared).heap.objs.size (.lst xs.reverse):=⟨by rw [List.length_reverse];exact hz,acc'.toList,c',vl,by simpa using hS'⟩
 exact ⟨.ref _,_,I1.laid (t':=tk) (fun b u e=>hk b u (Nat.ne_of_lt (Heap.lt_size e)) (Heap.get?_push_of_some _ e)) hp ok,rfl,q _ (I1.hok.fresh hp)⟩
theorem yu (hc:X.calm=true) (hgl:Gl X "list") (hml:X.mg "list" = none) (hg:Gl X "range") (hm:X.mg "range" = none) (ha:PA X [a] ta) (hs:starEach [a] X.env=[(false,eval a X.env)]:=by rfl)
  (hs0:starEach [.Call (.Name "range" p) [a] [] pos] X.env=[(false,eval (.Call (.Name "range" p) [a] [] pos) X.env)]:=by rfl) :
  PE X (.Call (.Name "list" p0) [.Call (.Name "range" p) [a] [] pos] [] iP) (DG ta):=by
 intro pins s σ H Q I h
 refine wpAny_Call_Name_kw (ck I hgl hml boot_list (PyProof.Rows.callWith_type1 (spliced_more ?_ (by rw [hs0];rfl)) (by rw [hs0];rfl) rfl))
 refine Call_ (ck I hg hm boot_range (PyProof.Rows.callWith_type1 (thn (ha pos pins s σ H _ I h) fun us s1 ⟨vs,H1,I1,r1,q1⟩=>?_) hs rfl))
 obtain ⟨j,e,q1,q2,q⟩:=q1
 subst e
 cases r1 with
 | cons r rr=>
  cases rr
  obtain ⟨t,rfl⟩:=r
  refine call_range_1 (Calls.spliced_nil ?_)
  have hn:Builtin.Range.rangeSize 0 j 1=(j.toNat:Nat):=by rw [rangeSize_one];split<;>omega
  refine call_list_range (n:=j.toNat) (I.ok.hd hc) (IsRange.new ..) (small_one (by omega) (by omega) q1 (by omega)) hn (by omega) fun h' tk acc' c' hk hS' hacc=>?_
  have hsz:(s1.heap.push { cls:=.type "range",data:=.fields #[.int 0 s1.toks,.int j t,.int 1 (s1.toks+1)] }).objs.size=s1.heap.objs.size+1:=Heap.size_push ..
  have hp:s1.heap.objs.size≤(s1.heap.push { cls:=.type "range",data:=.fields #[.int 0 s1.toks,.int j t,.int 1 (s1.toks+1)] }).objs.size:=by rw [hsz];exact Nat.le_succ _
  have vl:Vals ((List.range j.toNat).map fun i=>V.int (i:Nat)) acc'.toList:=by
   refine iO (by rw [List.length_map,List.length_range];exact hacc) fun i v hv hi=>?_
   obtain ⟨t,rfl⟩:=hv
   rw [List.length_map,List.length_range] at hi
   refine ⟨.int (i:Nat),by rw [List.getElem?_map,List.getElem?_range hi];rfl,t,?_⟩
   have:(0:Int)+(i:Int)*1=i:=by omega
   rw [this]
  have ok:bw X.prog X.w (upd H1 (s1.heap.push { cls:=.type "range",data:=.fields #[.int 0 s1.toks,.int j t,.int 1 (s1.toks+1)] }).objs.size (.lst ((List.range j.toNat).map fun i=>V.int (i:Nat)))) h' (s1.heap.push { cls:=.type "range",data:=.fields #[.int 0 s1.toks,.int j t,.int 1 (s1.toks+1)] }).objs.size (.lst ((List.range j.toNat).map fun i=>V.int (i:Nat))):=
   ⟨by rw [List.length_map,List.length_range,sizeLine_eq];omega,acc'.toList,c',vl,by simpa using hS'⟩
  exact ⟨.ref _,_,I1.laid (t':=tk) (fun b u e=>hk b u (Heap.get?_push_of_some _ e)) hp ok,rfl,q _ (I1.hok.fresh hp)⟩
end
theorem aE.rev {H:Hp} {xs:List V} {ds:List Dm.Dat} (h:aE H xs ds):aE H xs.reverse ds.reverse:=by
 induction xs generalizing ds with
 | nil=>cases h;exact .nil
 | cons x xs ih=>
  cases h with
  | cons r rs=>rw [List.reverse_cons,List.reverse_cons];exact (ih rs).append (.cons r .nil)
theorem Bp {K:PySem.W.Frag} {H0:Hp} {a:Addr} {xs:List V} {ds:List Dm.Dat} (hq:Rd H0 a (.lst xs)) (rs:aE H0 xs ds):JW (Itv K a xs.length) H0 ds.reverse:=by
 intro H0' H s0 s1
 have q:SqL K H a xs:=.inl (ao.rd s1 (ao.rd s0 hq))
 refine ⟨fun i hi=>by rw [List.length_reverse,← rs.length] at hi;exact hi,fun i d e=>?_⟩
 obtain ⟨v,hv,rv⟩:=rs.rev.get e
 refine ⟨⟨xs,v,q,rfl,hv⟩,fun x H' y=>?_⟩
 obtain ⟨e1,y⟩:=y
 subst e1
 have z:=y xs q
 rw [hv] at z
 cases z
 exact ⟨H0',aJ.refl s1,rv.mono s0⟩
theorem yw {H0:Hp} {hi:Int} {n:Nat}:JW (Itd hi n) H0 (Dm.downs hi n):=by
 intro H0' H s0 s1
 have el:(Dm.downs hi n).length=n:=by simp [Dm.downs]
 refine ⟨fun i hi=>by rw [el] at hi;exact hi,fun i d e=>?_⟩
 have hlt:i<n:=by have:=(List.getElem?_eq_some_iff.mp e).1;rw [el] at this;exact this
 have hd:d=.int (hi-i):=by
  unfold Dm.downs at e
  rw [List.getElem?_map,List.getElem?_range hlt] at e
  exact (Option.some.inj e).symm
 refine ⟨hlt,fun x H' y=>?_⟩
 obtain ⟨rfl,rfl⟩:=y
 subst hd
 exact ⟨H0',aJ.refl s1,.int _⟩
theorem ni:∀ (ds:List Dm.Dat) (i:Nat),(Dm.gq i ds).length=ds.length
 | [],_=>rfl
 | _::ds,i=>by simp [Dm.gq,ni ds]
theorem nj:∀ (ds:List Dm.Dat) (i j:Nat) (d:Dm.Dat),(Dm.gq i ds)[j]?=some d→∃ x,ds[j]?=some x∧d=.tup [.int ((i+j:Nat):Int),x]
 | [],_,_,_,h=>by cases h
 | x::ds,i,0,d,h=>by cases h;exact ⟨x,rfl,rfl⟩
 | x::ds,i,j+1,d,h=>by
  obtain ⟨y,h1,h2⟩:=nj ds (i+1) j d h
  refine ⟨y,h1,?_⟩
  rw [h2]
  have:i+1+j=i+(j+1):=by omega
  rw [this]
theorem yx {K:PySem.W.Frag} {H0:Hp} {a:Addr} {xs:List V} {ds:List Dm.Dat} (hq:Rd H0 a (.lst xs)) (rs:aE H0 xs ds):JW (Ite K a) H0 (Dm.gq 0 ds):=by
 intro H0' H s0 s1
 have q:SqL K H a xs:=.inl (ao.rd s1 (ao.rd s0 hq))
 refine ⟨fun i hi=>⟨xs,q,by rw [rs.length,← ni ds 0];exact hi⟩,fun i d e=>?_⟩
 obtain ⟨d',hd,rfl⟩:=nj ds 0 i d e
 obtain ⟨v,hv,rv⟩:=rs.get hd
 refine ⟨⟨xs,v,q,hv⟩,fun x H' y=>?_⟩
 obtain ⟨p,v',hn,rfl,rfl,y⟩:=y
 have z:=y xs q
 rw [hv] at z
 cases z
 have g:=aJ.x_ (o:=HO.tup [.int i,v]) s1 hn
 refine ⟨_,g,.tup aD (.cons ?_ (.cons ((rv.mono s0).mono g.s0) .nil))⟩
 rw [Nat.zero_add]
 exact .int _
section
variable {σ:L2.St} {H:Hp} {R:It→Hp→Prop}
theorem Bq {K:PySem.W.Frag} {f:Dm.FE} (h:tDI (Dm.tF f) σ H R):zF K (tD f) σ H R:=by
 obtain ⟨H0,ρ,ys,ρ',st,e,k⟩:=h
 unfold Dm.tF at e
 split at e
 ·cases e
 rename_i x ρ1 e1
 split at e
 ·rename_i ds ρ2 e2
  cases e
  refine ⟨H0,ρ,_,ρ1,st,e1,fun v H0' H' t r=>?_⟩
  obtain ⟨H1,t1,b1,r1,_,_⟩:=take1 t (ao.refl _) r e2
  cases r1 with
  | lst q rs=>exact ⟨_,_,rfl,.inl (ao.rd t1.st.same q),k _ H1 H' t1 (Bp q rs)⟩
 ·cases e
theorem DH {K:PySem.W.Frag} {f:Dm.FE} (h:tDI (Dm.iEn f) σ H R):DF K (tD f) σ H R:=by
 obtain ⟨H0,ρ,ys,ρ',st,e,k⟩:=h
 unfold Dm.iEn at e
 split at e
 ·cases e
 rename_i x ρ1 e1
 split at e
 ·rename_i ds ρ2 e2
  cases e
  refine ⟨H0,ρ,_,ρ1,st,e1,fun v H0' H' t r=>?_⟩
  obtain ⟨H1,t1,b1,r1,_,_⟩:=take1 t (ao.refl _) r e2
  cases r1 with
  | lst q rs=>exact ⟨_,rfl,⟨_,.inl (ao.rd t1.st.same q)⟩,k _ H1 H' t1 (yx q rs)⟩
 ·cases e
theorem DJ {f g c:Dm.FE} (h:tDI (Dm.iRd f g c) σ H R):zG (tDA [f,g,c]) σ H R:=by
 obtain ⟨H0,ρ,ys,ρ',st,e,k⟩:=h
 unfold Dm.iRd at e
 split at e
 ·rename_i i ρ1 e1
  split at e
  ·rename_i j ρ2 e2
   split at e
   ·rename_i l ρ3 e3
    split at e
    ·rename_i hb
     cases e
     refine ⟨H0,ρ,[.val (.int i),.val (.int j),.val (.int l)],_,st,by simp only [Dm.eAs,e1,e2,e3];rfl,fun vs H0' H' t r=>?_⟩
     cases r with
     | cons r rr=>
      cases rr with
      | cons r' rr=>
       cases rr with
       | cons r'' rr=>
        cases rr
        cases Rep.isInt r
        cases Rep.isInt r'
        cases Rep.isInt r''
        obtain ⟨h0,h1,h2,h3,h4⟩:=hb
        subst h0
        unfold Dm.BIG at h1 h2 h3 h4
        exact ⟨i,j,rfl,⟨by omega,by omega,by omega,by omega⟩,k _ H0' H' t yw⟩
    ·cases e
   ·cases e
  ·cases e
 ·cases e
end
theorem vn {K:PySem.W.Frag}:UnD (fun x H Q=>∃ a xs,x=.ref a∧SqL K H a xs∧∀ q,H q=none→Q (.ref q) (upd H q (.lst xs.reverse))) Dm.e_:=by
 intro H0 H x dx z Q s rx e k
 unfold Dm.e_ at e
 split at e
 ·cases e
  obtain ⟨a,us,rfl,qa,ra⟩:=bx s rx
  exact ⟨a,us,rfl,.inl qa,fun p hp=>k _ _ _ (aJ.j7 s hp) ⟨p,rfl,hp,s.free hp,_,aD,ra.rev⟩⟩
 ·cases e
theorem vp {H:Hp}:∀ (n:Nat) ,aE H ((List.range n).map fun i=>V.int (i:Nat)) (Dm.ups 0 n):=by
 intro n
 unfold Dm.ups
 have:∀ l:List Nat,aE H (l.map fun i=>V.int (i:Nat)) (l.map fun i=>Dm.Dat.int (0+(i:Nat))):=fun l=>by
  induction l with
  | nil=>exact .nil
  | cons x l ih=>rw [List.map_cons,List.map_cons,Int.zero_add];exact .cons (.int _) ih
 exact this _
theorem yz:CallD (fun xs H Q=>∃ j:Int,xs=[.int j]∧-(2 ^ 62)≤j∧j≤1000000∧∀ q,H q=none→Q (.ref q) (upd H q (.lst ((List.range j.toNat).map fun i=>V.int (i:Nat))))) Dm.iN:=by
 intro H0 H xs ds z Q s rx e k
 unfold Dm.iN at e
 split at e
 ·rename_i j
  split at e
  ·rename_i hb
   cases e
   cases rx with
   | cons r rr=>
    cases rr
    cases av r
    exact ⟨j,rfl,by omega,hb.1,fun p hp=>k _ _ _ (aJ.j7 s hp) ⟨p,rfl,hp,s.free hp,_,aD,vp _⟩⟩
  ·cases e
 ·cases e
section
variable {X:Cx} {tg e a b c:Expr} {f fa fb fc:Dm.FE} {p pos p0 iP:Pos} {elts:List Expr} {x1:Nat} {tp:Pos}
theorem DK (hg:Gl X "reversed") (hm:X.mg "reversed" = none) (h:DE X e f) (hs:starEach [e] X.env=[(false,eval e X.env)]:=by rfl):DI X tg (.Call (.Name "reversed" p) [e] [] pos) (Dm.tF f):=PI.weak (Bm hg hm h hs) fun _ _ _=>Bq
theorem DL (hg:Gl X "enumerate") (hm:X.mg "enumerate" = none) (h:DE X e f) (hs:starEach [e] X.env=[(false,eval e X.env)]:=by rfl):DI X (.Tuple elts x1 tp) (.Call (.Name "enumerate" p) [e] [] pos) (Dm.iEn f):=PI.weak (yt hg hm h hs) fun _ _ _=>DH
theorem FD (hg:Gl X "range") (hm:X.mg "range" = none) (ha:DA X [a,b,c] [fa,fb,fc]) (hs:starEach [a,b,c] X.env=(false,eval a X.env)::starEach [b,c] X.env:=by rfl) (hs2:(backTo pos (starEach [b,c] X.env)).any (·.1)=false:=by rfl) :
  DI X tg (.Call (.Name "range" p) [a,b,c] [] pos) (Dm.iRd fa fb fc):=PI.weak (tH hg hm ha hs hs2) fun _ _ _=>DJ
theorem rm (hc:X.calm=true) (hgl:Gl X "list") (hml:X.mg "list" = none) (hg:Gl X "reversed") (hm:X.mg "reversed" = none) (h:DE X e f) (hs:starEach [e] X.env=[(false,eval e X.env)]:=by rfl)
  (hs0:starEach [.Call (.Name "reversed" p) [e] [] pos] X.env=[(false,eval (.Call (.Name "reversed" p) [e] [] pos) X.env)]:=by rfl) :
  DE X (.Call (.Name "list" p0) [.Call (.Name "reversed" p) [e] [] pos] [] iP) (Dm.e1 Dm.e_ f):=PE.weak (vm hc hgl hml hg hm h hs hs0) fun _ _ _=>C0 vn
theorem vq (hc:X.calm=true) (hgl:Gl X "list") (hml:X.mg "list" = none) (hg:Gl X "range") (hm:X.mg "range" = none) (h:DA X [a] [fa]) (hs:starEach [a] X.env=[(false,eval a X.env)]:=by rfl)
  (hs0:starEach [.Call (.Name "range" p) [a] [] pos] X.env=[(false,eval (.Call (.Name "range" p) [a] [] pos) X.env)]:=by rfl) :
  DE X (.Call (.Name "list" p0) [.Call (.Name "range" p) [a] [] pos] [] iP) (Dm.eB Dm.iN [fa]):=PE.weak (yu hc hgl hml hg hm h hs hs0) fun _ _ _=>AW yz
end
end Br
namespace Dm
noncomputable def b8 (i:Nat) (own:Nat) (bd:FB) (t:FT) (el:FE):FE:=fun ρ=>match ρ[i]? with
 | some (.ow (.lst ds))=>if ds.length≤SZ then (match cL bd t el ds (ρ.set i .un++List.replicate own .un) [] with
  | none=>none
  | some (ys,ρ2)=>some (.new (.lst ys),(ρ2.take ρ.length).set i (.ow (.lst ds)))) else none
 | _=>bO (iS (eV i)) own bd t el ρ
end Dm
namespace Br
open PySem PySem.Spec PyProof.Rows L2
theorem vt {K:PySem.W.Frag} {H0:Hp} {a:Addr} {xs:List V} {ds:List Dm.Dat} (rs:aE H0 xs ds):JWa (Itl K a) H0 (some (a,.lst xs)) ds:=by
 intro H0' H s0 s1 hq
 have hq:=hq _ rfl
 have q:SqL K H a xs:=.inl (.inl hq)
 refine ⟨fun i hi=>⟨xs,q,by rw [rs.length];exact hi⟩,fun i d e=>?_⟩
 obtain ⟨v,hv,rv⟩:=rs.get e
 refine ⟨⟨xs,v,q,hv⟩,fun x H' y=>?_⟩
 obtain ⟨e1,y⟩:=y
 subst e1
 have z:=y xs q
 rw [hv] at z
 cases z
 exact ⟨H0',aJ.refl s1,rv.mono s0⟩
theorem rq {K:PySem.W.Frag} {σ:L2.St} {H:Hp} {i own:Nat} {bd:Dm.FB} {g:TG} {t:Dm.FT} {el:Dm.FE} {is:List Nat} {Q:VK} (hb:BD is g bd) (hl:∀ i∈is,σ.length≤i) (h:tD (Dm.b8 i own bd t el) σ H Q) :
  tLC (fun σ H R=>mP K (tD (Dm.eV i)) σ H R∨ux K (tD (Dm.eV i)) σ H R) own g (tDT t) (tD el) σ H Q:=by
 obtain ⟨H0,ρ,x,ρ',st,e,k⟩:=h
 unfold Dm.b8 at e
 split at e
 ·rename_i ds eo
  split at e
  case isFalse=>cases e
  rename_i hsz
  split at e
  ·cases e
  rename_i ys ρ2 e2
  cases e
  refine .inl ⟨H0,ρ,.slot i,ρ,st,by unfold Dm.eV;rw [eo],fun v H0' H' t1 r=>?_⟩
  obtain ⟨a,qa,na,xs,ha,rs⟩:=t1.st.ow i _ eo
  obtain ⟨r1,_⟩:=r
  rw [qa] at r1
  cases r1
  have nO:¬ ak σ (ρ.set i .un) a:=fun z=>by
   obtain ⟨j,d,hj,h1,h2⟩:=bZ z
   exact hj (t1.st.dis j i d _ a h1 eo h2 qa)
  have hlt:i<ρ.length:=(List.getElem?_eq_some_iff.mp eo).1
  refine ⟨a,rfl,⟨xs,.inl (.inl ha)⟩,fun D hD=>m7 hb hl (t1.st.mask i) (fun q e=>by cases e;exact ⟨ha,na,nO⟩) (vt rs) hsz e2 (fun v H1 Hc t2 r2 hpa=>?_) D hD⟩
  obtain ⟨ha2,na2⟩:=hpa _ rfl
  rw [List.length_set] at t2 r2
  have oo:∀ b,ak σ ((ρ2.take ρ.length).set i (.ow (.lst ds))) b→b=a∨ak σ (ρ2.take ρ.length) b:=fun b ⟨j,d,h1,h2⟩=>by
   by_cases q:i=j
   ·subst q;rw [qa] at h2;cases h2;exact .inl rfl
   ·rw [List.getElem?_set_ne q] at h1;exact .inr ⟨j,d,h1,h2⟩
  have om:∀ b,ak σ (ρ.set i .un) b→ak σ ρ b:=fun b z=>by
   obtain ⟨j,d,hj,h1,h2⟩:=bZ z
   exact ⟨j,d,h1,h2⟩
  have oa:ak σ ρ a:=⟨i,_,eo,qa⟩
  have nO2:¬ ak σ (ρ2.take ρ.length) a:=fun z=>nO (t2.own a z)
  have vv:(ρ2.take ρ.length).length=ρ.length:=by rw [← t2.st.len,st.len]
  refine k v H1 Hc (t1.trans ⟨⟨t2.st.same,by rw [List.length_set];exact t2.st.len,fun j d h=>?_,fun j d h=>?_,fun j j' d d' b h1 h2 h3 h4=>?_⟩,t2.stp.wide om,fun b z=>?_,fun j z=>?_⟩) ?_
  ·by_cases q:i=j
   ·subst q;rw [List.getElem?_set_self (by rw [vv];exact hlt)] at h;cases h
   ·rw [List.getElem?_set_ne q] at h;exact t2.st.sh j d h
  ·by_cases q:i=j
   ·subst q
    rw [List.getElem?_set_self (by rw [vv];exact hlt)] at h
    cases h
    exact ⟨a,qa,na2,xs,ha2,rs.mono t2.stp.s0⟩
   ·rw [List.getElem?_set_ne q] at h;exact t2.st.ow j d h
  ·by_cases q:i=j
   ·subst q
    by_cases q':i=j'
    ·exact q'
    ·rw [List.getElem?_set_ne q'] at h2
     rw [qa] at h3;cases h3
     exact absurd ⟨j',d',h2,h4⟩ nO2
   ·rw [List.getElem?_set_ne q] at h1
    by_cases q':i=j'
    ·subst q'
     rw [qa] at h4;cases h4
     exact absurd ⟨j,d,h1,h3⟩ nO2
    ·rw [List.getElem?_set_ne q'] at h2
     exact t2.st.dis j j' d d' b h1 h2 h3 h4
  ·rcases oo b z with rfl | z
   ·exact oa
   ·exact om b (t2.own b z)
  ·trivial
  ·obtain ⟨D',e',n',no',n0',w'⟩:=r2
   refine ⟨D',e',t1.stp.gone n',fun z=>?_,n0',w'⟩
   rcases oo D' z with rfl | z
   ·rw [n'] at ha;cases ha
   ·exact no' z
 ·have h2:=pQ (fi:=Dm.iS (Dm.eV i)) hb hl ⟨H0,ρ,x,ρ',st,e,k⟩
  exact DC h2
section
variable {X:Cx} {elt tg:Expr} {ifs:List Expr} {scope:Scope} {pos px:Pos} {bd:Dm.FB} {is:List Nat} {t:Dm.FT} {f:Dm.FE} {x:Str}
theorem i_M (i:Nat) (h:DE X (.Name x px) (Dm.eV i)):PI X tg (.Name x px) (fun σ H R=>mP X.K (tD (Dm.eV i)) σ H R∨ux X.K (tD (Dm.eV i)) σ H R):=PI.or (qJ h) (uy h)
theorem nk (i:Nat) (nm own:List Str) (hg:TGc X nm scope own tg is bd) (hi:DE X (.Name x px) (Dm.eV i)) (ht:∀ cl C s H fp,DTs (aS X nm scope own cl C s H fp) ifs t) (he:∀ cl C s H fp,DE (aS X nm scope own cl C s H fp) elt f)
  (hc:X.calm=true:=by rfl) (hk:scope.kind=.function:=by rfl) (hS:kF X.env.scope X.N nm scope=true:=by rfl) (hl:(is.all fun i=>decide (X.N.length≤i))=true:=by rfl) (hs:∀ y,foldedSetIterable (.Name x px) X.env y=pure y:=by intro _;rfl) :
  DE X (.ListComp elt [⟨tg,.Name x px,ifs,0⟩] scope pos) (Dm.b8 i own.length bd t f):=by
 obtain ⟨g,h1,h2⟩:=hg.ex
 intro pins s σ H Q I h
 exact qU hc (cG.of hS hk) (i_M i hi) h1 ht he hs pins s σ H Q I (rq h2 (fun i hi=>by rw [I.len];exact rj hl i hi) h)
theorem DM (j i:Nat) (nm own:List Str) {y:Str} {py spos:Pos} (hN:X.N.Nodup) (hg:TGc X nm scope own tg is bd) (hi:DE X (.Name x px) (Dm.eV i)) (ht:∀ cl C s H fp,DTs (aS X nm scope own cl C s H fp) ifs t) (he:∀ cl C s H fp,DE (aS X nm scope own cl C s H fp) elt f)
  (hc:X.calm=true:=by rfl) (hk:scope.kind=.function:=by rfl) (hS:kF X.env.scope X.N nm scope=true:=by rfl) (hl:(is.all fun i=>decide (X.N.length≤i))=true:=by rfl) (hj:X.N[j]?=some y:=by rfl) (hy:Loc X.env.scope y:=by first | exact Or.inl rfl | exact Or.inr rfl)
  (hsw:swapsWith (.ListComp elt [⟨tg,.Name x px,ifs,0⟩] scope pos) (some (.Name y py)) spos.line X.env=pure true:=by rfl) (hs:∀ y,foldedSetIterable (.Name x px) X.env y=pure y:=by intro _;rfl)
  (hf:X.fn y=true∨X.env.scope.names.lookup y=some .local:=by first | exact .inl rfl | exact .inr rfl | assumption):DS X (.Assign [.Name y py] (.ListComp elt [⟨tg,.Name x px,ifs,0⟩] scope pos) spos) (Dm.sA j (Dm.b8 i own.length bd t f)):=by
 obtain ⟨g,h1,h2⟩:=hg.ex
 intro pins s σ H D I h
 exact g7 hN hj hy hc (cG.of hS hk) (i_M i hi) h1 ht he hsw hs hf pins s σ H D I (rq h2 (fun i hi=>by rw [I.len];exact rj hl i hi) (uR h))
end
end Br
namespace Dm
noncomputable def eT:List Dat→List Dat→List Dat
 | x::xs,y::ys=>.tup [x,y]::eT xs ys
 | _,_=>[]
noncomputable def yC (a b:FE):FI:=fun ρ=>match eAs [a,b] ρ with
 | some (vs,ρ1)=>(match tks ρ1 vs with
  | some ([.lst xs,.lst ys],ρ2)=>some (eT xs ys,ρ2)
  | _=>none)
 | none=>none
end Dm
namespace Br
open PySem PySem.Spec PyProof.Rows L2
theorem pU {X:Cx} {pins:List (Addr×Obj)} {σ:L2.St} {H:Hp} {s:Shared} {h':Heap} {t':Nat} {fp:List Addr} (I:Inv X pins σ H s) (hf:∀ b∈fp,j0 X pins H b)
  (k:∀ b u,b∉fp→s.heap.get? b=some u→h'.get? b=some u):Inv X pins σ H { s with heap:=h',toks:=t' }:=by
 have nf:∀ b u,H b=some u→b∉fp:=fun b u e z=>by rw [(hf b z).1] at e;cases e
 have nL:X.env.locals∉fp:=fun z=>(hf _ z).2.1 rfl
 refine I.step (g':=s.gens) (d':=s.drawn) (ch:=fp) (fun b hb=>?_) (fun b u _ _ hc e _=>k b u hc e) (fun b u _ _ hc e _=>⟨u.slots,k b u hc e⟩)
  (fun b u _ e n=>n) (fun b u hc e=>⟨u,k b u hc e⟩)
  (fun b xs q=>q) (fun b u xs q=>q) (fun b ps q=>⟨#[],by rw [q];simp⟩) (fun m hm=>?_) (fun b u e=>?_) I.bare
 ·obtain ⟨f0,f1,f2,f3,f4,f5⟩:=hf b hb
  exact ⟨f3,f1,f4,f5⟩
 ·obtain ⟨o,es,ep,ho,r⟩:=hm
  exact ⟨o,es,ep,k _ o nL ho,r⟩
 ·refine (I.hok b u e).stay (fun c v hc q=>k c v ?_ q) (fun c q=>q) fun c xs q=>q
  rcases hc with z | z
  ·rw [z];exact nf b u e
  ·exact nf c _ z
noncomputable def Itz (K:PySem.W.Frag) (a b:Addr):It:=
 ⟨fun i H=>∃ xs ys x y,SqL K H a xs∧SqL K H b ys∧xs[i]?=some x∧ys[i]?=some y,
  fun i H r H'=>∃ p x y,H p=none∧r=.ref p∧H'=upd H p (.tup [x,y])∧(∀ xs,SqL K H a xs→xs[i]?=some x)∧∀ ys,SqL K H b ys→ys[i]?=some y,
  fun i H=>∃ xs ys,SqL K H a xs∧SqL K H b ys∧(xs.length≤i∨ys.length≤i)⟩
theorem dZ {h:Heap} {a b:Addr} {o o':Obj} (ha:h.get? a=some o) (hb:h.get? b=some o') (n:o.cls≠o'.cls):a≠b:=fun z=>by
 subst z
 rw [ha] at hb
 cases hb
 exact n rfl
structure lM (z TI TO i1 i2:Addr):Prop where
 TIz:TI≠z
 TOz:TO≠z
 i1z:i1≠z
 i2z:i2≠z
 TITO:TI≠TO
 TIi1:TI≠i1
 TIi2:TI≠i2
 TOi1:TO≠i1
 TOi2:TO≠i2
 i12:i1≠i2
noncomputable def vz (a b z TI TO i1 i2:Addr) (i:Nat) (h:Heap):Prop:=IsZip h z TI TO .none∧IsPair h TI (.ref i1) (.ref i2)∧(∃ x y,IsPair h TO x y)∧h.IsListIter i1 a i∧h.IsListIter i2 b i
theorem nq {h:Heap} {a b z TI TO i1 i2:Addr} {i:Nat} {xs ys:Array Value} (F:lM z TI TO i1 i2) (st:vz a b z TI TO i1 i2 i h) (ha:h.IsList a xs) (hb:h.IsList b ys):ZipApart z TI TO i1 i2 a b:=by
 obtain ⟨s1,s2,⟨x,y,s3⟩,s4,s5⟩:=st
 obtain ⟨o4,e4,c4,_⟩:=s4
 obtain ⟨o5,e5,c5,_⟩:=s5
 obtain ⟨oa,ea,ca,_⟩:=ha
 obtain ⟨ob,eb,cb,_⟩:=hb
 have d:∀ {n m:String},n≠m→(Value.type n)≠(Value.type m):=fun q z=>q (by injection z)
 exact ⟨F.TIz,F.TOz,F.i1z,F.i2z,F.TITO,F.TIi1,F.TIi2,F.TOi1,F.TOi2,F.i12,
  dZ ea s1 (by rw [ca];exact d (by decide)),dZ ea s3 (by rw [ca];exact d (by decide)),dZ ea e4 (by rw [ca,c4];exact d (by decide)),dZ ea e5 (by rw [ca,c5];exact d (by decide)),
  dZ eb s1 (by rw [cb];exact d (by decide)),dZ eb s3 (by rw [cb];exact d (by decide)),dZ eb e4 (by rw [cb,c4];exact d (by decide)),dZ eb e5 (by rw [cb,c5];exact d (by decide))⟩
theorem vA {P:Program} {w:World} {K:PySem.W.Frag} {elts:List Expr} {x1} {tp:Pos} (a b z TI TO i1 i2:Addr) (F:lM z TI TO i1 i2):Turn P w K (.Tuple elts x1 tp) (Itz K a b) [z,TI,TO,i1,i2] z (vz a b z TI TO i1 i2) where
 mem:=by simp
 obj:=fun i h st c hc=>by
  obtain ⟨s1,s2,⟨x,y,s3⟩,⟨o4,e4,c4,d4⟩,⟨o5,e5,c5,d5⟩⟩:=st
  simp only [List.mem_cons,List.not_mem_nil,or_false] at hc
  rcases hc with rfl | rfl | rfl | rfl | rfl
  ·exact ⟨_,s1,fun v q=>by have q':Data.fields _=Data.cell v:=q;cases q'⟩
  ·exact ⟨_,s2,fun v q=>by have q':Data.seq _ _=Data.cell v:=q;cases q'⟩
  ·exact ⟨_,s3,fun v q=>by have q':Data.seq _ _=Data.cell v:=q;cases q'⟩
  ·exact ⟨o4,e4,fun v q=>by rw [d4] at q;cases q⟩
  ·exact ⟨o5,e5,fun v q=>by rw [d5] at q;cases q⟩
 keep:=fun i h h' st k=>by
  obtain ⟨s1,s2,⟨x,y,s3⟩,s4,s5⟩:=st
  exact ⟨k z (by simp) _ s1,k TI (by simp) _ s2,⟨x,y,k TO (by simp) _ s3⟩,s4.at fun o q=>k i1 (by simp) o q,s5.at fun o q=>k i2 (by simp) o q⟩
 item:=by
  intro X hP hw hK hc i pins s σ H E I hf st hg
  subst hP hw hK
  obtain ⟨xs,ys,x,y,hq,hq',hx,hy⟩:=hg
  obtain ⟨its,rv,p,hz⟩:=I.list hq
  obtain ⟨its',rv',p',hz'⟩:=I.list hq'
  obtain ⟨u,hu,ru⟩:=rv.get hx
  obtain ⟨u',hu',ru'⟩:=rv'.get hy
  have D:=nq F st p.isList p'.isList
  obtain ⟨s1,s2,⟨o1,o2,s3⟩,s4,s5⟩:=st
  have lt:∀ {c o},s.heap.get? c=some o→c<s.heap.objs.size:=fun q=>Heap.lt_size q
  have l1:=lt s1
  have l2:=lt s2
  have l3:=lt s3
  have l4:i1<s.heap.objs.size:=by obtain ⟨_,q,_⟩:=s4;exact lt q
  have l5:i2<s.heap.objs.size:=by obtain ⟨_,q,_⟩:=s5;exact lt q
  refine wpAny_pyNext_zip_item D s1 s2 s3 s4 s5 p.isList p'.isList (x:=u) (y:=u') (by simpa using hu) (by simpa using hu') fun h1 a1 a2 a3 a4 a5 a6 hk=>?_
  refine ⟨_,rfl,wpAny_letOwnedTupleGo_zip a1 fun h2 z2 hs2=>?_⟩
  have ht2:h2.get? s.heap.objs.size=some { cls:=.type "tuple",data:=.seq #[u,u'] }:=(hs2.2 _ (Nat.ne_of_gt l1)).trans a5
  have k2:∀ c o,c∉[z,TI,TO,i1,i2]→s.heap.get? c=some o→h2.get? c=some o:=fun c o hc q=>by
   simp only [List.mem_cons,List.not_mem_nil,or_false,not_or] at hc
   exact (hs2.2 c hc.1).trans (hk c o hc.1 hc.2.2.1 hc.2.2.2.1 hc.2.2.2.2 q)
  have hn:H s.heap.objs.size=none:=I.hok.fresh (Nat.le_refl _)
  have I2:Inv X pins σ (upd H s.heap.objs.size (.tup [x,y])) { s with heap:=h2,toks:=s.toks }:=
   kG I hf k2 (Nat.le_refl _) ⟨by simp [sizeLine],[u,u'],.cons ru (.cons ru' .nil),_,ht2,rfl,_,rfl⟩
  refine ⟨.ref s.heap.objs.size,_,I2,rfl,⟨_,x,y,hn,rfl,rfl,fun vs hv=>by rw [I.dN hv hq];exact hx,fun vs hv=>by rw [I.dN hv hq'];exact hy⟩,⟨z2,?_,⟨_,_,hs2.extBut _ _ D.TOz a2⟩,?_,?_⟩,fun c hc=>?_⟩
  ·exact hs2.extBut _ _ D.TIz (hk TI _ D.TIz D.TITO D.TIi1 D.TIi2 s2)
  ·exact a3.extBut hs2.extBut D.i1z
  ·exact a4.extBut hs2.extBut D.i2z
  ·have hc1:c≠s.heap.objs.size:=fun q=>by
    simp only [List.mem_cons,List.not_mem_nil,or_false] at hc
    rcases hc with r | r | r | r | r
    ·subst r;rw [q] at l1;exact Nat.lt_irrefl _ l1
    ·subst r;rw [q] at l2;exact Nat.lt_irrefl _ l2
    ·subst r;rw [q] at l3;exact Nat.lt_irrefl _ l3
    ·subst r;rw [q] at l4;exact Nat.lt_irrefl _ l4
    ·subst r;rw [q] at l5;exact Nat.lt_irrefl _ l5
   rw [aC hc1]
   exact (hf c hc).1
 done:=by
  intro X hP hw hK hc i pins s σ H E I hf st hg
  subst hP hw hK
  obtain ⟨xs,ys,hq,hq',hx⟩:=hg
  obtain ⟨its,rv,p,hz⟩:=I.list hq
  obtain ⟨its',rv',p',hz'⟩:=I.list hq'
  have hl:=rv.length
  have hl':=rv'.length
  have D:=nq F st p.isList p'.isList
  obtain ⟨s1,s2,⟨o1,o2,s3⟩,s4,s5⟩:=st
  refine wpAny_pyNext_zip_end (I.ok.hd hc) D s1 s2 s3 s4 s5 p.isList p'.isList ?_ fun h' hk=>⟨rfl,pU (t':=s.toks) I hf fun c o hc q=>?_⟩
  ·rcases hx with hx | hx
   ·exact .inl (by simp;omega)
   ·exact .inr (by simp;omega)
  ·simp only [List.mem_cons,List.not_mem_nil,or_false,not_or] at hc
   exact hk c o hc.1 hc.2.2.1 hc.2.2.2.1 hc.2.2.2.2 q
 self:=fun A i s Q E st h=>wpAny_pyIter_zip st.1 h
noncomputable def zH (K:PySem.W.Frag) (ta:TA):TI:=fun σ H R=>ta σ H fun vs H1=>∃ a b,vs=[.ref a,.ref b]∧(∃ xs,SqL K H1 a xs)∧(∃ ys,SqL K H1 b ys)∧R (Itz K a b) H1
section
variable {X:Cx} {l l':Expr} {ta:TA} {p pos:Pos} {elts:List Expr} {x1:Nat} {tp:Pos}
theorem Bs (hg:Gl X "zip") (hm:X.mg "zip" = none) (ha:PA X [l,l'] ta) (hs:starEach [l,l'] X.env=(false,eval l X.env)::starEach [l'] X.env:=by rfl) (hs2:(backTo pos (starEach [l'] X.env)).any (·.1)=false:=by rfl) :
  PI X (.Tuple elts x1 tp) (.Call (.Name "zip" p) [l,l'] [] pos) (zH X.K ta):=by
 intro pins s σ H R I h
 refine Call_ (ck I hg hm boot_zip (PyProof.Rows.callWith_type1 (thn (ha pos pins s σ H _ I h) fun us s1 ⟨vs,H1,I1,r1,q1⟩=>?_) hs hs2))
 obtain ⟨a,b,e,⟨xs,hq⟩,⟨ys,hq'⟩,q⟩:=q1
 subst e
 obtain ⟨v1,v2,rfl,r,r'⟩:=vals2 r1
 cases r
 cases r'
 obtain ⟨its,rv,pl,hz⟩:=I1.list hq
 obtain ⟨its',rv',pl',hz'⟩:=I1.list hq'
 refine call_zip_2 pl.isList pl'.isList fun h' e1 e2 e3 e4 e5 hsz k=>?_
 have I2:Inv X pins σ H1 { s1 with heap:=h' }:=I1.kept (t':=s1.toks) k
 have F:lM (s1.heap.objs.size+4) (s1.heap.objs.size+2) (s1.heap.objs.size+3) s1.heap.objs.size (s1.heap.objs.size+1):=by
  constructor<;>first | exact Nat.ne_of_lt (by omega) | exact Nat.ne_of_gt (by omega)
 have T:=vA (P:=X.prog) (w:=X.w) (K:=X.K) (elts:=elts) (x1:=x1) (tp:=tp) a b _ _ _ _ _ F
 have st:vz a b (s1.heap.objs.size+4) (s1.heap.objs.size+2) (s1.heap.objs.size+3) s1.heap.objs.size (s1.heap.objs.size+1) 0 h':=⟨e1,e2,⟨_,_,e3⟩,e4,e5⟩
 refine T.self X.A 0 { s1 with heap:=h' } _ X.xe st ?_
 refine ⟨s1.heap.objs.size+4,_,_,_,H1,rfl,I2,T,st,fun c hc=>?_,q⟩
 have:s1.heap.objs.size≤c:=by
  simp only [List.mem_cons,List.not_mem_nil,or_false] at hc
  rcases hc with r | r | r | r | r<;>(rw [r];first | exact Nat.le_add_right _ _ | exact Nat.le_refl _)
 exact I1.pC this (I1.hok.fresh this)
end
theorem rz:∀ (xs ys:List Dm.Dat),(Dm.eT xs ys).length=min xs.length ys.length
 | [],_=>by simp [Dm.eT]
 | _::_,[]=>by simp [Dm.eT]
 | x::xs,y::ys=>by simp [Dm.eT,rz xs ys]
theorem zip_get:∀ (xs ys:List Dm.Dat) (j:Nat) (d:Dm.Dat),(Dm.eT xs ys)[j]?=some d→∃ x y,xs[j]?=some x∧ys[j]?=some y∧d=.tup [x,y]
 | [],_,_,_,h=>by simp [Dm.eT] at h
 | _::_,[],_,_,h=>by simp [Dm.eT] at h
 | x::xs,y::ys,0,d,h=>by cases h;exact ⟨x,y,rfl,rfl,rfl⟩
 | x::xs,y::ys,j+1,d,h=>zip_get xs ys j d h
theorem Bt {K:PySem.W.Frag} {H0:Hp} {a b:Addr} {xs ys:List V} {ds es:List Dm.Dat} (hq:Rd H0 a (.lst xs)) (rs:aE H0 xs ds) (hq':Rd H0 b (.lst ys)) (rs':aE H0 ys es):JW (Itz K a b) H0 (Dm.eT ds es):=by
 intro H0' H s0 s1
 have q:SqL K H a xs:=.inl (ao.rd s1 (ao.rd s0 hq))
 have q':SqL K H b ys:=.inl (ao.rd s1 (ao.rd s0 hq'))
 refine ⟨fun i hi=>⟨xs,ys,q,q',?_⟩,fun i d e=>?_⟩
 ·rw [rz] at hi
  have:=rs.length
  have:=rs'.length
  omega
 obtain ⟨x,y,hx,hy,rfl⟩:=zip_get ds es i d e
 obtain ⟨v,hv,rv⟩:=rs.get hx
 obtain ⟨v',hv',rv'⟩:=rs'.get hy
 refine ⟨⟨xs,ys,v,v',q,q',hv,hv'⟩,fun r H' z=>?_⟩
 obtain ⟨p,u,u',hn,rfl,rfl,z1,z2⟩:=z
 have w1:=z1 xs q
 have w2:=z2 ys q'
 rw [hv] at w1
 rw [hv'] at w2
 cases w1
 cases w2
 have g:=aJ.x_ (o:=HO.tup [v,v']) s1 hn
 exact ⟨_,g,.tup aD (.cons ((rv.mono s0).mono g.s0) (.cons ((rv'.mono s0).mono g.s0) .nil))⟩
section
variable {σ:L2.St} {H:Hp} {R:It→Hp→Prop}
theorem Bu {K:PySem.W.Frag} {f g:Dm.FE} (h:tDI (Dm.yC f g) σ H R):zH K (tDA [f,g]) σ H R:=by
 obtain ⟨H0,ρ,ys,ρ',st,e,k⟩:=h
 unfold Dm.yC at e
 split at e
 ·rename_i vs ρ1 e1
  split at e
  ·rename_i xs zs ρ2 e2
   cases e
   refine ⟨H0,ρ,vs,ρ1,st,e1,fun us H0' H' t r=>?_⟩
   obtain ⟨H1,t1,b1,r1⟩:=takes t (ao.refl _) r e2
   cases r1 with
   | cons q1 rr=>
    cases rr with
    | cons q2 rr=>
     cases rr
     cases q1 with
     | lst q rs=>
      cases q2 with
      | lst q' rs'=>exact ⟨_,_,rfl,⟨_,.inl (ao.rd t1.st.same q)⟩,⟨_,.inl (ao.rd t1.st.same q')⟩,k _ H1 H' t1 (Bt q rs q' rs')⟩
  ·cases e
 ·cases e
end
section
variable {X:Cx} {a b:Expr} {fa fb:Dm.FE} {p pos:Pos} {elts:List Expr} {x1:Nat} {tp:Pos}
theorem DN (hg:Gl X "zip") (hm:X.mg "zip" = none) (ha:DA X [a,b] [fa,fb]) (hs:starEach [a,b] X.env=(false,eval a X.env)::starEach [b] X.env:=by rfl) (hs2:(backTo pos (starEach [b] X.env)).any (·.1)=false:=by rfl) :
  DI X (.Tuple elts x1 tp) (.Call (.Name "zip" p) [a,b] [] pos) (Dm.yC fa fb):=PI.weak (Bs hg hm ha hs hs2) fun _ _ _=>Bu
end
end Br
namespace Dm
noncomputable def fnM (n m:Nat) (body:FS) (ds:List Dat):Option (RV×Dat):=if ds.length=n then (match ds with
 | d::r=>(match body (Cell.ow d::(r.map Cell.sh++List.replicate m .un)) with
  | some (.ret z ρ')=>(match ρ'[0]? with
   | some (Cell.ow d')=>some (z,d')
   | _=>none)
  | some (.nx ρ')=>(match ρ'[0]? with
   | some (Cell.ow d')=>some (.val .non,d')
   | _=>none)
  | _=>none)
 | []=>none) else none
noncomputable def flat:Dat→Bool
 | .tup xs=>xs.all fun x=>!cS x
 | d=>!cS d
noncomputable def iQ:Dat→Bool
 | .lst xs=>xs.all fun x=>!cS x
 | _=>false
noncomputable def eFm (f:List Dat→Option (RV×Dat)) (j:Nat) (as:List FE):FE:=fun ρ=>match ρ[j]? with
 | some (.ow _)=>(match eAs as ρ with
  | none=>none
  | some (xs,ρ1)=>(match ρ1[j]? with
   | some (.ow d1)=>(match tks ρ1 xs with
    | none=>none
    | some (ds,ρ2)=>(match ρ2[j]? with
     | some (.ow d)=>(match f (d::ds) with
      | none=>none
      | some (v,d')=>if flat v.dat&&iQ d' then some (v.bB,ρ1.set j (.ow d')) else some (v.bB,ρ2.set j (.ow d')))
     | _=>none))
   | _=>none))
 | _=>none
end Dm
namespace Br
open PySem PySem.Spec PyProof.Rows L2
noncomputable def spM (f:List Dm.Dat→Option (Dm.RV×Dm.Dat)):Sp:=fun vs H Q _=>∃ H0 a us d ds z d',vs=V.ref a::us∧ao H0 H∧H0 a=none∧Own H0 H a d∧aE H0 us ds∧f (d::ds)=some (z,d') ∧
 ∀ v H0' H',Stp (fun b=>b=a) H0 H H0' H'→ao H0' H'→H0' a=none→Own H0' H' a d'→pK H H0' H' v z→Q v H'
theorem bL {n m:Nat} {body:Dm.FS} {vs:List V} {H:Hp} {Q:VK} {E:XK} (h:spM (Dm.fnM n m body) vs H Q E):vs.length=n:=by
 obtain ⟨H0,a,us,d,ds,z,d',e,_,_,_,rs,ef,_⟩:=h
 unfold Dm.fnM at ef
 split at ef
 ·rename_i hl
  rw [e,List.length_cons,rs.length]
  simpa using hl
 ·cases ef
theorem au.kH {H0 H:Hp} {σ:L2.St} {ρ:Dm.Env} {j:Nat} {a:Addr} {d:Dm.Dat} (st:au H0 H σ ρ) (q:σ[j]?=some (some (V.ref a))) (no:¬ ak σ ρ a) (n0:H0 a=none) (w:Own H0 H a d):au H0 H σ (ρ.set j (.ow d)):=by
 have:=st.uQ (i:=j) no n0 w
 have e:σ.set j (some (V.ref a))=σ:=by
  apply List.ext_getElem?
  intro i
  by_cases h:j=i
  ·subst h
   have hl:j<σ.length:=(List.getElem?_eq_some_iff.mp q).1
   rw [List.getElem?_set_self hl,q]
  ·rw [List.getElem?_set_ne h]
 rw [e] at this
 exact this
theorem au.off {H0 H H0' H':Hp} {σ:L2.St} {ρ:Dm.Env} {a:Addr} (st:au H0 H σ ρ) (s0:ao H0 H0') (ss:ao H0' H') (no:¬ ak σ ρ a) (s1:∀ b o,H b=some o→b≠a→H' b=some o) (s2:∀ (i:Nat) (d:Dm.Dat) (b:Addr),ρ[i]?=some (Dm.Cell.ow d)→σ[i]?=some (some (V.ref b))→H0' b=none):au H0' H' σ ρ where
 same:=ss
 len:=st.len
 sh:=fun i d e=>by
  obtain ⟨v,q,r⟩:=st.sh i d e
  exact ⟨v,q,r.mono s0⟩
 ow:=fun i d e=>by
  obtain ⟨b,q,n,w⟩:=st.ow i d e
  obtain ⟨o,z⟩:=w.some
  have nb:b≠a:=fun y=>no ⟨i,d,e,y▸q⟩
  exact ⟨b,q,s2 i d b e q,w.mono s0 ((s1 b o z nb).trans z.symm)⟩
 dis:=st.dis
theorem dg {H0 H1:Hp}:∀ {xs:List V} {ds:List Dm.Dat},aE H0 xs ds→(ds.all fun x=>!Dm.cS x)=true→aE H1 xs ds
 | _,_,.nil,_=>.nil
 | _,_,.cons r rs,h=>by
  rw [List.all_cons,Bool.and_eq_true] at h
  exact .cons (Rep.plain r (by simpa using h.1)) (dg rs h.2)
section
variable {σ:L2.St} {H:Hp} {Q:VK}
theorem yD {f:List Dm.Dat→Option (Dm.RV×Dm.Dat)} {j:Nat} {fs:List Dm.FE} {E:XK} (h:tD (Dm.eFm f j fs) σ H Q):uF (spM f) [] E (tDA (Dm.eV j::fs)) σ H Q:=by
 obtain ⟨H0,ρ,x,ρ',st,e,k⟩:=h
 unfold Dm.eFm at e
 split at e
 case h_2=>cases e
 rename_i d0 h0
 split at e
 ·cases e
 rename_i xs ρ1 e1
 split at e
 case h_2=>cases e
 rename_i d1 h1
 split at e
 ·cases e
 rename_i ds ρ2 e2
 split at e
 case h_2=>cases e
 rename_i d h2
 split at e
 ·cases e
 rename_i z d' fz
 have ea:Dm.eAs (Dm.eV j::fs) ρ=some (.slot j::xs,ρ1):=by
  unfold Dm.eAs
  rw [show Dm.eV j ρ=some (.slot j,ρ) from by unfold Dm.eV;rw [h0]]
  dsimp only
  rw [e1]
 refine ⟨H0,ρ,.slot j::xs,ρ1,st,ea,fun vs H1 Hb t1 r1=>?_⟩
 dsimp only
 rw [List.append_nil]
 cases r1 with
 | cons r0 rr=>
  obtain ⟨H2,t2,b2,r2⟩:=takes t1 (ao.refl _) rr e2
  obtain ⟨a,qa,na,wa⟩:=t2.st.ow j d h2
  obtain ⟨q0,_⟩:=r0
  rw [qa] at q0
  cases q0
  obtain ⟨a1,qa1,na1,wa1⟩:=t1.st.ow j d1 h1
  rw [qa] at qa1
  cases qa1
  obtain ⟨oa,ha⟩:=wa.some
  have hl2:j<ρ2.length:=(List.getElem?_eq_some_iff.mp h2).1
  have hl1:j<ρ1.length:=(List.getElem?_eq_some_iff.mp h1).1
  have oa0:ak σ ρ a:=t1.own a ⟨j,d1,h1,qa⟩
  refine ⟨H2,a,_,d,ds,z,d',rfl,t2.st.same,na,wa,r2,fz,fun v H3 Hd s3 ss n3 w3 r3=>?_⟩
  have no2:¬ ak σ (ρ2.set j .un) a:=fun y=>by
   obtain ⟨i,d4,hi,y1,y2⟩:=bZ y
   exact hi (t2.st.dis i j d4 d a y1 h2 y2 qa)
  have no1:¬ ak σ (ρ1.set j .un) a:=fun y=>by
   obtain ⟨i,d4,hi,y1,y2⟩:=bZ y
   exact hi (t1.st.dis i j d4 d1 a y1 h1 y2 qa)
  split at e
  ·rename_i fl
   cases e
   rw [Bool.and_eq_true] at fl
   obtain ⟨f1,f2⟩:=fl
   have wp:∀ H',Own H' Hd a d':=fun H'=>by
    cases d' with
    | lst ys=>
     obtain ⟨us,y1,y2⟩:=w3
     exact ⟨us,y1,dg y2 f2⟩
    | _=>cases f2
   have fin:∀ H1':Hp,ao H1 H1'→ao H1' Hd→(∀ b o,H1' b=some o→H1 b=some o∨((∃ us,o=.tup us)∧H3 b=some o))→dR H H1' Hd σ (ρ1.set j (.ow d')) v z.bB→Q v Hd:=fun H1' m1 m2 m3 rv=>by
    have hd3:∀ b,H1' b≠none→b≠a:=fun b hb y=>by
     subst y
     cases y2:H1' b with
     | none=>exact hb y2
     | some o=>
      rcases m3 b o y2 with y3 | ⟨_,y3⟩
      ·rw [na1] at y3;cases y3
      ·rw [n3] at y3;cases y3
    have n1':H1' a=none:=by
     cases y:H1' a with
     | none=>rfl
     | some o=>exact absurd rfl (hd3 a (by rw [y];exact fun q=>nomatch q))
    have sm:au H1' Hd σ (ρ1.set j .un):=by
     refine (t1.st.mask j).off m1 m2 no1 (fun b o y nb=>s3.s1 b o y nb) fun i d4 b y1 y2=>?_
     obtain ⟨b',q',nb',w'⟩:=(t1.st.mask j).ow i d4 y1
     rw [y2] at q'
     cases q'
     cases y:H1' b with
     | none=>rfl
     | some o=>
      rcases m3 b o y with y3 | ⟨⟨us,y4⟩,y3⟩
      ·rw [nb'] at y3;cases y3
      ·subst y4
       have nb:b≠a:=hd3 b (by rw [y];exact fun q=>nomatch q)
       cases d4 with
       | lst _=>
        obtain ⟨ws,z1,_⟩:=w'
        have z2:=s3.s1 b _ z1 nb
        rw [ss _ _ y3] at z2
        cases z2
       | dct _ _=>
        obtain ⟨ws,z1,_⟩:=w'
        have z2:=s3.s1 b _ z1 nb
        rw [ss _ _ y3] at z2
        cases z2
       | _=>exact False.elim w'
    have sf:au H1' Hd σ (ρ1.set j (.ow d')):=by
     have:=sm.kH qa no1 n1' (wp H1')
     rw [List.set_set] at this
     exact this
    refine k v H1' Hd ⟨sf,⟨t1.stp.s0.trans m1,fun b o y nb=>?_,fun b o y=>?_,fun b o y=>?_⟩,fun b y=>?_,fun i y=>?_⟩ rv
    ·have y1:=t1.stp.s1 b o y nb
     exact s3.s1 b o y1 fun q=>nb (by rw [q];exact oa0)
    ·rcases m3 b o y with y3 | ⟨_,y3⟩
     ·exact t1.stp.s2 b o y3
     ·rcases s3.s2 b o y3 with y4 | y4 | y4
      ·exact .inl (t1.stp.gone y4)
      ·exact t2.stp.s2 b o y4
      ·subst y4;rw [n3] at y3;cases y3
    ·obtain ⟨o',y1⟩:=t1.stp.s3 b o y
     exact s3.s3 b o' y1
    ·obtain ⟨i,d4,y1,y2⟩:=y
     by_cases hi:j=i
     ·subst hi
      rw [qa] at y2
      cases y2
      exact oa0
     ·rw [List.getElem?_set_ne hi] at y1
      exact t1.own b ⟨i,d4,y1,y2⟩
    ·trivial
   have m0:ao H1 Hd:=fun b o y=>s3.s1 b o (t1.st.same _ _ y) fun q=>by rw [q,na1] at y;cases y
   cases z with
   | new d4=>
    obtain ⟨_,_,_,_,w⟩:=r3
    cases d4 with
    | lst _=>cases f1
    | dct _ _=>cases f1
    | _=>exact False.elim w
   | val d4=>
    have r3':Rep H3 v d4:=r3
    cases d4 with
    | tup es=>
     cases r3' with
     | tup q rs=>
      rename_i a2 us
      have rp:aE H1 us es:=dg rs f1
      refine fin (upd H1 a2 (.tup us)) (fun b o y=>?_) (fun b o y=>?_) (fun b o y=>?_) (.tup aD (dg rs f1))
      ·by_cases hb:b=a2
       ·subst hb
        have:=s3.s0 _ _ (b2 _ _ y)
        rw [q] at this
        rw [aD,this]
       ·rw [aC hb];exact y
      ·by_cases hb:b=a2
       ·subst hb
        rw [aD] at y
        cases y
        exact ss _ _ q
       ·rw [aC hb] at y;exact m0 _ _ y
      ·by_cases hb:b=a2
       ·subst hb
        rw [aD] at y
        cases y
        exact .inr ⟨⟨us,rfl⟩,q⟩
       ·rw [aC hb] at y;exact .inl y
    | lst _=>cases f1
    | dct _ _=>cases f1
    | exc _=>cases f1
    | fn _=>exact fin H1 (ao.refl _) m0 (fun b o y=>.inl y) (Rep.plain r3' rfl)
    | non=>exact fin H1 (ao.refl _) m0 (fun b o y=>.inl y) (Rep.plain r3' rfl)
    | bl _=>exact fin H1 (ao.refl _) m0 (fun b o y=>.inl y) (Rep.plain r3' rfl)
    | int _=>exact fin H1 (ao.refl _) m0 (fun b o y=>.inl y) (Rep.plain r3' rfl)
    | str _=>exact fin H1 (ao.refl _) m0 (fun b o y=>.inl y) (Rep.plain r3' rfl)
  ·cases e
   have sm:au H3 Hd σ (ρ2.set j .un):=by
    refine (t2.st.mask j).off s3.s0 ss no2 (fun b o y nb=>s3.s1 b o y nb) fun i d4 b y1 y2=>?_
    obtain ⟨b',q',nb',w'⟩:=(t2.st.mask j).ow i d4 y1
    rw [y2] at q'
    cases q'
    obtain ⟨ob,hob⟩:=w'.some
    cases y:H3 b with
    | none=>rfl
    | some o=>
     rcases s3.s2 b o y with y3 | y3 | y3
     ·rw [hob] at y3;cases y3
     ·rw [nb'] at y3;cases y3
     ·exact absurd ⟨i,d4,y1,y3▸y2⟩ no2
   have sf:au H3 Hd σ (ρ2.set j (.ow d')):=by
    have:=sm.kH qa no2 n3 w3
    rw [List.set_set] at this
    exact this
   have of:∀ b,ak σ (ρ2.set j (.ow d')) b→b=a∨ak σ ρ2 b:=fun b ⟨i,d4,y1,y2⟩=>by
    by_cases hi:j=i
    ·subst hi
     rw [qa] at y2
     cases y2
     exact .inl rfl
    ·rw [List.getElem?_set_ne hi] at y1
     exact .inr ⟨i,d4,y1,y2⟩
   refine k v H3 Hd ⟨sf,t2.stp.trans s3 (fun b y=>.inl (y▸oa0)),fun b y=>?_,fun i y=>?_⟩ ?_
   ·rcases of b y with y | y
    ·exact y▸oa0
    ·exact t2.own b y
   ·trivial
   ·cases z with
    | val d4=>exact r3
    | new d4=>
     obtain ⟨b,y0,y1,y2,y3⟩:=r3
     refine ⟨b,y0,t2.stp.gone y1,fun y=>?_,y2,y3⟩
     rcases of b y with y | y
     ·subst y;rw [ha] at y1;cases y1
     ·exact t2.st.gh y1 y
end
theorem aA {X:Cx} {es:List Expr} {p pos px:Pos} {k:Nat} {F:Addr} {fd:FuncData} {ps:List Str} {g:List Dm.Dat→Option (Dm.RV×Dm.Dat)} {x y:Str} {j:Nat} {fs:List Dm.FE} (G:aY X.prog X.w X.K X.mg X.base CX0 k F fd ps (spM g)) (hr:bG k X.A) (hg:Gl X x) (hm:X.mg x=some (.ref F)) (hk:PySem.W.keepIn X.K (.ref F)=true) (hb:Binds X.K fd ps [])
  (ha:DA X (.Name y px::es) (Dm.eV j::fs)) (hdb:(x == ("__debug__" : Str))=false:=by decide) (he:starEach (.Name y px::es) X.env=(false,eval (.Name y px) X.env)::starEach es X.env:=by rfl) (hpl:(backTo pos (starEach es X.env)).any (·.1)=false:=by rfl) :
  DE X (.Call (.Name x p) (.Name y px::es) [] pos) (Dm.eFm g j fs):=PE.weak (qL G hr hg hm hk hb .nil (zw (X:=X)) ha hdb he hpl) fun _ _ _=>yD
theorem d7 {N:List Str} {n m:Nat} {body:Dm.FS} {vs:List V} {H:Hp} {Q:VK} {E:XK} (hm:N.length=n+m) (h:spM (Dm.fnM n m body) vs H Q E) :
  tDS body { nx:=fun _ H'=>Q .non H',rt:=Q } (start N vs) H:=by
 have hvn:=bL h
 obtain ⟨H0,a,us,d,ds,z,d',e,s,na,wa,rs,ef,k⟩:=h
 subst e
 have hl:=rs.length
 rw [List.length_cons] at hvn
 have e0:(start N (V.ref a::us))[0]?=some (some (V.ref a)):=rfl
 have get:∀ {i:Nat} {c:Dm.Cell},(Dm.Cell.ow d::(ds.map Dm.Cell.sh++List.replicate m .un))[i]?=some c→(i=0∧c=.ow d)∨(∃ i' d4,i=i'+1∧ds[i']?=some d4∧c=.sh d4)∨c=.un:=fun {i c} y=>by
  cases i with
  | zero=>cases y;exact .inl ⟨rfl,rfl⟩
  | succ i=>
   rw [List.getElem?_cons_succ] at y
   by_cases hi:i<ds.length
   ·rw [List.getElem?_append_left (by simpa using hi),List.getElem?_map,List.getElem?_eq_getElem hi] at y
    cases y
    exact .inr (.inl ⟨i,ds[i],rfl,List.getElem?_eq_getElem hi,rfl⟩)
   ·rw [List.getElem?_append_right (by simpa using hi),List.getElem?_replicate] at y
    split at y
    ·cases y;exact .inr (.inr rfl)
    ·cases y
 have ow0:∀ {i:Nat} {d4:Dm.Dat},(Dm.Cell.ow d::(ds.map Dm.Cell.sh++List.replicate m .un))[i]?=some (.ow d4)→i=0∧d4=d:=fun {i d4} y=>by
  rcases get y with ⟨y1,y2⟩ | ⟨_,_,_,_,y2⟩ | y2
  ·cases y2;exact ⟨y1,rfl⟩
  ·cases y2
  ·cases y2
 have oa:∀ b,ak (start N (V.ref a::us)) (Dm.Cell.ow d::(ds.map Dm.Cell.sh++List.replicate m .un)) b→b=a:=fun b ⟨i,d4,y1,y2⟩=>by
  obtain ⟨y3,_⟩:=ow0 y1
  subst y3
  rw [e0] at y2
  cases y2
  rfl
 have st:au H0 H (start N (V.ref a::us)) (Dm.Cell.ow d::(ds.map Dm.Cell.sh++List.replicate m .un)):=by
  refine ⟨s,?_,fun i d4 y=>?_,fun i d4 y=>?_,fun i i' d4 d5 b y1 y2 _ _=>(ow0 y1).1.trans (ow0 y2).1.symm⟩
  ·unfold L2.start
   simp only [List.length_append,List.length_map,List.length_replicate,List.length_cons]
   omega
  ·rcases get y with ⟨_,y2⟩ | ⟨i',d5,y1,y2,y3⟩ | y2
   ·cases y2
   ·cases y3
    subst y1
    obtain ⟨v,hv,r⟩:=rs.get y2
    refine ⟨v,?_,r⟩
    have hi:i'<us.length:=(List.getElem?_eq_some_iff.mp hv).1
    unfold L2.start
    rw [List.getElem?_append_left (by simp;omega),List.getElem?_map,List.getElem?_cons_succ,hv]
    rfl
   ·cases y2
  ·obtain ⟨y1,y2⟩:=ow0 y
   subst y1 y2
   exact ⟨a,e0,na,wa⟩
 have fin:∀ {σ':L2.St} {ρ':Dm.Env} {H0' H':Hp},SSt (start N (V.ref a::us)) (Dm.Cell.ow d::(ds.map Dm.Cell.sh++List.replicate m .un)) H0 H σ' ρ' H0' H'→ρ'[0]?=some (.ow d')→Stp (fun b=>b=a) H0 H H0' H'∧H0' a=none∧Own H0' H' a d'∧ak σ' ρ' a:=fun {σ' ρ' H0' H'} t y=>by
  obtain ⟨a',q',n',w'⟩:=t.st.ow 0 d' y
  have fx:=t.fx
  rw [e0,q'] at fx
  cases fx
  exact ⟨t.stp.wide fun b z=>oa b z,n',w',0,d',y,q'⟩
 unfold Dm.fnM at ef
 split at ef
 case isFalse=>cases ef
 dsimp only at ef
 split at ef
 ·rename_i z' ρ' e1
  split at ef
  case h_2=>cases ef
  rename_i d4 y
  cases ef
  refine ⟨H0,_,_,st,e1,fun σ' v H0' H' t r no=>?_⟩
  obtain ⟨f1,f2,f3,f4⟩:=fin t y
  refine k v H0' H' f1 t.st.same f2 f3 ?_
  cases z with
  | val d5=>exact r
  | new d5=>
   obtain ⟨b,y0,y1,y2,y3⟩:=r
   refine ⟨b,y0,?_,y2,y3⟩
   rcases y1 with y1 | y1
   ·exact y1
   ·exact absurd f4 (oa b y1▸no d5 b rfl y0)
 ·rename_i ρ' e1
  split at ef
  case h_2=>cases ef
  rename_i d4 y
  cases ef
  refine ⟨H0,_,_,st,e1,fun σ' H0' H' t=>?_⟩
  obtain ⟨f1,f2,f3,f4⟩:=fin t y
  exact k _ H0' H' f1 t.st.same f2 f3 .non
 ·cases ef
end Br
namespace Dm
noncomputable def eDn:FE:=fun ρ=>some (.new (.dct [] []),ρ)
end Dm
namespace Br
open PySem PySem.Spec PyProof.Rows L2
section
variable {σ:L2.St} {H:Hp} {Q:VK} {D:Ends}
theorem FF (h:tD Dm.eDn σ H Q):uM σ H Q:=by
 obtain ⟨H0,ρ,x,ρ',st,e,k⟩:=h
 cases e
 intro p hp
 have g:=aJ.j7 (o:=HO.dK []) st.same hp
 exact k _ _ _ (.grow st g) ⟨p,rfl,hp,st.gh hp,st.same.free hp,[],aD,rfl,.nil⟩
end
section
variable {X:Cx} {a b e:Expr} {fa fb f:Dm.FE} {pos:Pos} {k:Nat}
theorem DO:DE X (.Dict [] [] pos) Dm.eDn:=PE.weak uN fun _ _ _=>FF
end
end Br
namespace Dm
noncomputable def tL:List Dat→Option RV
 | [.int i]=>vI (if i<0 then -i else i)
 | _=>none
end Dm
namespace Br
open PySem PySem.Spec PyProof.Rows L2
theorem Bv:CallD (fun xs H Q=>∃ i,xs=[.int i]∧Q (.int (if i<0 then -i else i)) H) Dm.tL:=by
 intro H0 H xs ds z Q s rx e k
 unfold Dm.tL at e
 split at e
 ·rename_i i
  cases e
  cases rx with
  | cons r rr=>
   cases rr
   cases av r
   exact ⟨i,rfl,k _ H0 H (aJ.refl s) (.int _)⟩
 ·cases e
section
variable {X:Cx} {a b e:Expr} {fa fb f:Dm.FE} {fs:List Dm.FE} {p p2 pos:Pos}
theorem zI (hg:Gl X "abs") (hm:X.mg "abs" = none) (ha:DA X [e] fs) (he:starEach [e] X.env=[(false,eval e X.env)]:=by rfl) (hpl:(backTo pos (starEach [] X.env)).any (·.1)=false:=by rfl):DE X (.Call (.Name "abs" p) [e] [] pos) (Dm.eB Dm.tL fs):=sW uD Bv PyProof.Rows.boot_abs hg hm ha (he:=he) (hpl:=hpl)
end
end Br
namespace Dm
noncomputable def g9:List Dat→Option (List Int)
 | []=>some []
 | .int i::r=>(g9 r).map fun ns=>i::ns
 | _=>none
end Dm
namespace Br
open PySem PySem.Spec PyProof.Rows L2
theorem intsAre_of:∀ {ns:List Int} {its:List Value},Vals (ns.map V.int) its→IntsAre its ns
 | [],_,r=>by cases r;exact .nil
 | n::ns,_,r=>by
  rw [List.map_cons] at r
  cases r with
  | cons h t=>
   obtain ⟨tk,rfl⟩:=h
   exact .cons _ _ (intsAre_of t)
theorem nu {H0:Hp}:∀ {ds:List Dm.Dat} {xs:List V} {ns:List Int},aE H0 xs ds→Dm.g9 ds=some ns→xs=ns.map V.int
 | [],_,ns,r,e=>by cases r;cases e;rfl
 | d::ds,_,ns,r,e=>by
  cases r with
  | cons h t=>
   cases d with
   | int i=>
    unfold Dm.g9 at e
    cases q:Dm.g9 ds with
    | none=>rw [q] at e;cases e
    | some ms=>
     rw [q] at e
     cases e
     cases Rep.isInt h
     rw [nu t q]
     rfl
   | _=>cases e
end Br
namespace Ts
open PySem PyProof.Rows
variable {M:Model} {A:Around} {E:Value→Shared→Prop} {s:Shared} {κ:KeyKind} {kd:SortKind} {a₀:Array Keyed}
noncomputable def lO (M:Model) (A:Around) (E:Value→Shared→Prop) (s:Shared) (κ:KeyKind) (kd:SortKind):Prop:=
 ∀ (x y:Keyed) (a b:κ.α) (st:SortSt) (Q:Option Bool→SortSt→Prop),κ.keyOf x.1=some a→κ.keyOf y.1=some b→kindOf st=kd→Q (some (κ.blt a b)) st→wpS M A E s (lt' x y) Q st
structure SB (kd:SortKind) (a₀:Array Keyed) (st:SortSt):Prop where
 perm:(arrOf st).Perm a₀
 kind:kindOf st=kd
 failed:failedOf st=none
theorem SB.size {st:SortSt} (h:SB kd a₀ st):(arrOf st).size=a₀.size:=h.perm.size_eq
theorem SB.arr {st:SortSt} (h:SB kd a₀ st) {xs:Array Keyed} (hp:xs.Perm (arrOf st)):SB kd a₀ (setArr st xs):=⟨hp.trans h.perm,h.kind,h.failed⟩
theorem SB.pend {st:SortSt} (h:SB kd a₀ st) (p:Array (Nat×Nat×Nat)):SB kd a₀ (setPending st p):=⟨h.perm,h.kind,h.failed⟩
theorem SB.keys {st:SortSt} (h:SB kd a₀ st) (h0:KeysOf κ a₀):KeysOf κ (arrOf st):=fun p hp=>h0 p ((Array.perm_iff_toList_perm.mp h.perm).mem_iff.mp hp)
theorem pV {xs:Array Keyed} (h:KeysOf κ xs) {i:Nat} (hi:i<xs.size):∃ p,xs[i]?=some p∧κ.keyOf p.1=some (KK κ xs i):=by
 refine ⟨xs[i],getElem?_pos xs i hi,?_⟩
 obtain ⟨a,e⟩:=h xs[i] (by simp)
 unfold KK
 rw [getElem?_pos xs i hi]
 dsimp only
 rw [e]
 rfl
theorem kI (hL:lO M A E s κ kd) {st:SortSt} (hB:SB kd a₀ st) (h0:KeysOf κ a₀) {i j:Nat} (hi:i<a₀.size) (hj:j<a₀.size) {Q:Option Bool→SortSt→Prop}
  (h:Q (some (κ.blt (KK κ (arrOf st) i) (KK κ (arrOf st) j))) st):wpS M A E s (ltAt' i j) Q st:=by
 obtain ⟨p,ep,kp⟩:=pV (hB.keys h0) (i:=i) (by rw [hB.size];exact hi)
 obtain ⟨q,eq,kq⟩:=pV (hB.keys h0) (i:=j) (by rw [hB.size];exact hj)
 rw [ltAt'_eq]
 refine wpS_bind (wpS_get ?_)
 show wpS _ _ _ _ (elem' (arrOf st) i >>= fun x=>elem' (arrOf st) j >>= fun y=>lt' x y) Q st
 rw [elem'_eq,elem'_eq,ep,eq]
 exact wpS_bind (wpS_pure (wpS_bind (wpS_pure (hL p q _ _ st Q kp kq hB.kind h))))
noncomputable def Seg (κ:KeyKind) (xs:Array Keyed) (i j:Nat):Prop:=∀ p q,i≤p→p≤q→q<j→κ.kle (KK κ xs p) (KK κ xs q)
noncomputable def tM (κ:KeyKind) (xs:Array Keyed) (i j:Nat):Prop:=∀ p q,i≤p→p≤q→q<j→κ.kle (KK κ xs q) (KK κ xs p)
noncomputable def Out (xs ys:Array Keyed) (i j:Nat):Prop:=∀ k,(k<i∨j≤k)→ys[k]?=xs[k]?
theorem Out.refl (xs:Array Keyed) (i j:Nat):Out xs xs i j:=fun _ _=>rfl
theorem Out.trans {xs ys zs:Array Keyed} {i j:Nat} (h:Out xs ys i j) (h':Out ys zs i j):Out xs zs i j:=fun k hk=>(h' k hk).trans (h k hk)
theorem Out.mono {xs ys:Array Keyed} {i j i' j':Nat} (h:Out xs ys i j) (h1:i'≤i) (h2:j≤j'):Out xs ys i' j':=fun k hk=>h k (by omega)
theorem dh {xs:Array Keyed} {i j:Nat} (hj:j≤xs.size):Out xs (mirror xs i j ((j-i) / 2)) i j:=fun k hk=>by
 rw [getElem?_mirror_all hj,if_neg (by omega)]
theorem pW {xs:Array Keyed} {src d:Nat} (hs:src<xs.size) (hd:d≤src):Out xs (bubble xs src d) (src-d) (src+1):=fun k hk=>by
 rw [getElem?_bubble hs d hd,if_neg (by omega),if_neg (by omega)]
theorem Bw (hL:lO M A E s κ kd) (h0:KeysOf κ a₀) {st:SortSt} (hB:SB kd a₀ st) {lo n ok:Nat} (hn:lo+n≤a₀.size) (h1:1≤ok) (hok:ok≤n) (hs:Seg κ (arrOf st) lo (lo+ok)) {Q:Bool→SortSt→Prop}
  (h:∀ xs,xs.Perm (arrOf st)→Seg κ xs lo (lo+n)→Out (arrOf st) xs lo (lo+n)→Q true (setArr st xs)):wpS M A E s (binarySort' lo n ok) Q st:=by
 rw [binarySort'_eq]
 refine wpS_bind (wpS_mono (wpS_forRange (I:=fun k c st'=>c=(none,())∧∃ xs,st'=setArr st xs∧xs.Perm (arrOf st)∧Seg κ xs lo (lo+k)∧Out (arrOf st) xs lo (lo+n)) (Q:=fun c st'=>c=(none,())∧∃ xs,st'=setArr st xs∧xs.Perm (arrOf st)∧Seg κ xs lo (lo+n)∧Out (arrOf st) xs lo (lo+n)) ?step ?fin ?ini) ?post)
 case ini=>
  refine ⟨rfl,arrOf st,rfl,Array.Perm.refl _,?_,Out.refl _ _ _⟩
  rw [show max ok 1=ok by omega];exact hs
 case fin=>
  rintro c st' ⟨rfl,xs,rfl,hp,hsg,ho⟩
  rw [show max (max ok 1) n=n by omega] at hsg
  exact ⟨rfl,xs,rfl,hp,hsg,ho⟩
 case post=>
  rintro c st' ⟨rfl,xs,rfl,hp,hsg,ho⟩
  exact wpS_pure (h xs hp hsg ho)
 case step=>
  rintro k c st' hk1 hk2 ⟨rfl,xs,rfl,hp,hsg,ho⟩
  dsimp only
  have hB':SB kd a₀ (setArr st xs):=hB.arr hp
  have hsz:xs.size=a₀.size:=hB'.size
  refine wpS_bind (wpS_mono (wpS_forRange (I:=fun i c st'=>∃ l r,c=(none,l,r)∧st'=setArr st xs∧l≤r∧r≤k∧r-l≤k-i∧(∀ p,p<l→κ.kle (KK κ xs (lo+p)) (KK κ xs (lo+k)))∧(∀ p,r≤p→p<k→κ.klt (KK κ xs (lo+k)) (KK κ xs (lo+p))))
   (Q:=fun c st'=>∃ l,c=(none,l,l)∧st'=setArr st xs∧l≤k∧(∀ p,p<l→κ.kle (KK κ xs (lo+p)) (KK κ xs (lo+k)))∧(∀ p,l≤p→p<k→κ.klt (KK κ xs (lo+k)) (KK κ xs (lo+p)))) ?st2 ?fi2 ⟨0,k,rfl,rfl,Nat.zero_le _,Nat.le_refl _,by omega,fun p hp=>by omega,fun p h1 h2=>by omega⟩) ?po2)
  case fi2=>
   rintro c st' ⟨l,r,rfl,rfl,h1,h2,h3,h4,h5⟩
   have:l=r:=by omega
   subst this
   exact ⟨l,rfl,rfl,h2,h4,h5⟩
  case st2=>
   rintro i c st' _ hi ⟨l,r,rfl,rfl,h1,h2,h3,h4,h5⟩
   dsimp only
   by_cases hlr:l≥r
   ·rw [if_pos hlr]
    have:l=r:=by omega
    subst this
    exact wpS_pure ⟨l,rfl,rfl,h2,h4,h5⟩
   ·rw [if_neg hlr]
    refine wpS_bind (kI hL hB' h0 (by omega) (by omega) ?_)
    dsimp only
    cases hb:κ.blt (KK κ (arrOf (setArr st xs)) (lo+k)) (KK κ (arrOf (setArr st xs)) (lo+(l+r) / 2))
    case true=>
     rw [if_pos rfl]
     refine wpS_pure ⟨l,(l+r) / 2,rfl,rfl,by omega,by omega,by omega,h4,fun p hp1 hp2=>?_⟩
     exact KeyOrd.klt_of_klt_of_kle hb (hsg _ _ (by omega) (by omega) (by omega))
    case false=>
     rw [if_neg (by decide)]
     refine wpS_pure ⟨(l+r) / 2+1,r,rfl,rfl,by omega,h2,by omega,fun p hp1=>?_,h5⟩
     exact KeyOrd.kle_trans (hsg _ _ (by omega) (by omega) (by omega)) hb
  case po2=>
   rintro c st' ⟨l,rfl,rfl,hlk,hlo,hhi⟩
   dsimp only
   rw [moveDown'_eq]
   have hd:lo+k-(lo+l)=k-l:=by omega
   have hsk:lo+k<xs.size:=by omega
   refine wpS_bind (wpS_modify (wpS_pure ⟨rfl,bubble xs (lo+k) (lo+k-(lo+l)),rfl,(bubble_perm _ _ _).trans hp,?_,ho.trans ((pW hsk (by omega)).mono (by omega) (by omega))⟩))
   intro p q h1 h2 h3
   rw [KK_bubble hsk (by omega),KK_bubble hsk (by omega)]
   rw [show lo+k-(lo+k-(lo+l))=lo+l by omega]
   by_cases hp1:p=lo+l
   ·rw [if_pos hp1]
    by_cases hq1:q=lo+l
    ·rw [if_pos hq1];exact KeyOrd.kle_refl _
    ·rw [if_neg hq1,if_pos (by omega)]
     have:=hhi (q-1-lo) (by omega) (by omega)
     rw [show lo+(q-1-lo)=q-1 by omega] at this
     exact KeyOrd.kle_of_klt this
   ·rw [if_neg hp1]
    by_cases hp2:lo+l<p∧p≤lo+k
    ·rw [if_pos hp2,if_neg (by omega),if_pos (by omega)]
     exact hsg _ _ (by omega) (by omega) (by omega)
    ·rw [if_neg hp2]
     by_cases hq1:q=lo+l
     ·rw [if_pos hq1]
      have:=hlo (p-lo) (by omega)
      rw [show lo+(p-lo)=p by omega] at this
      exact this
     ·rw [if_neg hq1]
      by_cases hq2:lo+l<q∧q≤lo+k
      ·rw [if_pos hq2]
       exact hsg _ _ (by omega) (by omega) (by omega)
      ·rw [if_neg hq2]
       exact hsg _ _ (by omega) (by omega) (by omega)
end Ts
namespace Ts
open PySem PyProof.Rows
variable {M:Model} {A:Around} {E:Value→Shared→Prop} {s:Shared} {κ:KeyKind} {kd:SortKind} {a₀:Array Keyed}
noncomputable def upL (lo k nrem:Nat):StateT SortSt Sem (Option Nat):=do
 let mut m:=k
 for _ in [k:nrem] do
  let some c ← ltAt' (lo+m) (lo+m-1)
   | return none
  if c then break
  m:=m+1
 return some m
noncomputable def zJ (lo k nrem:Nat):StateT SortSt Sem (Option Nat):=do
 rule "list.sort.descending-run"
 let mut m:=k+1
 let mut e:=0
 for _ in [k+1:nrem] do
  let some c ← ltAt' (lo+m) (lo+m-1)
   | return none
  if c then
   if e>0 then reverseSlice' (lo+m-(e+1)) (lo+m)
   e:=0
  else
   let some d ← ltAt' (lo+m-1) (lo+m)
    | return none
   if d then break
   e:=e+1
  m:=m+1
 if e>0 then reverseSlice' (lo+m-(e+1)) (lo+m)
 reverseSlice' lo (lo+m)
 let mut z:=m
 for _ in [m:nrem] do
  let some c ← ltAt' (lo+z) (lo+z-1)
   | return none
  if c then break
  z:=z+1
 return some z
theorem yE {xs:Array Keyed} {i:Nat}:Seg κ xs i (i+1):=fun p q a b c=>by
 have:p=q:=by omega
 subst this
 exact KeyOrd.kle_refl _
theorem nv {xs:Array Keyed} {i n:Nat} (h:Seg κ xs i (i+n)) (h1:1≤n) (hb:κ.kle (KK κ xs (i+n-1)) (KK κ xs (i+n))):Seg κ xs i (i+(n+1)):=fun p q a b c=>by
 by_cases hq:q<i+n
 ·exact h p q a b hq
 ·have:q=i+n:=by omega
  subst this
  by_cases hp:p=i+n
  ·subst hp;exact KeyOrd.kle_refl _
  ·exact KeyOrd.kle_trans (h p (i+n-1) a (by omega) (by omega)) hb
theorem cU {xs:Array Keyed} {i n:Nat} (h:tM κ xs i (i+n)) (h1:1≤n) (hb:κ.kle (KK κ xs (i+n)) (KK κ xs (i+n-1))):tM κ xs i (i+(n+1)):=fun p q a b c=>by
 by_cases hq:q<i+n
 ·exact h p q a b hq
 ·have:q=i+n:=by omega
  subst this
  by_cases hp:p=i+n
  ·subst hp;exact KeyOrd.kle_refl _
  ·exact KeyOrd.kle_trans hb (h p (i+n-1) a (by omega) (by omega))
section
variable {prog:Program} {w:World}
theorem DP (hL:lO (model prog w) A E s κ kd) (h0:KeysOf κ a₀) {st:SortSt} (hB:SB kd a₀ st) {lo k nrem:Nat} (hn:lo+nrem≤a₀.size) (h1:1≤k) (hk:k≤nrem) (hs:Seg κ (arrOf st) lo (lo+k)) {Q:Option Nat→SortSt→Prop}
  (h:∀ n,k≤n→n≤nrem→Seg κ (arrOf st) lo (lo+n)→Q (some n) st):wpS (model prog w) A E s (upL lo k nrem) Q st:=by
 unfold upL
 refine wpS_bind (wpS_mono (wpS_forRange (I:=fun i c st'=>c=(none,i)∧st'=st∧i≤nrem∧Seg κ (arrOf st) lo (lo+i)) (Q:=fun c st'=>∃ n,c=(none,n)∧st'=st∧k≤n∧n≤nrem∧Seg κ (arrOf st) lo (lo+n)) ?st1 ?fi1 ⟨rfl,rfl,hk,hs⟩) ?po1)
 case fi1=>
  rintro c st' ⟨rfl,rfl,hle,hsg⟩
  exact ⟨_,rfl,rfl,by omega,hle,hsg⟩
 case st1=>
  rintro i c st' hi1 hi2 ⟨rfl,rfl,hle,hsg⟩
  dsimp only
  refine wpS_bind (kI hL hB h0 (by omega) (by omega) ?_)
  dsimp only
  cases hb:κ.blt (KK κ (arrOf st') (lo+i)) (KK κ (arrOf st') (lo+i-1))
  case true=>
   rw [if_pos rfl]
   exact wpS_pure ⟨i,rfl,rfl,hi1,hle,hsg⟩
  case false=>
   rw [if_neg (by decide)]
   exact wpS_pure ⟨rfl,rfl,by omega,nv hsg (by omega) hb⟩
 case po1=>
  rintro c st' ⟨n,rfl,rfl,h2,h3,h4⟩
  exact wpS_pure (h n h2 h3 h4)
theorem lP {xs:Array Keyed} {i j:Nat} (hj:j≤xs.size) (he:∀ k,i≤k→k<j→KK κ xs k=KK κ xs (j-1)):∀ k,KK κ (mirror xs i j ((j-i) / 2)) k=KK κ xs k:=KK_mirror_equal hj he
theorem rA (hL:lO (model prog w) A E s κ kd) (h0:KeysOf κ a₀) {st:SortSt} (hB:SB kd a₀ st) {lo k nrem:Nat} (hn:lo+nrem≤a₀.size) (h1:1≤k) (hk:k<nrem) (hs:tM κ (arrOf st) lo (lo+(k+1))) {Q:Option Nat→SortSt→Prop}
  (h:∀ n xs,1≤n→n≤nrem→xs.Perm (arrOf st)→Seg κ xs lo (lo+n)→Out (arrOf st) xs lo (lo+nrem)→Q (some n) (setArr st xs)):wpS (model prog w) A E s (zJ lo k nrem) Q st:=by
 unfold zJ
 refine wpS_bind (wpS_lift (wpAny_rule ⟨rfl,?_⟩))
 refine wpS_bind (wpS_mono (wpS_forRange
  (I:=fun i c st'=>∃ e xs,c=(none,i,e)∧st'=setArr st xs∧i≤nrem∧xs.Perm (arrOf st)∧Out (arrOf st) xs lo (lo+nrem)∧tM κ xs lo (lo+i)∧e+1≤i∧∀ p,lo+i-(e+1)≤p→p<lo+i→KK κ xs p=KK κ xs (lo+i-1))
  (Q:=fun c st'=>∃ e i xs,c=(none,i,e)∧st'=setArr st xs∧k+1≤i∧i≤nrem∧xs.Perm (arrOf st)∧Out (arrOf st) xs lo (lo+nrem)∧tM κ xs lo (lo+i)∧e+1≤i∧∀ p,lo+i-(e+1)≤p→p<lo+i→KK κ xs p=KK κ xs (lo+i-1)) ?st1 ?fi1 ?in1) ?po1)
 case in1=>exact ⟨0,arrOf st,rfl,rfl,by omega,Array.Perm.refl _,Out.refl _ _ _,hs,by omega,fun p h2 h3=>by rw [show p=lo+(k+1)-1 by omega]⟩
 case fi1=>
  rintro c st' ⟨e,xs,rfl,rfl,h2,h3,h4,h5,h6,h7⟩
  exact ⟨e,_,xs,rfl,rfl,by omega,h2,h3,h4,h5,h6,h7⟩
 case st1=>
  rintro i c st' hi1 hi2 ⟨e,xs,rfl,rfl,h2,h3,h4,h5,h6,h7⟩
  have hB':SB kd a₀ (setArr st xs):=hB.arr h3
  have hsz:xs.size=a₀.size:=hB'.size
  dsimp only
  refine wpS_bind (kI hL hB' h0 (by omega) (by omega) ?_)
  dsimp only
  cases hb:κ.blt (KK κ (arrOf (setArr st xs)) (lo+i)) (KK κ (arrOf (setArr st xs)) (lo+i-1))
  case true=>
   rw [if_pos rfl]
   have hd:κ.kle (KK κ xs (lo+i)) (KK κ xs (lo+i-1)):=KeyOrd.kle_of_klt hb
   by_cases he:e>0
   ·rw [if_pos he,reverseSlice'_eq]
    have ke:=lP (κ:=κ) (xs:=xs) (i:=lo+i-(e+1)) (j:=lo+i) (by omega) h7
    refine wpS_bind (wpS_modify (wpS_pure ⟨0,mirror xs (lo+i-(e+1)) (lo+i) ((lo+i-(lo+i-(e+1))) / 2),rfl,rfl,by omega,(mirror_perm _ _ _ _).trans h3,h4.trans ((dh (by omega)).mono (by omega) (by omega)),?_,by omega,fun p h8 h9=>by rw [show p=lo+(i+1)-1 by omega]⟩))
    have:=cU h5 (by omega) hd
    exact fun p q a b c=>by rw [ke,ke];exact this p q a b c
   ·rw [if_neg he]
    exact wpS_pure ⟨0,xs,rfl,rfl,by omega,h3,h4,cU h5 (by omega) hd,by omega,fun p h8 h9=>by rw [show p=lo+(i+1)-1 by omega]⟩
  case false=>
   rw [if_neg (by decide)]
   refine wpS_bind (kI hL hB' h0 (by omega) (by omega) ?_)
   dsimp only
   cases hb2:κ.blt (KK κ (arrOf (setArr st xs)) (lo+i-1)) (KK κ (arrOf (setArr st xs)) (lo+i))
   case true=>
    rw [if_pos rfl]
    exact wpS_pure ⟨e,i,xs,rfl,rfl,hi1,h2,h3,h4,h5,h6,h7⟩
   case false=>
    rw [if_neg (by decide)]
    have heq:KK κ xs (lo+i-1)=KK κ xs (lo+i):=κ.total _ _ hb2 hb
    refine wpS_pure ⟨e+1,xs,rfl,rfl,by omega,h3,h4,cU h5 (by omega) hb2,by omega,fun p h8 h9=>?_⟩
    rw [show lo+(i+1)-1=lo+i by omega]
    by_cases hp:p=lo+i
    ·rw [hp]
    ·rw [h7 p (by omega) (by omega),heq]
 case po1=>
  rintro c st' ⟨e,i,xs,rfl,rfl,hki,h2,h3,h4,h5,h6,h7⟩
  have hB':SB kd a₀ (setArr st xs):=hB.arr h3
  have hsz:xs.size=a₀.size:=hB'.size
  dsimp only
  have last:∀ ys,ys.Perm xs→(∀ p,KK κ ys p=KK κ xs p)→Out xs ys lo (lo+nrem)→wpS (model prog w) A E s (reverseSlice' lo (lo+i) >>= fun _=>upL lo i nrem) Q (setArr st ys):=fun ys hp hk hO=>by
   rw [reverseSlice'_eq]
   have F6:ys.size=a₀.size:=hp.size_eq.trans hsz
   refine wpS_bind (wpS_modify ?_)
   have hB2:SB kd a₀ (setArr st (mirror ys lo (lo+i) ((lo+i-lo) / 2))):=hB.arr ((mirror_perm _ _ _ _).trans (hp.trans h3))
   refine DP hL h0 hB2 hn (by omega) h2 (fun p q a b c=>?_) fun n h8 h9 h10=>?_
   ·show κ.kle (KK κ (mirror ys lo (lo+i) ((lo+i-lo) / 2)) p) (KK κ (mirror ys lo (lo+i) ((lo+i-lo) / 2)) q)
    rw [KK_mirror (by omega),KK_mirror (by omega),if_pos (by omega),if_pos (by omega),hk,hk]
    exact h5 _ _ (by omega) (by omega) (by omega)
   ·exact h n _ (by omega) h9 ((mirror_perm _ _ _ _).trans (hp.trans h3)) h10 ((h4.trans hO).trans ((dh (by omega)).mono (by omega) (by omega)))
  by_cases he:e>0
  ·rw [if_pos he]
   refine wpS_bind ?_
   rw [reverseSlice'_eq]
   refine wpS_modify ?_
   exact last (mirror xs (lo+i-(e+1)) (lo+i) ((lo+i-(lo+i-(e+1))) / 2)) (mirror_perm _ _ _ _) (lP (xs:=xs) (by omega) h7) ((dh (xs:=xs) (by omega)).mono (by omega) (by omega))
  ·rw [if_neg he]
   exact last xs (Array.Perm.refl _) (fun _=>rfl) (Out.refl _ _ _)
theorem Bx (hL:lO (model prog w) A E s κ kd) (h0:KeysOf κ a₀) {st:SortSt} (hB:SB kd a₀ st) {lo nrem:Nat} (hn:lo+nrem≤a₀.size) (h1:1≤nrem) {Q:Option Nat→SortSt→Prop}
  (h:∀ n xs,1≤n→n≤nrem→xs.Perm (arrOf st)→Seg κ xs lo (lo+n)→Out (arrOf st) xs lo (lo+nrem)→Q (some n) (setArr st xs)):wpS (model prog w) A E s (countRun' lo nrem) Q st:=by
 rw [countRun'_eq]
 refine wpS_bind (wpS_mono (wpS_forRange (I:=fun i c st'=>c=(none,i)∧st'=st∧i≤nrem∧Seg κ (arrOf st) lo (lo+i))
  (Q:=fun c st'=>∃ n,c=(none,n)∧st'=st∧1≤n∧n≤nrem∧Seg κ (arrOf st) lo (lo+n)∧(n=nrem∨κ.klt (KK κ (arrOf st) (lo+n)) (KK κ (arrOf st) (lo+n-1)))) ?st1 ?fi1 ⟨rfl,rfl,h1,yE⟩) ?po1)
 case fi1=>
  rintro c st' ⟨rfl,rfl,hle,hsg⟩
  exact ⟨_,rfl,rfl,by omega,hle,hsg,.inl (by omega)⟩
 case st1=>
  rintro i c st' hi1 hi2 ⟨rfl,rfl,hle,hsg⟩
  dsimp only
  refine wpS_bind (kI hL hB h0 (by omega) (by omega) ?_)
  dsimp only
  cases hb:κ.blt (KK κ (arrOf st') (lo+i)) (KK κ (arrOf st') (lo+i-1))
  case true=>
   rw [if_pos rfl]
   exact wpS_pure ⟨i,rfl,rfl,hi1,hle,hsg,.inr hb⟩
  case false=>
   rw [if_neg (by decide)]
   exact wpS_pure ⟨rfl,rfl,by omega,nv hsg hi1 hb⟩
 case po1=>
  rintro c st' ⟨n,rfl,rfl,hn1,hle,hsg,hstop⟩
  dsimp only
  by_cases hnn:n=nrem
  ·rw [if_pos (by simpa using hnn)]
   exact wpS_pure (h n _ hn1 hle (Array.Perm.refl _) hsg (Out.refl _ _ _))
  ·rw [if_neg (by simpa using hnn)]
   have hlt:κ.klt (KK κ (arrOf st') (lo+n)) (KK κ (arrOf st') (lo+n-1)):=hstop.resolve_left hnn
   by_cases hn2:n>1
   ·rw [if_pos hn2]
    refine wpS_bind (kI hL hB h0 (by omega) (by omega) ?_)
    dsimp only
    cases hb:κ.blt (KK κ (arrOf st') lo) (KK κ (arrOf st') (lo+n-1))
    case true=>
     rw [if_pos rfl]
     exact wpS_pure (h n _ hn1 hle (Array.Perm.refl _) hsg (Out.refl _ _ _))
    case false=>
     rw [if_neg (by decide)]
     have hsz:=hB.size
     have By:∀ p,lo≤p→p<lo+n→KK κ (arrOf st') p=KK κ (arrOf st') (lo+n-1):=fun p h2 h3=>
      KeyOrd.kle_antisymm (hsg p _ h2 (by omega) (by omega)) (KeyOrd.kle_trans hb (hsg lo p (by omega) h2 h3))
     have ke:=lP (κ:=κ) (xs:=arrOf st') (i:=lo) (j:=lo+n) (by omega) By
     refine wpS_bind ?_
     rw [reverseSlice'_eq]
     refine wpS_modify ?_
     have hB2:SB kd a₀ (setArr st' (mirror (arrOf st') lo (lo+n) ((lo+n-lo) / 2))):=hB.arr (mirror_perm _ _ _ _)
     refine rA hL h0 hB2 hn hn1 (by omega) ?_ fun m xs h2 h3 h4 h5 h6=>?_
     ·have:tM κ (arrOf st') lo (lo+(n+1)):=cU (fun p q a b c=>by rw [By p a (by omega),By q (by omega) c];exact KeyOrd.kle_refl _) hn1 (KeyOrd.kle_of_klt hlt)
      intro p q a b c
      show κ.kle (KK κ (mirror (arrOf st') lo (lo+n) ((lo+n-lo) / 2)) q) (KK κ (mirror (arrOf st') lo (lo+n) ((lo+n-lo) / 2)) p)
      rw [ke,ke]
      exact this p q a b c
     ·exact h m xs h2 h3 (h4.trans (mirror_perm _ _ _ _)) h5 (((dh (by omega)).mono (by omega) (by omega)).trans h6)
   ·rw [if_neg hn2]
    have:n=1:=by omega
    subst this
    refine rA hL h0 hB hn hn1 (by omega) ?_ h
    exact cU (fun p q a b c=>by
     have:p=q:=by omega
     subst this
     exact KeyOrd.kle_refl _) hn1 (KeyOrd.kle_of_klt hlt)
end
end Ts
namespace Ts
open PySem PyProof.Rows
variable {M:Model} {A:Around} {E:Value→Shared→Prop} {s:Shared} {κ:KeyKind} {kd:SortKind} {a₀:Array Keyed}
end Ts
namespace Ts
open PySem PyProof.Rows
variable {M:Model} {A:Around} {E:Value→Shared→Prop} {s:Shared} {κ:KeyKind} {kd:SortKind} {a₀:Array Keyed}
noncomputable def kp (κ:KeyKind) (p:Keyed):κ.α:=(κ.keyOf p.1).getD κ.dflt
noncomputable def le (κ:KeyKind) (x y:Keyed):Prop:=κ.kle (kp κ x) (kp κ y)
theorem yF {a:Array Keyed} {i:Nat}:(a.extract i a.size).toList=a.toList.drop i:=by
 rw [Array.toList_extract,List.extract_eq_take_drop,List.take_of_length_le]
 rw [List.length_drop,Array.length_toList]
 exact Nat.le_refl _
theorem rB {xs:Array Keyed} (hk:KeysOf κ xs) {i:Nat} (h:i<xs.size):κ.keyOf (xs[i]).1=some (kp κ xs[i])∧KK κ xs i=kp κ xs[i]:=by
 obtain ⟨p,e,k⟩:=pV hk h
 rw [getElem?_pos xs i h] at e
 cases e
 have:KK κ xs i=kp κ xs[i]:=by
  unfold kp
  rw [k]
  rfl
 exact ⟨by rw [k,this],this⟩
end Ts
namespace Ts
open PySem PyProof.Rows
variable {A:Around} {E:Value→Shared→Prop} {s:Shared} {κ:KeyKind} {kd:SortKind} {a₀:Array Keyed} {prog:Program} {w:World}
end Ts
namespace Ts
open PySem PyProof.Rows
variable {A:Around} {E:Value→Shared→Prop} {s:Shared} {κ:KeyKind} {kd:SortKind} {a₀:Array Keyed} {prog:Program} {w:World}
end Ts
namespace Ts
open PySem PyProof.Rows
variable {A:Around} {E:Value→Shared→Prop} {s:Shared} {κ:KeyKind} {kd:SortKind} {a₀:Array Keyed} {prog:Program} {w:World}
theorem ext_get {xs:Array Keyed} {i j n:Nat} (hj:j≤xs.size) (h:n<(xs.extract i j).toList.length):∃ hn:i+n<xs.size,i+n<j∧(xs.extract i j).toList[n]=xs[i+n]:=by
 rw [Array.length_toList,Array.size_extract] at h
 refine ⟨by omega,by omega,?_⟩
 simp
theorem vC {xs:Array Keyed} (hk:KeysOf κ xs) {i j:Nat} (hj:j≤xs.size):Seg κ xs i j↔(xs.extract i j).toList.Pairwise (le κ):=by
 rw [List.pairwise_iff_getElem]
 constructor
 ·intro h p q hp hq hpq
  obtain ⟨p1,p2,ep⟩:=ext_get hj hp
  obtain ⟨q1,q2,eq⟩:=ext_get hj hq
  rw [ep,eq]
  have:=h (i+p) (i+q) (by omega) (by omega) q2
  rw [(rB hk p1).2,(rB hk q1).2] at this
  exact this
 ·intro h p q h1 h2 h3
  by_cases e:p=q
  ·subst e;exact KeyOrd.kle_refl _
  have hl:(xs.extract i j).toList.length=j-i:=by rw [Array.length_toList,Array.size_extract];omega
  obtain ⟨p1,p2,ep⟩:=ext_get (i:=i) (n:=p-i) hj (by omega)
  obtain ⟨q1,q2,eq⟩:=ext_get (i:=i) (n:=q-i) hj (by omega)
  have:=h (p-i) (q-i) (by omega) (by omega) (by omega)
  rw [ep,eq] at this
  have e1:KK κ xs p=kp κ (xs[i+(p-i)]):=(congrArg (KK κ xs) (show p=i+(p-i) by omega)).trans (rB hk p1).2
  have e2:KK κ xs q=kp κ (xs[i+(q-i)]):=(congrArg (KK κ xs) (show q=i+(q-i) by omega)).trans (rB hk q1).2
  rw [e1,e2]
  exact this
end Ts
namespace Ts
open PySem PyProof.Rows
variable {A:Around} {E:Value→Shared→Prop} {s:Shared} {κ:KeyKind} {kd:SortKind} {a₀:Array Keyed} {prog:Program} {w:World}
end Ts
namespace Ts
open PySem PyProof.Rows
variable {A:Around} {E:Value→Shared→Prop} {s:Shared} {κ:KeyKind} {kd:SortKind} {prog:Program} {w:World}
theorem done_one {vs:List Value} (h:vs.toArray.size<2):Seg κ (pairsOf vs) 0 (pairsOf vs).size:=fun p q _ h2 h3=>by
 rw [pairsOf_size] at h3
 simp at h
 have:p=q:=by omega
 subst this
 exact KeyOrd.kle_refl _
end Ts
namespace Ts
open PySem PyProof.Rows
variable {A:Around} {E:Value→Shared→Prop} {s:Shared} {κ:KeyKind} {kd:SortKind} {a₀:Array Keyed} {prog:Program} {w:World}
noncomputable def Fi (κ:KeyKind) (kd:SortKind) (a₀:Array Keyed) (st:SortSt):Prop:=SB kd a₀ st∧Seg κ (arrOf st) 0 a₀.size∧(pendingOf st).size≤1
theorem pX (hL:lO (model prog w) A E s κ kd) (h0:KeysOf κ a₀) {st:SortSt} (hB:SB kd a₀ st) (hp:pendingOf st=#[]) (h1:1≤a₀.size) (h64:a₀.size<64) {Q:Unit→SortSt→Prop}
  (h:∀ st',SB kd a₀ st'→Seg κ (arrOf st') 0 a₀.size→Q () st'):wpS (model prog w) A E s sortRuns' Q st:=by
 rw [sortRuns'_eq]
 refine wpS_bind (wpS_get ?_)
 try dsimp only
 rw [hB.size]
 have em:minRun' a₀.size a₀.size 0=a₀.size:=by
  obtain ⟨m,e⟩:∃ m,a₀.size=m+1:=⟨a₀.size-1,by omega⟩
  rw [e] at h64 ⊢
  rw [minRun'_succ,if_pos h64,Nat.add_zero]
 rw [em]
 refine wpS_bind (wpS_mono (wpS_forRange (I:=fun x c st'=>(x=0∧c=(none,0)∧SB kd a₀ st'∧pendingOf st'=#[])∨(1≤x∧c=(none,a₀.size)∧Fi κ kd a₀ st'))
  (Q:=fun c st'=>c=(none,a₀.size)∧Fi κ kd a₀ st') ?st1 ?fi1 (.inl ⟨rfl,rfl,hB,hp⟩)) ?po1)
 case fi1=>
  rintro c st' (⟨hx,_⟩ | ⟨_,rfl,F⟩)
  ·omega
  ·exact ⟨rfl,F⟩
 case st1=>
  rintro x c st' _ hx (⟨rfl,rfl,hB,hp⟩ | ⟨hx1,rfl,F⟩)
  ·try dsimp only
   rw [if_neg (by omega)]
   refine wpS_bind (Bx hL h0 hB (by omega) (by omega) fun n xs hn1 hn2 hpm hsg hout=>?_)
   try dsimp only
   have fin:∀ (k:Nat) (ys:Array Keyed),k=a₀.size→ys.Perm (arrOf st')→Seg κ ys 0 (0+k)→(fun c st'=>(0+1=0∧c=(none,0)∧SB kd a₀ st'∧pendingOf st'=#[])∨(1≤0+1∧c=(none,a₀.size)∧Fi κ kd a₀ st')) ((none:Option Unit),0+k) (setPending (setArr st' ys) ((pendingOf (setArr st' ys)).push (0,k,0))):=fun k ys hk hpm hsg=>by
    subst hk
    refine .inr ⟨by omega,by rw [Nat.zero_add],(hB.arr hpm).pend _,by rw [Nat.zero_add] at hsg;exact hsg,?_⟩
    show ((pendingOf st').push _).size≤1
    rw [hp]
    exact Nat.le_refl 1
   by_cases hmr:n<a₀.size
   ·rw [if_pos hmr]
    refine wpS_bind (wpS_lift (wpAny_rule ⟨rfl,?_⟩))
    have hB2:SB kd a₀ (setArr st' xs):=hB.arr hpm
    refine wpS_bind (Bw hL h0 hB2 (by omega) hn1 (by omega) hsg fun ys hp2 hs2 ho2=>?_)
    rw [if_neg (by decide)]
    show wpS _ _ _ _ _ _ (setArr st' ys)
    refine wpS_bind (wpS_get ?_)
    split
    ·rename_i u m c hb
     have:(pendingOf st').back?=some (u,m,c):=hb
     rw [hp] at this
     cases this
    ·exact wpS_bind (wpS_modify (wpS_pure (fin _ ys (by omega) (hp2.trans hpm) hs2)))
   ·rw [if_neg hmr]
    refine wpS_bind (wpS_get ?_)
    split
    ·rename_i u m c hb
     have:(pendingOf st').back?=some (u,m,c):=hb
     rw [hp] at this
     cases this
    ·exact wpS_bind (wpS_modify (wpS_pure (fin _ xs (by omega) hpm hsg)))
  ·try dsimp only
   rw [if_pos (Nat.le_refl _)]
   exact wpS_pure ⟨rfl,F⟩
 case po1=>
  rintro c st' ⟨rfl,F⟩
  try dsimp only
  refine wpS_bind (wpS_mono (wpS_forRange (I:=fun _ c st'=>c=(none,())∧Fi κ kd a₀ st') (Q:=fun c st'=>c=(none,())∧Fi κ kd a₀ st') ?st2 (fun c st' z=>z) ⟨rfl,F⟩) ?po2)
  case st2=>
   rintro x c st' _ hx ⟨rfl,F⟩
   try dsimp only
   refine wpS_bind (wpS_get ?_)
   rw [if_pos F.2.2]
   exact wpS_pure ⟨rfl,F⟩
  case po2=>
   rintro c st' ⟨rfl,F⟩
   exact wpS_pure (h st' F.1 F.2.1)
end Ts
namespace Ts
open PySem PyProof.Rows
variable {A:Around} {E:Value→Shared→Prop} {s:Shared} {κ:KeyKind} {kd:SortKind} {prog:Program} {w:World}
theorem pY {a:Addr} {vs:List Value} {n:Nat} {R:Fin→Shared→Prop} (ho:s.heap.get? a=some (seqObj "list" vs.toArray n)) (hn:vs.length≤63)
  (hk:KeysOf κ (pairsOf vs)) (hkk:∀ h',(∀ b o,b≠a→s.heap.get? b=some o→h'.get? b=some o)→2≤vs.length→∀ {Q:SortKind→Shared→Prop},Q kd { s with heap:=h' }→wpAny (model prog w) A (keyKind' vs.toArray) Q E { s with heap:=h' })
  (hL:∀ h',(∀ b o,b≠a→s.heap.get? b=some o→h'.get? b=some o)→lO (model prog w) A E { s with heap:=h' } κ kd)
  (h:∀ st':SortSt,(arrOf st').Perm (pairsOf vs)→Seg κ (arrOf st') 0 (pairsOf vs).size→R (.done (.ret .none)) { s with heap:=sortedHeap s.heap a vs ((arrOf st').map (·.2)) }) :
  wpAny (model prog w) A (Builtin.«list.sort» ⟨[.ref a],[]⟩) R E s:=by
 have lt:=Heap.lt_size ho
 have fits:sizeLine=sizeLine:=rfl
 rw [list_sort_plain]
 refine wpAny_bind (listItems_at ho rfl (wpAny_bind (listUpdate_at ho rfl ?_ (hsz:=by simp;exact Nat.le_trans hn (by decide)) (hsz2:=Nat.zero_le _))))
 obtain ⟨ep,h1⟩:∃ ep,(s.heap.update a (Obj.mapSeq fun _=>#[])).get? a=some (seqObj "list" #[] ep):=⟨_,get?_update_seq ho _⟩
 refine wpAny_bind (seqEpoch_at h1 rfl (wpAny_bind (wpAny_newTuple (wpAny_bind (wpAny_newList (wpAny_holding ?_))))))
 have h6:(((s.heap.update a (Obj.mapSeq fun _=>#[])).push (seqObj "tuple" vs.toArray 0)).push (seqObj "list" #[] 0)).get? a=some (seqObj "list" #[] ep):=by
  have z1:(s.heap.update a (Obj.mapSeq fun _=>#[])).objs.size=s.heap.objs.size:=Heap.size_update _ _ _
  rw [Heap.get?_push_ne _ _ _ (by rw [size_push',z1];exact Nat.ne_of_lt (Nat.lt_succ_of_lt lt)),Heap.get?_push_ne _ _ _ (by rw [z1];exact Nat.ne_of_lt lt)]
  exact h1
 have ext:∀ b o,b≠a→s.heap.get? b=some o→(((s.heap.update a (Obj.mapSeq fun _=>#[])).push (seqObj "tuple" vs.toArray 0)).push (seqObj "list" #[] 0)).get? b=some o:=fun b o hb e=>by
  have z1:(s.heap.update a (Obj.mapSeq fun _=>#[])).objs.size=s.heap.objs.size:=Heap.size_update _ _ _
  have lb:=Heap.lt_size e
  rw [Heap.get?_push_ne _ _ _ (by rw [size_push',z1];exact Nat.ne_of_lt (Nat.lt_succ_of_lt lb)),Heap.get?_push_ne _ _ _ (by rw [z1];exact Nat.ne_of_lt lb),Heap.get?_update_ne _ _ _ _ hb]
  exact e
 show wpAny (model prog w) A _ R E { s with heap:=(((s.heap.update a (Obj.mapSeq fun _=>#[])).push (seqObj "tuple" vs.toArray 0)).push (seqObj "list" #[] 0)) }
 have hkk':=hkk _ ext
 have hL':=hL _ ext
 have fin:∀ st':SortSt,failedOf st'=none→(arrOf st').Perm (pairsOf vs)→Seg κ (arrOf st') 0 (pairsOf vs).size →
   wpAny (model prog w) A (do
    let d ← seqEpoch a
    let touched:=d != ep
    Builtin.List.listUpdate (Value.ref a) fun _=>Array.map (fun x=>x.snd) (arrOf st')
    if let some e:=failedOf st' then
     rule "list.sort.comparison-raised"
     throw e
    if touched then
     rule "list.sort.modified"
     raiseError "ValueError" "list modified during sort"
    ret .none) R E { s with heap:=(((s.heap.update a (Obj.mapSeq fun _=>#[])).push (seqObj "tuple" vs.toArray 0)).push (seqObj "list" #[] 0)) }:=fun st' hf hp hs=>by
  refine wpAny_bind (seqEpoch_at h6 rfl ?_)
  have hz:(Array.map (fun x=>x.snd) (arrOf st')).size=vs.length:=by rw [Array.size_map,hp.size_eq,pairsOf_size]
  refine wpAny_bind (listUpdate_at h6 rfl ?_ (hsz:=Nat.zero_le _) (hsz2:=by rw [hz];exact Nat.le_trans hn (by decide)))
  rw [hf]
  simp only [bne_self_eq_false,Bool.false_eq_true,if_false]
  exact wpAny_pure (h st' hp hs)
 by_cases h2:vs.toArray.size<2
 ·rw [if_pos h2,if_pos h2]
  refine wpAny_bind (wpAny_pure ?_)
  refine wpAny_bind (show wpAny (model prog w) A ((pure ():StateT SortSt Sem Unit).run (SortSt.mk' general' (vs.toArray.zip vs.toArray) #[] 7 none)) _ E _ from ?_)
  rw [StateT.run_pure]
  refine wpAny_pure ?_
  exact fin (SortSt.mk' general' (vs.toArray.zip vs.toArray) #[] 7 none) rfl (Array.Perm.refl _) (done_one h2)
 ·rw [if_neg h2,if_neg h2]
  have hl:2≤vs.length:=by simp at h2;omega
  refine wpAny_bind (hkk' hl ?_)
  refine wpAny_bind (wpAny_mono (pX (κ:=κ) hL' hk (st:=SortSt.mk' kd (vs.toArray.zip vs.toArray) #[] 7 none) ⟨Array.Perm.refl _,rfl,rfl⟩ rfl (by rw [pairsOf_size];omega) (by rw [pairsOf_size];omega)
   (Q:=fun _ st'=>(arrOf st').Perm (pairsOf vs)∧failedOf st'=none∧Seg κ (arrOf st') 0 (pairsOf vs).size) fun st' sb sg=>⟨sb.perm,sb.failed,sg⟩) ?_ fun _ _ e=>e)
  rintro ⟨⟨⟩,st'⟩ s' ⟨rfl,hp,hf,hs⟩
  exact fin st' hf hp hs
theorem lQ {l:Addr} {vs:List Value} {Q:Value→Shared→Prop} (hl:s.heap.IsList l vs.toArray) (hn:vs.length≤63)
  (hk:KeysOf κ (pairsOf vs)) (hkk:∀ (A:Around) h',(∀ b o,s.heap.get? b=some o→h'.get? b=some o)→2≤vs.length→∀ {Q:SortKind→Shared→Prop} {E:Value→Shared→Prop},Q kd { s with heap:=h' }→wpAny (model prog w) A (keyKind' vs.toArray) Q E { s with heap:=h' })
  (hL:∀ (A:Around) (E:Value→Shared→Prop) h',(∀ b o,s.heap.get? b=some o→h'.get? b=some o)→lO (model prog w) A E { s with heap:=h' } κ kd)
  (h:∀ st':SortSt,(arrOf st').Perm (pairsOf vs)→Seg κ (arrOf st') 0 (pairsOf vs).size→Q (.ref (s.heap.objs.size+1)) { s with heap:=sortedAll s.heap vs ((arrOf st').map (·.2)) }) :
  wpAny (model prog w) A (call (.builtin "sorted") [.ref l]) Q E s:=by
 refine Calls.call_function_entry kind_sorted plain_sorted entry_sorted (args_sorted1 _) ?_
 unfold Builtin.«sorted»
 refine wpAny_bind (m:=checkCount "sorted" 1 1 _) (wpAny_pure (wpAny_bind (collect_list hl (wpAny_bind (wpAny_newList ?_ (Nat.le_trans hn (by decide)))) (Nat.le_trans hn (by decide)))))
 have zs:((s.heap.push (seqObj "list" #[] 0)).update s.heap.objs.size (Obj.mapSeq (·++vs.toArray))).objs.size=s.heap.objs.size+1:=by rw [Heap.size_update,size_push']
 have hL0:(((s.heap.push (seqObj "list" #[] 0)).update s.heap.objs.size (Obj.mapSeq (·++vs.toArray))).push (seqObj "list" vs.toArray 0)).get? (s.heap.objs.size+1)=some (seqObj "list" vs.toArray 0):=by
  rw [← zs];exact Heap.get?_push_size _ rfl
 have up:∀ b o,s.heap.get? b=some o→(((s.heap.push (seqObj "list" #[] 0)).update s.heap.objs.size (Obj.mapSeq (·++vs.toArray))).push (seqObj "list" vs.toArray 0)).get? b=some o:=fun b o e=>by
  have lb:=Heap.lt_size e
  rw [Heap.get?_push_ne _ _ _ (by rw [zs];exact Nat.ne_of_lt (Nat.lt_succ_of_lt lb)),Heap.get?_update_ne _ _ _ _ (Nat.ne_of_lt lb),Heap.get?_push_ne _ _ _ (Nat.ne_of_lt lb)]
  exact e
 show wpAny _ _ _ _ _ { s with heap:=((s.heap.push (seqObj "list" #[] 0)).update s.heap.objs.size (Obj.mapSeq (·++vs.toArray))).push (seqObj "list" vs.toArray 0) }
 dsimp only
 rw [zs]
 have nb:∀ b o,s.heap.get? b=some o→b≠s.heap.objs.size+1:=fun b o e=>Nat.ne_of_lt (Nat.lt_succ_of_lt (Heap.lt_size e))
 refine wpAny_bind (wpAny_holding (wpAny_call_entry slot_list_sort ⟨_,hL0,rfl⟩ entry_list_sort (pY (κ:=κ) (kd:=kd) hL0 hn hk (fun h' k h2 {Q} hq=>hkk _ h' (fun b o e=>k b o (nb b o e) (up b o e)) h2 hq) (fun h' k=>hL _ _ h' fun b o e=>k b o (nb b o e) (up b o e)) fun st' a1 a2=>⟨_,rfl,?_⟩) (args_list_sort _)))
 exact wpAny_pure ⟨_,rfl,h st' a1 a2⟩
end Ts
namespace Dm
noncomputable def lx:List Int→List Int→Bool
 | [],[]=>false
 | [],_::_=>true
 | _::_,[]=>false
 | a::x,b::y=>if a=b then lx x y else decide (a<b)
theorem gK:∀ a,lx a a=false
 | []=>rfl
 | a::x=>by rw [lx,if_pos rfl,gK x]
theorem gu:∀ a b c,lx a b=true→lx b c=true→lx a c=true
 | [],[],_,h,_=>by cases h
 | [],_::_,[],_,h=>by cases h
 | [],_::_,_::_,_,_=>rfl
 | _::_,[],_,h,_=>by cases h
 | _::_,_::_,[],_,h=>by cases h
 | a::x,b::y,c::z,h1,h2=>by
  rw [lx] at h1 h2 ⊢
  by_cases e1:a=b
  ·subst e1
   rw [if_pos rfl] at h1
   by_cases e2:a=c
   ·subst e2;rw [if_pos rfl] at h2 ⊢;exact gu x y z h1 h2
   ·rw [if_neg e2] at h2 ⊢;exact h2
  ·rw [if_neg e1] at h1
   have h1:=of_decide_eq_true h1
   by_cases e2:b=c
   ·subst e2;rw [if_neg e1];exact decide_eq_true h1
   ·rw [if_neg e2] at h2
    have h2:=of_decide_eq_true h2
    rw [if_neg (by omega)]
    exact decide_eq_true (by omega)
theorem gv:∀ a b,lx a b=false→lx b a=false→a=b
 | [],[],_,_=>rfl
 | [],_::_,h,_=>by cases h
 | _::_,[],_,h=>by cases h
 | a::x,b::y,h1,h2=>by
  rw [lx] at h1 h2
  by_cases e:a=b
  ·subst e
   rw [if_pos rfl] at h1 h2
   rw [gv x y h1 h2]
  ·rw [if_neg e] at h1
   rw [if_neg (fun z=>e z.symm)] at h2
   have h1:=of_decide_eq_false h1
   have h2:=of_decide_eq_false h2
   omega
theorem vD (a b c:List Int) (h:lx a c=true):lx a b=true∨lx b c=true:=by
 by_cases h1:lx a b=true
 ·exact .inl h1
 ·refine .inr ?_
  have h1':lx a b=false:=by simpa using h1
  by_cases h2:lx b a=true
  ·exact gu b a c h2 h
  ·have:=gv a b h1' (by simpa using h2)
   subst this
   exact h
noncomputable def ins {α:Type} (lt:α→α→Bool) (x:α):List α→List α
 | []=>[x]
 | y::l=>if lt y x then y::ins lt x l else x::y::l
noncomputable def kJ {α:Type} (lt:α→α→Bool):List α→List α
 | []=>[]
 | x::l=>ins lt x (kJ lt l)
noncomputable def iR:List Dat→Option (List (List Int))
 | []=>some []
 | .tup ds::r=>(match g9 ds with
  | some ns=>if ns.isEmpty then none else (iR r).map fun nss=>ns::nss
  | none=>none)
 | _=>none
noncomputable def tN (ns:List Int):Dat:=.tup (ns.map .int)
theorem iU {α:Type} (lt:α→α→Bool) (x:α):∀ l,(ins lt x l).Perm (x::l)
 | []=>List.Perm.refl _
 | y::l=>by
  rw [ins]
  split
  ·exact ((iU lt x l).cons y).trans (List.Perm.swap x y l)
  ·exact List.Perm.refl _
theorem di {α:Type} (lt:α→α→Bool):∀ l,(kJ lt l).Perm l
 | []=>List.Perm.refl _
 | x::l=>(iU lt x _).trans ((di lt l).cons x)
theorem iV {α:Type} {lt:α→α→Bool} (tr:∀ a b c,lt b a=false→lt c b=false→lt c a=false) (as:∀ a b,lt a b=true→lt b a=false) (x:α):∀ l:List α,l.Pairwise (fun a b=>lt b a=false)→(ins lt x l).Pairwise (fun a b=>lt b a=false)
 | [],_=>by simp [ins]
 | y::l,h=>by
  rw [ins]
  obtain ⟨h1,h2⟩:=List.pairwise_cons.mp h
  split
  ·rename_i hl
   refine List.pairwise_cons.mpr ⟨fun z hz=>?_,iV tr as x l h2⟩
   rcases List.mem_cons.mp ((iU lt x l).mem_iff.mp hz) with rfl | hz
   ·exact as _ _ hl
   ·exact h1 z hz
  ·rename_i hl
   have hl':lt y x=false:=by simpa using hl
   refine List.pairwise_cons.mpr ⟨fun z hz=>?_,h⟩
   rcases List.mem_cons.mp hz with rfl | hz
   ·exact hl'
   ·exact tr _ _ _ hl' (h1 z hz)
theorem gw {α:Type} {lt:α→α→Bool} (tr:∀ a b c,lt b a=false→lt c b=false→lt c a=false) (as:∀ a b,lt a b=true→lt b a=false):∀ l:List α,(kJ lt l).Pairwise (fun a b=>lt b a=false)
 | []=>List.Pairwise.nil
 | x::l=>iV tr as x _ (gw tr as l)
theorem g_ {α:Type} {lt:α→α→Bool} (tot:∀ a b,lt a b=false→lt b a=false→a=b):∀ {l m:List α},l.Perm m→l.Pairwise (fun a b=>lt b a=false)→m.Pairwise (fun a b=>lt b a=false)→l=m
 | [],m,p,_,_=>(List.nil_perm.mp p).symm
 | x::l,[],p,_,_=>by have:=p.length_eq;simp at this
 | x::l,y::m,p,h1,h2=>by
  obtain ⟨a1,a2⟩:=List.pairwise_cons.mp h1
  obtain ⟨b1,b2⟩:=List.pairwise_cons.mp h2
  have e:x=y:=by
   rcases List.mem_cons.mp (p.mem_iff.mp List.mem_cons_self) with hx | hx
   ·exact hx
   ·rcases List.mem_cons.mp (p.mem_iff.mpr (List.mem_cons_self (a:=y) (l:=m))) with hy | hy
    ·exact hy.symm
    ·exact tot x y (b1 x hx) (a1 y hy)
  subst e
  rw [g_ tot (List.Perm.cons_inv p) a2 b2]
end Dm
namespace Br
open PySem PySem.Spec PyProof.Rows L2
noncomputable def lexOrd:KeyOrd:=⟨List Int,Dm.lx,Dm.gK,Dm.gu,fun a b c h=>Dm.vD a b c h,Dm.gv⟩
noncomputable def gx:List V→Option (List Int)
 | []=>some []
 | .int i::r=>(gx r).map fun ns=>i::ns
 | _=>none
theorem cC:∀ ns:List Int,gx (ns.map V.int)=some ns
 | []=>rfl
 | n::ns=>by rw [List.map_cons,gx,cC ns];rfl
theorem nA:∀ {xs:List V} {ns:List Int},gx xs=some ns→xs=ns.map V.int
 | [],ns,h=>by cases h;rfl
 | .int i::r,ns,h=>by
  unfold gx at h
  cases e:gx r with
  | none=>rw [e] at h;cases h
  | some ms=>rw [e] at h;cases h;rw [nA e];rfl
 | .non::_,_,h=>by cases h
 | .bl _::_,_,h=>by cases h
 | .str _::_,_,h=>by cases h
 | .ref _::_,_,h=>by cases h
 | .byt _::_,_,h=>by cases h
 | .flt _::_,_,h=>by cases h
 | .ty _::_,_,h=>by cases h
noncomputable def j9 (H:Hp):Value→Option (List Int)
 | .ref a=>(match H a with
  | some (.tup xs)=>gx xs
  | _=>none)
 | _=>none
noncomputable def lR (H:Hp):KeyKind:={ lexOrd with keyOf:=j9 H,dflt:=([]:List Int) }
section
variable {prog:Program} {w:World} {A:Around} {E:Value→Shared→Prop} {s:Shared}
theorem nB {fin:Bool} {Q:Bool→Shared→Prop}:∀ {xs ys:List Value} {ks ms:List Int} (i:Nat),IntsAre xs ks→IntsAre ys ms→fin=decide (ks.length<ms.length)→Q (Dm.lx ks ms) s →
  PySem.W.KatLex prog w A true fin Q (xs.zip ys) i s
 | _,_,_,_,i,.nil,.nil,hf,q=>by subst hf;exact q
 | _,_,_,_,i,.nil,.cons m u h',hf,q=>by subst hf;exact q
 | _,_,_,_,i,.cons k t h,.nil,hf,q=>by subst hf;exact q
 | _,_,_,_,i,.cons k t h,.cons m u h',hf,q=>by
  rw [List.zip_cons_cons]
  refine PySem.W.kat_cons (wpAny_eqBool_int ?_)
  rw [Dm.lx] at q
  by_cases e:k=m
  ·rw [if_pos e] at q
   have:(k == m)=true:=by simpa using e
   rw [this]
   refine PySem.W.kat_yes (nB (i+1) h h' ?_ q)
   rw [hf]
   simp
  ·rw [if_neg e] at q
   have:(k == m)=false:=by simpa using e
   rw [this]
   refine PySem.W.kat_no ?_
   cases hb:(true&&i == 0)
   ·exact PySem.W.kat_one _ _ (lt_int q)
   ·exact oneLt_int q
theorem tO {κ:KeyKind} {kd:SortKind} (h:∀ (x y:Keyed) (a b:κ.α) {Q:Bool→Shared→Prop} {E:Value→Shared→Prop},κ.keyOf x.1=some a→κ.keyOf y.1=some b→Q (κ.blt a b) s→wpAny (model prog w) A (keyLt' kd x.1 y.1) Q E s):Ts.lO (model prog w) A E s κ kd:=fun x y a b st Q ha hb hk q=>by
 rw [lt'_eq]
 refine wpS_bind (wpS_get ?_)
 rw [hk]
 refine wpS_bind (wpS_lift (wpAny_attempt (h x y a b ha hb ⟨rfl,?_⟩)))
 exact wpS_pure q
end
noncomputable def bk:Value→V
 | .ref a=>.ref a
 | .int n _=>.int n
 | _=>.non
section
variable {X:Cx}
theorem gM {vs:List Value} {q:Keyed} (h:q∈(pairsOf vs).toList):q.1=q.2∧q.1∈vs:=by
 rw [pairsOf_toList] at h
 have hh:∀ (l:List Value) (q:Keyed),q∈l.zip l→q.1=q.2∧q.1∈l:=fun l=>by
  induction l with
  | nil=>intro q h;cases h
  | cons v l ih=>
   intro q h
   rw [List.zip_cons_cons] at h
   rcases List.mem_cons.mp h with rfl | h
   ·exact ⟨rfl,List.mem_cons_self⟩
   ·exact ⟨(ih q h).1,List.mem_cons_of_mem _ (ih q h).2⟩
 exact hh _ q h
theorem tP (vs:List Value):(pairsOf vs).toList.map (·.2)=vs:=by
 rw [pairsOf_toList]
 have hh:∀ l:List Value,(l.zip l).map (·.2)=l:=fun l=>by
  induction l with
  | nil=>rfl
  | cons v l ih=>rw [List.zip_cons_cons,List.map_cons,ih]
 exact hh vs
theorem BA {κ:KeyKind} {vs:List Value} {st':SortSt} (hk:KeysOf κ (pairsOf vs)) (hp:(arrOf st').Perm (pairsOf vs)) (hs:Ts.Seg κ (arrOf st') 0 (pairsOf vs).size) :
  ∃ out:List Value,((arrOf st').map (·.2))=out.toArray∧out.Perm vs∧out.Pairwise (fun u v=>∀ a b,κ.keyOf u=some a→κ.keyOf v=some b→κ.blt b a=false):=by
 have pm:=Array.perm_iff_toList_perm.mp hp
 refine ⟨(arrOf st').toList.map (·.2),Array.toList_inj.mp (by rw [Array.toList_map]),?_,?_⟩
 ·have:=pm.map (·.2)
  rwa [tP] at this
 ·have ka:KeysOf κ (arrOf st'):=fun q hq=>hk q (pm.mem_iff.mp hq)
  have hz:(arrOf st').size=(pairsOf vs).size:=hp.size_eq
  rw [← hz] at hs
  have:=(Ts.vC ka (i:=0) (j:=(arrOf st').size) (Nat.le_refl _)).mp hs
  rw [Ts.yF,List.drop_zero] at this
  rw [List.pairwise_map]
  refine List.Pairwise.imp_of_mem ?_ this
  intro x y hx hy hle a b ha hb
  have e1:=(gM (pm.mem_iff.mp hx)).1
  have e2:=(gM (pm.mem_iff.mp hy)).1
  have hle':κ.blt (Ts.kp κ y) (Ts.kp κ x)=false:=hle
  unfold Ts.kp at hle'
  rw [e1,e2,ha,hb] at hle'
  exact hle'
end
theorem kK {H0:Hp}:∀ {zs:List V} (ks:V→List Int),(∀ z∈zs,∃ a:Addr,z=.ref a∧H0 a=some (.tup ((ks z).map V.int)))→aE H0 zs ((zs.map ks).map Dm.tN)
 | [],ks,_=>.nil
 | z::zs,ks,h=>by
  obtain ⟨a,rfl,e⟩:=h z List.mem_cons_self
  refine .cons (.tup e ?_) (kK ks fun y hy=>h y (List.mem_cons_of_mem _ hy))
  have:∀ ns:List Int,aE H0 (ns.map V.int) (ns.map Dm.Dat.int):=fun ns=>by
   induction ns with
   | nil=>exact .nil
   | cons n ns ih=>exact .cons (.int n) ih
  exact this _
end Br
namespace L2
open PySem PySem.Spec PyProof.Rows
section
variable {P:Program} {w:World} {K:PySem.W.Frag} {mg:Str→Option Value} {base:Heap} {N:List Str} {qual:Str} {scope:Scope} {f:Addr} {cd:Value} {A:Around} {outer:List Env} {s₀:Shared} {H₀:Hp} {E:XK} {C:Addr}
 {pins:List (Addr×Obj)} {σ:St} {H:Hp} {s:Shared}
end
end L2
namespace Dm
noncomputable abbrev FN:=Env→List (List Dat)→Option (Env×List (List Dat))
end Dm
namespace Br
open PySem PySem.Spec PyProof.Rows L2
section
variable {X:Cx} {a b c e:Expr} {fa fb fc:Dm.FE} {p pos:Pos}
theorem rC {op op':CmpOp} {r r':R2} {g h:Dm.Dat→Dm.Dat→Option Dm.RV} (o1:OpR X (compareOp op) r) (q1:OpD r g) (o2:OpR X (compareOp op') r') (q2:OpD r' h) (ha:DE X a fa) (hb:DE X b fb) (hc:DE X c fc)
  (hm:lastMarks [op,op'] [b,c]=false:=by with_unfolding_all rfl):DT X (.Compare a [op,op'] [b,c] pos) (Dm.tV (Dm.bR g h fa fb fc)):=PT.weak (uC o1 o2 ha hb hc hm) fun _ _ _ h=>qY q1 q2 (pN h)
end
open PySem
variable {C:List Value→Prop} {us:List Value}
theorem len0 (h:us.length=0) (c:C []):C us:=by rw [List.eq_nil_of_length_eq_zero h];exact c
theorem BB {n:Nat} {C:List Value→Prop} {us:List Value} (h:us.length=n+1) (c:∀ a us,us.length=n→C (a::us)):C us:=by
 cases us with
 | nil=>cases h
 | cons a us=>exact c a us (by simpa using h)
theorem DQ (h:us.length=1) (c:∀ a,C [a]):C us:=BB h fun a _ h=>len0 h (C:=fun us=>C (a::us)) (c a)
theorem vv (h:us.length=2) (c:∀ a b,C [a,b]):C us:=BB h fun a _ h=>DQ h (C:=fun us=>C (a::us)) (c a)
theorem FG (h:us.length=3) (c:∀ a b d,C [a,b,d]):C us:=BB h fun a _ h=>vv h (C:=fun us=>C (a::us)) (c a)
end Br
namespace L2
open PySem
variable {K:PySem.W.Frag} {x qual:Str} {st:Stmt} {f:Addr} {fd:FuncData} {ps:List Str}
theorem Fun.bM (F:Fun K x qual st f fd) (hp:ps.length=1) (h:∀ (kV doc pm:Value) (an:Option Addr) (cdv ct:Value) (a:Value),bindArgs (PySem.W.fnOf x qual (bD st) (bA st) (ai st) .none kV doc pm an cdv ct) ⟨[a],[]⟩=pure (ps.zip [a])):Binds K fd ps []:=
 F.binds fun kV doc pm an cdv ct us hl=>Br.DQ (C:=fun us=>bindArgs (PySem.W.fnOf x qual (bD st) (bA st) (ai st) .none kV doc pm an cdv ct) ⟨us,[]⟩=pure (ps.zip us)) (hl.trans hp) (h kV doc pm an cdv ct)
theorem Fun.cP (F:Fun K x qual st f fd) (hp:ps.length=2) (h:∀ (kV doc pm:Value) (an:Option Addr) (cdv ct:Value) (a b:Value),bindArgs (PySem.W.fnOf x qual (bD st) (bA st) (ai st) .none kV doc pm an cdv ct) ⟨[a,b],[]⟩=pure (ps.zip [a,b])):Binds K fd ps []:=
 F.binds fun kV doc pm an cdv ct us hl=>Br.vv (C:=fun us=>bindArgs (PySem.W.fnOf x qual (bD st) (bA st) (ai st) .none kV doc pm an cdv ct) ⟨us,[]⟩=pure (ps.zip us)) (hl.trans hp) (h kV doc pm an cdv ct)
theorem Fun.dj (F:Fun K x qual st f fd) (hp:ps.length=3) (h:∀ (kV doc pm:Value) (an:Option Addr) (cdv ct:Value) (a b d:Value),bindArgs (PySem.W.fnOf x qual (bD st) (bA st) (ai st) .none kV doc pm an cdv ct) ⟨[a,b,d],[]⟩=pure (ps.zip [a,b,d])):Binds K fd ps []:=
 F.binds fun kV doc pm an cdv ct us hl=>Br.FG (C:=fun us=>bindArgs (PySem.W.fnOf x qual (bD st) (bA st) (ai st) .none kV doc pm an cdv ct) ⟨us,[]⟩=pure (ps.zip us)) (hl.trans hp) (h kV doc pm an cdv ct)
end L2
namespace Br
open PySem PySem.Spec PyProof.Rows L2
theorem zK {H0:Hp}:∀ {ds:List Dm.Dat} {us:List V} {nss:List (List Int)},aE H0 us ds→Dm.iR ds=some nss→∃ qs:List (List Int×Addr),us=qs.map (fun p=>V.ref p.2)∧nss=qs.map (·.1)∧∀ p∈qs,H0 p.2=some (.tup (p.1.map V.int))∧p.1≠[]
 | [],_,nss,r,e=>by cases r;cases e;exact ⟨[],rfl,rfl,fun p h=>by cases h⟩
 | d::ds,_,nss,r,e=>by
  cases r with
  | cons h t=>
   cases d with
   | tup xs=>
    unfold Dm.iR at e
    cases q1:Dm.g9 xs with
    | none=>rw [q1] at e;cases e
    | some ns=>
     rw [q1] at e
     dsimp only at e
     split at e
     ·cases e
     ·rename_i hne
      cases q2:Dm.iR ds with
      | none=>rw [q2] at e;cases e
      | some mss=>
       rw [q2] at e
       cases e
       obtain ⟨qs,a1,a2,a3⟩:=zK t q2
       cases h with
       | tup ha hr=>
        rename_i b ys
        have:=nu hr q1
        subst this
        refine ⟨(ns,b)::qs,by rw [List.map_cons,← a1],by rw [List.map_cons,← a2],fun p hp=>?_⟩
        rcases List.mem_cons.mp hp with z | z
        ·rw [z]
         exact ⟨ha,fun z=>by
          have z:ns=[]:=z
          rw [z] at hne
          exact hne rfl⟩
        ·exact a3 p z
   | _=>cases e
open PySem L2
structure br (K:PySem.W.Frag) (x:Str) (st:Stmt) (a:Addr) (fd:FuncData):Prop where
 e:PySem.W.nsIn K mainGlobals x=some (some (.ref a))
 F:Fun K x x st a fd
variable {K:PySem.W.Frag} {x:Str} {st:Stmt} {a:Addr} {fd:FuncData} {hp:Heap} {mg:Str→Option Value}
theorem aI {oc:Value} {od an:Option Addr} {osl:Array (Option Value)} {kV doc pm cdv ct:Value} (e:PySem.W.nsIn K mainGlobals x=some (some (.ref a)))
  (l:K.lookup a=some ⟨oc,od,.func (PySem.W.fnOf x x (bD st) (bA st) (ai st) .none kV doc pm an cdv ct),osl⟩) (c:PySem.W.codeIn K cdv x=true) (k:PySem.W.keepIn K (.ref a)=true) :
  br K x st a (PySem.W.fnOf x x (bD st) (bA st) (ai st) .none kV doc pm an cdv ct):=⟨e,AU l c k⟩
theorem mgo {v:Value} (X:K.In hp) (G:hp.Ns mainGlobals mg) (e:PySem.W.nsIn K mainGlobals x=some (some v)):mg x=some v:=PySem.W.mg_of X G e
theorem mno (X:K.In hp) (G:hp.Ns mainGlobals mg) (e:PySem.W.nsIn K mainGlobals x=some none):mg x=none:=PySem.W.mg_none_of X G e
theorem br.m (h:br K x st a fd) (X:K.In hp) (G:hp.Ns mainGlobals mg):mg x=some (.ref a):=PySem.W.mg_of X G h.e
theorem br.FH {y:Str} (h:br K x st a fd) (hb:∀ (kV doc pm:Value) (an:Option Addr) (cdv ct v:Value),bindArgs (PySem.W.fnOf x x (bD st) (bA st) (ai st) .none kV doc pm an cdv ct) ⟨[v],[]⟩=pure [(y,v)]) (s:Shared) (v:Value):BindsTo s fd ⟨[v],[]⟩ [(y,v)]:=by
 obtain ⟨oc,od,kV,doc,pm,an,cdv,ct,osl,rfl,lk,hcd⟩:=h.F.ex
 exact .of_eq (hb kV doc pm an cdv ct v)
theorem hm {j k:Nat} {A:Around} (r:bG k A) (h:j≤k:=by decide):bG j A:=r.mono h
theorem fsc {N P:List Str} {sc:Scope} (h1:sc.kind=.function) (h2:sc.isCoroutine=false) (h3:sc.isGenerator=false) (h4:N.take P.length=P) (h:N.Nodup∧(∀ x∈P,sc.names.lookup x=some .local∨sc.names.lookup x=some .cell)∧∀ y∈sc.names,y.2≠.free):aq N P sc:=⟨h1,h2,h3,h.1,h4,h.2.1,h.2.2⟩
end Br
namespace Dm
noncomputable def codes (s:String):List Nat:=s.toList.map Char.toNat
noncomputable def shJ:List (List Nat)→List Nat
 | []=>[]
 | [x]=>x
 | x::y::r=>x++44::32::shJ (y::r)
mutual
noncomputable def shw:Dat→List Nat
 | .non=>codes "None"
 | .bl b=>codes (if b then "True" else "False")
 | .int i=>codes (toString i)
 | .str s=>39::(s++[39])
 | .tup xs=>40::(shJ (dJ xs)++(if xs.length == 1 then [44,41] else [41]))
 | .lst xs=>91::(shJ (dJ xs)++[93])
 | _=>[]
noncomputable def dJ:List Dat→List (List Nat)
 | []=>[]
 | x::r=>shw x::dJ r
end
mutual
noncomputable def gO:Nat→Dat→Bool
 | _,.non=>true
 | _,.bl _=>true
 | _,.int i=>decide (i.natAbs<10 ^ 100)
 | _,.str s=>decide (s=[115,105,110,99,101]∨s=[110,101,118,101,114])
 | n+1,.tup xs=>bu n xs
 | n+1,.lst xs=>bu n xs
 | _,_=>false
noncomputable def bu:Nat→List Dat→Bool
 | _,[]=>true
 | n,x::r=>gO n x&&bu n r
end
mutual
noncomputable def j_:Dat→Nat
 | .tup xs=>1+h_ xs
 | .lst xs=>1+h_ xs
 | _=>1
noncomputable def h_:List Dat→Nat
 | []=>0
 | x::r=>j_ x+h_ r
end
noncomputable def pZ:List Dat→Option RV
 | [.tup xs]=>if gO 8 (.tup xs)=true∧j_ (.tup xs)≤900 then some (.val (.str (shw (.tup xs)))) else none
 | [.lst xs]=>if gO 8 (.lst xs)=true∧j_ (.lst xs)≤900 then some (.val (.str (shw (.lst xs)))) else none
 | _=>none
theorem repr_len {n:Nat} (h:n<10 ^ 100):n.repr.toList.length≤100:=by
 rw [Nat.toList_repr]
 exact (Nat.length_toDigits_le_iff (by decide) (by decide)).mpr h
theorem nC {i:Int} (h:i.natAbs<10 ^ 100):(shw (.int i)).length≤101:=by
 unfold shw codes
 rw [List.length_map,Int.toString_eq_repr]
 unfold Int.repr
 cases i with
 | ofNat m=>exact Nat.le_succ_of_le (repr_len h)
 | negSucc m=>
  dsimp only
  rw [String.toList_append,List.length_append]
  have:=repr_len (n:=m.succ) h
  show 1+_≤101
  omega
theorem lS:∀ l:List (List Nat),(shJ l).length≤(l.map fun x=>x.length+2).sum
 | []=>Nat.zero_le _
 | [x]=>by simp [shJ]
 | x::y::r=>by
  have:=lS (y::r)
  unfold shJ
  simp only [List.length_append,List.length_cons,List.map_cons,List.sum_cons] at this ⊢
  omega
mutual
theorem lT:∀ (n:Nat) (d:Dat),gO n d=true→(shw d).length+2≤110*j_ d
 | _,.non,_=>by decide
 | _,.bl b,_=>by cases b<;>decide
 | n,.int i,h=>by
  have:=nC (i:=i) (by cases n<;>exact of_decide_eq_true h)
  unfold j_
  omega
 | n+1,.tup xs,h=>by
  have:=iW n xs h
  have j:=lS (dJ xs)
  unfold shw j_
  simp only [List.length_cons,List.length_append]
  split<;>simp<;>omega
 | n+1,.lst xs,h=>by
  have:=iW n xs h
  have j:=lS (dJ xs)
  unfold shw j_
  simp only [List.length_cons,List.length_append]
  simp
  omega
 | 0,.tup xs,h=>by cases h
 | 0,.lst xs,h=>by cases h
 | n,.str s,h=>by
  have h:s=[115,105,110,99,101]∨s=[110,101,118,101,114]:=by cases n<;>exact of_decide_eq_true h
  rcases h with rfl | rfl<;>decide
 | 0,.dct _ _,h=>by cases h
 | _+1,.dct _ _,h=>by cases h
 | 0,.exc _,h=>by cases h
 | _+1,.exc _,h=>by cases h
 | 0,.fn _,h=>by cases h
 | _+1,.fn _,h=>by cases h
theorem iW:∀ (n:Nat) (xs:List Dat),bu n xs=true→((dJ xs).map fun x=>x.length+2).sum≤110*h_ xs
 | _,[],_=>by simp [dJ]
 | n,x::r,h=>by
  unfold bu at h
  rw [Bool.and_eq_true] at h
  have a:=lT n x h.1
  have b:=iW n r h.2
  unfold dJ h_
  simp only [List.map_cons,List.sum_cons]
  omega
end
end Dm
namespace Br
open PySem PySem.Spec PyProof.Rows L2
mutual
noncomputable def pyD:Dm.Dat→PyData
 | .bl b=>.bool b
 | .int i=>.int i
 | .str s=>.str ⟨s.toArray⟩
 | .tup xs=>.tuple (eU xs)
 | .lst xs=>.list (eU xs)
 | _=>.none
noncomputable def eU:List Dm.Dat→List PyData
 | []=>[]
 | x::r=>pyD x::eU r
end
theorem nD:∀ xs:List Dm.Dat,(eU xs).length=xs.length
 | []=>rfl
 | x::r=>by simp [eU,nD r]
theorem cQ (s:String):Str.ofString s=⟨(Dm.codes s).toArray⟩:=Str.ofString_eq_toList s
theorem dm (a b:List Nat):((⟨a.toArray⟩:Str)++(⟨b.toArray⟩:Str))=⟨(a++b).toArray⟩:=by
 show Str.append _ _=_
 unfold Str.append
 simp
theorem iX:∀ l:List (List Nat),Str.join ", " (l.map fun x=>(⟨x.toArray⟩:Str))=⟨(Dm.shJ l).toArray⟩
 | []=>rfl
 | [x]=>rfl
 | x::y::r=>by
  have:=iX (y::r)
  show (⟨x.toArray⟩:Str)++(", " : Str)++Str.join ", " ((y::r).map fun x=>(⟨x.toArray⟩:Str))=_
  rw [this]
  have e:((", " : String):Str)=⟨[44,32].toArray⟩:=cQ ", "
  rw [e,dm x [44,32],dm (x++[44,32]) (Dm.shJ (y::r))]
  simp [Dm.shJ]
mutual
theorem nE:∀ (n:Nat) (d:Dm.Dat),Dm.gO n d=true→(pyD d).shown=⟨(Dm.shw d).toArray⟩
 | _,.non,_=>by unfold pyD;rw [PyData.shown_none];exact cQ "None"
 | _,.bl b,_=>by
  unfold pyD
  rw [PyData.shown_bool]
  cases b
  ·exact cQ "False"
  ·exact cQ "True"
 | _,.int i,_=>by unfold pyD;rw [PyData.shown_int];exact cQ (toString i)
 | n+1,.tup xs,h=>by
  unfold pyD
  rw [PyData.shown_tuple,gP n xs h,iX,nD]
  have e1:(("(" : String):Str)=⟨[40].toArray⟩:=cQ "("
  rw [e1,dm [40] (Dm.shJ (Dm.dJ xs))]
  unfold Dm.shw
  by_cases q:(xs.length == 1)=true
  ·rw [if_pos q,if_pos q]
   have e2:((",)" : String):Str)=⟨[44,41].toArray⟩:=cQ ",)"
   rw [e2,dm ([40]++Dm.shJ (Dm.dJ xs)) [44,41]]
   simp
  ·rw [if_neg q,if_neg q]
   have e2:((")" : String):Str)=⟨[41].toArray⟩:=cQ ")"
   rw [e2,dm ([40]++Dm.shJ (Dm.dJ xs)) [41]]
   simp
 | n+1,.lst xs,h=>by
  unfold pyD
  rw [PyData.shown_list,gP n xs h,iX]
  have e1:(("[" : String):Str)=⟨[91].toArray⟩:=cQ "["
  have e2:(("]" : String):Str)=⟨[93].toArray⟩:=cQ "]"
  rw [e1,e2,dm [91] (Dm.shJ (Dm.dJ xs)),dm ([91]++Dm.shJ (Dm.dJ xs)) [93]]
  unfold Dm.shw
  simp
 | 0,.tup xs,h=>by cases h
 | 0,.lst xs,h=>by cases h
 | n,.str s,h=>by
  have h:s=[115,105,110,99,101]∨s=[110,101,118,101,114]:=by cases n<;>exact of_decide_eq_true h
  unfold pyD
  rw [PyData.shown_str]
  rcases h with rfl | rfl<;>decide +kernel
 | 0,.dct _ _,h=>by cases h
 | _+1,.dct _ _,h=>by cases h
 | 0,.exc _,h=>by cases h
 | _+1,.exc _,h=>by cases h
 | 0,.fn _,h=>by cases h
 | _+1,.fn _,h=>by cases h
theorem gP:∀ (n:Nat) (xs:List Dm.Dat),Dm.bu n xs=true→PyData.shownAll (eU xs)=(Dm.dJ xs).map fun x=>(⟨x.toArray⟩:Str)
 | _,[],_=>by unfold eU Dm.dJ;rw [PyData.shownAll_nil];rfl
 | n,x::r,h=>by
  unfold Dm.bu at h
  rw [Bool.and_eq_true] at h
  unfold eU Dm.dJ
  rw [PyData.shownAll_cons,nE n x h.1,gP n r h.2]
  rfl
end
mutual
theorem vE:∀ (n:Nat) (d:Dm.Dat),Dm.gO n d=true→(pyD d).showable=true∧(pyD d).hasDict=false∧(pyD d).depth≤n
 | _,.non,_=>by unfold pyD PyData.showable PyData.hasDict PyData.depth;exact ⟨rfl,rfl,Nat.zero_le _⟩
 | _,.bl b,_=>by unfold pyD PyData.showable PyData.hasDict PyData.depth;exact ⟨rfl,rfl,Nat.zero_le _⟩
 | n,.int i,h=>by
  unfold pyD PyData.showable PyData.hasDict PyData.depth
  refine ⟨decide_eq_true ?_,rfl,Nat.zero_le _⟩
  have hi:i.natAbs<10 ^ 100:=by cases n<;>exact of_decide_eq_true h
  by_cases z:i.natAbs=0
  ·rw [z];decide
  ·exact (Nat.log2_lt z).mpr (Nat.lt_trans hi (by decide))
 | n+1,.tup xs,h=>by
  obtain ⟨h1,h2,h3⟩:=fits_of n xs h
  unfold pyD PyData.showable PyData.hasDict PyData.depth
  exact ⟨h1,h2,by omega⟩
 | n+1,.lst xs,h=>by
  obtain ⟨h1,h2,h3⟩:=fits_of n xs h
  unfold pyD PyData.showable PyData.hasDict PyData.depth
  exact ⟨h1,h2,by omega⟩
 | 0,.tup xs,h=>by cases h
 | 0,.lst xs,h=>by cases h
 | n,.str s,h=>by unfold pyD PyData.showable PyData.hasDict PyData.depth;exact ⟨rfl,rfl,Nat.zero_le _⟩
 | 0,.dct _ _,h=>by cases h
 | _+1,.dct _ _,h=>by cases h
 | 0,.exc _,h=>by cases h
 | _+1,.exc _,h=>by cases h
 | 0,.fn _,h=>by cases h
 | _+1,.fn _,h=>by cases h
theorem fits_of:∀ (n:Nat) (xs:List Dm.Dat),Dm.bu n xs=true→PyData.showableAll (eU xs)=true∧PyData.hasDictAll (eU xs)=false∧PyData.depthAll (eU xs)≤n
 | _,[],_=>by unfold eU PyData.showableAll PyData.hasDictAll PyData.depthAll;exact ⟨rfl,rfl,Nat.zero_le _⟩
 | n,x::r,h=>by
  unfold Dm.bu at h
  rw [Bool.and_eq_true] at h
  obtain ⟨a1,a2,a3⟩:=vE n x h.1
  obtain ⟨b1,b2,b3⟩:=fits_of n r h.2
  unfold eU PyData.showableAll PyData.hasDictAll PyData.depthAll
  exact ⟨by rw [a1,b1];rfl,by rw [a2,b2];rfl,Nat.max_le.mpr ⟨a3,b3⟩⟩
end
mutual
theorem nF {X:Cx} {pins:List (Addr×Obj)} {σ:L2.St} {H:Hp} {s:Shared} (I:Inv X pins σ H s):∀ (n:Nat) (d:Dm.Dat) (v:V) (u:Value),Dm.gO n d=true→Rep H v d→RelV v u→∃ as,Reads s.heap u (pyD d) as
 | _,.non,v,u,_,r,q=>by cases r;cases q;unfold pyD;exact ⟨_,.none⟩
 | _,.bl b,v,u,_,r,q=>by cases r;cases q;unfold pyD;exact ⟨_,.bool b⟩
 | _,.int i,v,u,_,r,q=>by cases r;obtain ⟨t,rfl⟩:=q;unfold pyD;exact ⟨_,.int i t⟩
 | n+1,.tup ds,v,u,h,r,q=>by
  cases r with
  | @tup a xs _ hq rs=>
   cases q
   obtain ⟨its,rv,⟨o,ho,hc,m,hd⟩,hz⟩:=I.tuple (SqT.of (K:=X.K) hq)
   obtain ⟨as,ha⟩:=gQ I n ds xs its h rs rv
   unfold pyD
   exact ⟨as,.tuple ho hc hd (by simpa using ha)⟩
 | n+1,.lst ds,v,u,h,r,q=>by
  cases r with
  | @lst a xs _ hq rs=>
   cases q
   obtain ⟨its,rv,⟨o,m,ho,hc,_,hd⟩,hz⟩:=I.list (.inl hq)
   obtain ⟨as,ha⟩:=gQ I n ds xs its h rs rv
   unfold pyD
   exact ⟨_,.list ho hc hd (by simpa using ha)⟩
 | 0,.tup xs,_,_,h,_,_=>by cases h
 | 0,.lst xs,_,_,h,_,_=>by cases h
 | n,.str s,v,u,_,r,q=>by cases r;obtain ⟨t,rfl⟩:=q;unfold pyD;exact ⟨_,.str _ t⟩
 | 0,.dct _ _,_,_,h,_,_=>by cases h
 | _+1,.dct _ _,_,_,h,_,_=>by cases h
 | 0,.exc _,_,_,h,_,_=>by cases h
 | _+1,.exc _,_,_,h,_,_=>by cases h
 | 0,.fn _,_,_,h,_,_=>by cases h
 | _+1,.fn _,_,_,h,_,_=>by cases h
theorem gQ {X:Cx} {pins:List (Addr×Obj)} {σ:L2.St} {H:Hp} {s:Shared} (I:Inv X pins σ H s):∀ (n:Nat) (ds:List Dm.Dat) (vs:List V) (us:List Value),Dm.bu n ds=true→aE H vs ds→Vals vs us→∃ as,ReadsAll s.heap us (eU ds) as
 | _,[],vs,us,_,r,q=>by cases r;cases q;unfold eU;exact ⟨_,.nil⟩
 | n,d::ds,vs,us,h,r,q=>by
  cases r with
  | cons r rs=>
   cases q with
   | cons q qs=>
    unfold Dm.bu at h
    rw [Bool.and_eq_true] at h
    obtain ⟨as,ha⟩:=nF I n d _ _ h.1 r q
    obtain ⟨bs,hb⟩:=gQ I n ds _ _ h.2 rs qs
    unfold eU
    exact ⟨_,.cons ha hb⟩
end
noncomputable def DR:List V→Hp→VK→Prop:=fun xs H Q=>∃ (a:Addr) (d:Dm.Dat),xs=[.ref a]∧Dm.gO 8 d=true∧(Dm.shw d).length≤sizeLine∧Rep H (.ref a) d∧Q (.str ⟨(Dm.shw d).toArray⟩) H
theorem nG {X:Cx} {k:Nat} (hr:bG k X.A):cE X (.type "str") DR:=by
 intro pins s σ H xs us Q I r h
 obtain ⟨a,d,rfl,hd,hz,rd,q⟩:=h
 obtain ⟨u,rfl,rx⟩:=vals1 r
 cases rx
 obtain ⟨as,ha⟩:=nF I 8 d _ _ hd rd rfl
 obtain ⟨f1,f2,f3⟩:=vE 8 d hd
 have sh:=nE 8 d hd
 have un:=hr.un
 refine str_of_reads ha f1 (fun z=>by rw [f2] at z;cases z) hr.gd (by omega) (fun _ _ e=>e) (fun h' u tk kp=>?_) (by rw [sh];exact Nat.le_trans (by show (Dm.shw d).toArray.size≤_;simp) hz)
 rw [sh]
 exact ⟨.str ⟨(Dm.shw d).toArray⟩,H,I.kept (t':=tk) kp,⟨u,rfl⟩,q⟩
theorem BC:CallD DR Dm.pZ:=by
 intro H0 H vs ds z Q s rs e k
 have sz:110*900≤sizeLine:=by decide
 unfold Dm.pZ at e
 split at e
 ·split at e
  ·rename_i hk
   cases e
   cases rs with
   | cons r rr=>
    cases rr
    rcases r with r | ⟨a,_,w⟩
    ·cases r with
     | tup q rs=>
      have rp:Rep H (.ref _) (.tup _):=.tup (s _ _ q) (rs.mono s)
      have:=Dm.lT 8 _ hk.1
      have h2:=hk.2
      exact ⟨_,_,rfl,hk.1,by omega,rp,k _ H0 H (aJ.refl s) (.str _)⟩
    ·exact False.elim w
  ·cases e
 ·split at e
  ·rename_i hk
   cases e
   cases rs with
   | cons r rr=>
    cases rr
    obtain ⟨a,us,rfl,qa,ra⟩:=bx s r
    have rp:Rep H (.ref a) (.lst _):=.lst qa (ra.mono s)
    have:=Dm.lT 8 _ hk.1
    have h2:=hk.2
    exact ⟨_,_,rfl,hk.1,by omega,rp,k _ H0 H (aJ.refl s) (.str _)⟩
  ·cases e
 ·cases e
section
variable {X:Cx} {e:Expr} {fs:List Dm.FE} {p pos:Pos} {k:Nat}
theorem zL (hr:bG k X.A) (hg:Gl X "str") (hm:X.mg "str" = none) (ha:DA X [e] fs) (he:starEach [e] X.env=[(false,eval e X.env)]:=by rfl) (hpl:(backTo pos (starEach [] X.env)).any (·.1)=false:=by rfl):DE X (.Call (.Name "str" p) [e] [] pos) (Dm.eB Dm.pZ fs):=yo (nG hr) BC (by rfl) hg hm ha (he:=he) (hpl:=hpl)
end
end Br
namespace Dm
noncomputable def dw:List Dat→Option RV
 | [.lst ds]=>(match iR ds with
  | some nss=>if nss.length≤63 then some (.new (.lst ((kJ lx nss).map tN))) else none
  | none=>none)
 | _=>none
end Dm
namespace Br
open PySem PySem.Spec PyProof.Rows L2
noncomputable def rE (K:PySem.W.Frag):List V→Hp→VK→Prop:=fun xs H Q=>∃ (p:Addr) (ys:List V),xs=[.ref p]∧SqL K H p ys∧ys.length≤63∧(∀ y∈ys,∃ (a:Addr) (ks:List Int),y=.ref a∧H a=some (.tup (ks.map V.int))∧ks≠[]) ∧
 ∀ (zs:List V) (l:Addr),zs.Perm ys→zs.Pairwise (fun y z=>∀ (a b:Addr) (ks ms:List Int),y=.ref a→z=.ref b→H a=some (.tup (ks.map V.int))→H b=some (.tup (ms.map V.int))→Dm.lx ms ks=false)→H l=none→Q (.ref l) (upd H l (.lst zs))
section
variable {X:Cx}
theorem nH:cE X (.builtin "sorted") (rE X.K):=by
 intro pins s σ H xs us Q I r h
 obtain ⟨p,ys,rfl,hq,hl,hks,k⟩:=h
 obtain ⟨u,rfl,rx⟩:=vals1 r
 cases rx
 obtain ⟨its,rv,pl,hz⟩:=I.list hq
 have hlen:=rv.length
 have refs:∀ (ys:List V) (its:List Value),Vals ys its→(∀ y∈ys,∃ (a:Addr) (ks:List Int),y=.ref a∧H a=some (.tup (ks.map V.int))∧ks≠[])→its.map bk=ys∧∀ v∈its,∃ (a:Addr) (ks:List Int),v=.ref a∧H a=some (.tup (ks.map V.int))∧ks≠[]:=fun ys=>by
  induction ys with
  | nil=>intro its rv _;cases rv;exact ⟨rfl,fun v hv=>by cases hv⟩
  | cons y ys ih=>
   intro its rv hy
   cases rv with
   | cons h1 h2=>
    obtain ⟨a,ks,rfl,h3,h4⟩:=hy y List.mem_cons_self
    cases h1
    obtain ⟨i1,i2⟩:=ih _ h2 fun z hz=>hy z (List.mem_cons_of_mem _ hz)
    refine ⟨by rw [List.map_cons,i1];rfl,fun v hv=>?_⟩
    rcases List.mem_cons.mp hv with rfl | hv
    ·exact ⟨a,ks,rfl,h3,h4⟩
    ·exact i2 v hv
 obtain ⟨eb,hv⟩:=refs ys its rv hks
 have key:∀ v∈its,∃ ks,(lR H).keyOf v=some ks:=fun v hm=>by
  obtain ⟨a,ks,rfl,h3,_⟩:=hv v hm
  refine ⟨ks,?_⟩
  show j9 H (.ref a)=some ks
  unfold j9
  dsimp only
  rw [h3]
  exact cC ks
 have hk:KeysOf (lR H) (pairsOf its):=fun q hq=>key q.1 (gM hq).2
 have look:∀ (h':Heap),(∀ b o,s.heap.get? b=some o→h'.get? b=some o)→∀ (v:Value) (ks:List Int),j9 H v=some ks→∃ (a:Addr) (o:Obj) (ts:List Value) (n:Nat),v=.ref a∧h'.get? a=some o∧o.cls=.type "tuple" ∧ o.data=.seq ts.toArray n∧IntsAre ts ks:=fun h' kp v ks e=>by
  unfold j9 at e
  split at e
  ·rename_i a
   split at e
   ·rename_i xs hx
    have:=nA e
    subst this
    obtain ⟨_,ts,rt,o,ho,hc,n,hd⟩:=I.hok a _ hx
    exact ⟨a,o,ts,n,rfl,kp _ _ ho,hc,hd,intsAre_of rt⟩
   ·cases e
  ·cases e
 refine Ts.lQ (κ:=lR H) (kd:=tuples' true) pl.isList (by omega) hk (fun A' h' kp h2 {Q'} {E'} hq'=>?_) (fun A' E' h' kp=>?_) fun st' hp hs=>?_
 ·-- the kind
  have tups:∀ l:List Value,(∀ v∈l,∃ (a:Addr) (ks:List Int),v=.ref a∧H a=some (.tup (ks.map V.int))∧ks≠[])→∃ fs,PySem.W.KatTups h' l fs∧fs.length=l.length∧∀ f∈fs,∃ n t,f=Value.int n t:=fun l=>by
   induction l with
   | nil=>intro _;exact ⟨[],.nil,rfl,fun f hf=>by cases hf⟩
   | cons v l ih=>
    intro hl'
    obtain ⟨a,ks,rfl,h3,h4⟩:=hl' v List.mem_cons_self
    obtain ⟨fs,t,lf,hf⟩:=ih fun z hz=>hl' z (List.mem_cons_of_mem _ hz)
    obtain ⟨a',o,ts,n,e,ho,hc,hd,hi⟩:=look h' kp (.ref a) ks (by unfold j9;dsimp only;rw [h3];exact cC ks)
    cases e
    cases hi with
    | nil=>exact absurd rfl h4
    | cons m t' hi'=>
     refine ⟨_::fs,.cons ho hc hd (f:=.int m t') (by simp) t,by simp [lf],fun f hm=>?_⟩
     rcases List.mem_cons.mp hm with rfl | hm
     ·exact ⟨_,_,rfl⟩
     ·exact hf f hm
  obtain ⟨fs,t,lf,hf⟩:=tups its hv
  refine PySem.W.kat_kind (s:={ s with heap:=h' }) (T:=.type "int") t (by omega) (fun f hm=>?_) (by rfl) ?_
  ·obtain ⟨n,tk,rfl⟩:=hf f hm
   exact .now
  ·exact hq'
 ·refine tO fun x y a b {Q'} {E''} ha hb q=>?_
  obtain ⟨ax,ox,tx,nx,ex,hx,_,dx,ix⟩:=look h' kp x.1 a ha
  obtain ⟨ay,oy,ty,ny,ey,hy,_,dy,iy⟩:=look h' kp y.1 b hb
  rw [ex,ey]
  refine PySem.W.kat_lt (s:={ s with heap:=h' }) hx dx hy dy ?_
  exact nB 0 ix iy (by rw [List.size_toArray,List.size_toArray,ix.length,iy.length]) q
 ·obtain ⟨out,eo,po,so⟩:=BA hk hp hs
  rw [eo]
  obtain ⟨c,hc⟩:=sortedAll_at s.heap its out.toArray
  have vo:∀ l:List Value,(∀ v∈l,∃ (a:Addr) (ks:List Int),v=.ref a∧H a=some (.tup (ks.map V.int))∧ks≠[])→Vals (l.map bk) l:=fun l=>by
   induction l with
   | nil=>intro _;exact .nil
   | cons v l ih=>
    intro hl'
    obtain ⟨a,ks,rfl,_⟩:=hl' v List.mem_cons_self
    exact .cons rfl (ih fun z hz=>hl' z (List.mem_cons_of_mem _ hz))
  have hvo:=vo out fun v hm=>hv v (po.mem_iff.mp hm)
  have hz2:(out.map bk).length≤sizeLine:=by rw [List.length_map,po.length_eq,← hlen];exact hz
  refine ⟨.ref (s.heap.objs.size+1),_,I.laid (t':=s.toks) (fun _ _=>sortedAll_old) (Nat.le_succ _) (show bw X.prog X.w _ _ _ (.lst (out.map bk)) from ⟨hz2,out,c,hvo,hc⟩),rfl,k _ _ ?_ ?_ (I.hok.fresh (Nat.le_succ _))⟩
  ·have:=po.map bk
   rwa [eb] at this
  ·rw [List.pairwise_map]
   refine List.Pairwise.imp_of_mem ?_ so
   intro x y hx hy hle a b ks ms e1 e2 h1 h2
   obtain ⟨a',ks',rfl,h1',_⟩:=hv x (po.mem_iff.mp hx)
   obtain ⟨b',ms',rfl,h2',_⟩:=hv y (po.mem_iff.mp hy)
   cases e1
   cases e2
   refine hle ks ms ?_ ?_
   ·show j9 H (.ref a)=some ks
    unfold j9
    dsimp only
    rw [h1]
    exact cC ks
   ·show j9 H (.ref b)=some ms
    unfold j9
    dsimp only
    rw [h2]
    exact cC ms
end
theorem tQ {K:PySem.W.Frag}:CallD (rE K) Dm.dw:=by
 intro H0 H vs ds z Q s rs e k
 unfold Dm.dw at e
 split at e
 case h_2=>cases e
 rename_i xs
 cases rs with
 | cons r rr=>
  cases rr
  obtain ⟨a,us,rfl,qa,ra⟩:=bx s r
  split at e
  case h_2=>cases e
  rename_i nss en
  split at e
  case isFalse=>cases e
  rename_i hb
  cases e
  obtain ⟨qs,rfl,rfl,hq⟩:=zK ra en
  rw [List.length_map] at hb
  refine ⟨a,_,rfl,.inl qa,by rw [List.length_map];exact hb,fun y hy=>?_,fun zs l pm so hl=>?_⟩
  · obtain ⟨p,hp,rfl⟩:=List.mem_map.mp hy
    exact ⟨p.2,p.1,rfl,s _ _ (hq p hp).1,(hq p hp).2⟩
  · let ks:V→List Int:=fun v=>match v with
      | .ref b=>(match H0 b with
        | some (.tup ys)=>(gx ys).getD []
        | _=>[])
      | _=>[]
    have hks:∀ p∈qs,ks (.ref p.2)=p.1:=fun p hp=>by
      show (match H0 p.2 with | some (.tup ys)=>(gx ys).getD [] | _=>[])=p.1
      rw [(hq p hp).1]
      dsimp only
      rw [cC]
      rfl
    have hz:∀ y∈zs,∃ b:Addr,y=.ref b∧H0 b=some (.tup ((ks y).map V.int)):=fun y hy=>by
      obtain ⟨p,hp,rfl⟩:=List.mem_map.mp (pm.mem_iff.mp hy)
      exact ⟨p.2,rfl,by rw [hks p hp];exact (hq p hp).1⟩
    have pk:(zs.map ks).Perm (qs.map (·.1)):=by
      refine (pm.map ks).trans (.of_eq ?_)
      rw [List.map_map]
      exact List.map_congr_left fun p hp=>hks p hp
    have srt:(zs.map ks).Pairwise (fun a b=>Dm.lx b a=false):=by
      rw [List.pairwise_map]
      refine List.Pairwise.imp_of_mem ?_ so
      intro x y hx hy hle
      obtain ⟨b1,q1,q2⟩:=hz x hx
      obtain ⟨b2,q3,q4⟩:=hz y hy
      exact hle b1 b2 _ _ q1 q3 (s _ _ q2) (s _ _ q4)
    have es:zs.map ks=Dm.kJ Dm.lx (qs.map (·.1)):=by
      refine Dm.g_ (lt:=Dm.lx) Dm.gv (pk.trans (Dm.di _ _).symm) srt (Dm.gw (fun a b c h1 h2=>?_) (fun a b h=>?_) _)
      · cases h:Dm.lx c a
        · rfl
        · rcases Dm.vD c b a h with z | z
          · rw [z] at h2;cases h2
          · rw [z] at h1;cases h1
      · cases h':Dm.lx b a
        · rfl
        · have:=Dm.gu a b a h h'
          rw [Dm.gK] at this;cases this
    refine k _ _ _ (aJ.j7 s hl) ⟨l,rfl,hl,s.free hl,_,aD,?_⟩
    rw [← es]
    exact kK ks hz
section
variable {X:Cx} {e:Expr} {fs:List Dm.FE} {p pos:Pos}
theorem vF (hg:Gl X "sorted") (hm:X.mg "sorted" = none) (ha:DA X [e] fs) (he:starEach [e] X.env=[(false,eval e X.env)]:=by rfl) (hpl:(backTo pos (starEach [] X.env)).any (·.1)=false:=by rfl):DE X (.Call (.Name "sorted" p) [e] [] pos) (Dm.eB Dm.dw fs):=sW nH tQ (by rfl) hg hm ha (he:=he) (hpl:=hpl)
end
end Br
namespace Dm
inductive PT where
 | e (f:FE)
 | x (z:Nat)
inductive PU where
 | e (f:FE)
 | v (i:Nat)
 | w
noncomputable def p6 (i:Nat) (lo hi:Option FE) (e:FE):FS:=fun ρ=>match e ρ with
 | none=>none
 | some (x,ρ1)=>match tk ρ1 x with
  | some (.lst es,ρ2)=>(match ρ2[i]? with
   | some (.ow _)=>(match part lo ρ2 with
    | none=>none
    | some (l,ρ3)=>match part hi ρ3 with
     | none=>none
     | some (h,ρ4)=>match ρ4[i]? with
      | some (.ow (.lst ds))=>if ds.length+es.length≤SZ then some (.nx (ρ4.set i (.ow (.lst (ds.take (sIx ds.length 0 l)++es++ds.drop (max (sIx ds.length 0 l) (sIx ds.length ds.length h))))))) else none
      | _=>none)
   | _=>none)
  | _=>none
end Dm
namespace PySem
theorem kc {prog:Program} {w:World} {A:Around} {E:Value→Shared→Prop} {s:Shared} {l sl b:Addr} {its new:List Value} {n m:Nat} {vl vu:Value} {lo hi:Option Int} {Q:Unit→Shared→Prop}
  (ho:s.heap.get? l=some { cls:=.type "list",data:=.seq its.toArray n }) (hb:s.heap.get? b=some { cls:=.type "list",data:=.seq new.toArray m })
  (hs:s.heap.IsSliceOf sl vl vu .none) (pl:IsPart vl lo) (pu:IsPart vu hi) (hz:its.length+new.length≤sizeLine)
  (h:∀ f:Array Value→Array Value,f=(fun xs=>xs.extract 0 (sliceBounds lo hi none its.length).1.toNat++new.toArray++xs.extract (max (sliceBounds lo hi none its.length).1 (sliceBounds lo hi none its.length).2.1).toNat xs.size) →
   Q () { s with heap:=s.heap.update l (Obj.mapSeq f) }) :
  wpAny (model prog w) A (setItem (.ref l) (.ref sl) (.ref b)) Q E s:=by
 have hl:s.heap.IsList l its.toArray:=⟨_,ho,rfl,_,rfl⟩
 have hbl:s.heap.IsList b new.toArray:=⟨_,hb,rfl,_,rfl⟩
 obtain ⟨os,hos,hcs,hds⟩:=id hs
 have hTs:s.TypeIs (.ref sl) "slice" := ⟨os,hos,hcs⟩
 unfold setItem
 try with_reducible refine wpAny_holding ?_
 first | refine wpAny_bind (wpAny_pure ?_) | skip
 refine wpAny_bind (wpAny_sequenceKey hl.typeIs (by decide) ?_)
 refine wpAny_bind (wpAny_callSpecial?_slot (name:=Str.ofString "__setitem__") hl.typeIs slot_list_setitem
  (wpAny_call_entry slot_list_setitem hl.typeIs entry_list_setitem ?_ (args_list_setitem _ _ _)))
 refine wpAny_bind (m:=Builtin.List.listSubscript? (.ref sl)) ?_
 unfold Builtin.List.listSubscript?
 refine wpAny_bind (wpAny_specialOf hTs slice_no_index ?_)
 simp only [Option.isNone_none,if_true]
 refine wpAny_pure ?_
 refine wpAny_bind (m:=typeOf (.ref sl)) (wpAny_typeOf hTs ?_)
 rw [if_neg (by decide)]
 refine wpAny_bind (m:=Builtin.List.listSliceParts (.ref sl)) ?_
 rw [listSliceParts_eq]
 refine wpAny_bind (wpAny_field hos hds (x:=.none) rfl (wpAny_bind (wpAny_listPart .none ?_)))
 rw [if_neg (show ¬ ((rawPart none == rawInt 0)=true) from Bool.false_ne_true)]
 refine wpAny_bind (wpAny_field hos hds (x:=vl) rfl (wpAny_bind (wpAny_listPart pl ?_)))
 refine wpAny_bind (wpAny_field hos hds (x:=vu) rfl (wpAny_bind (wpAny_listPart pu (wpAny_pure ?_))))
 split
 case isTrue=>
  refine wpAny_bind (PyProof.Rows.listItems_at hb rfl ?_)
  refine wpAny_bind (PyProof.Rows.listItems_at ho rfl ?_)
  refine wpAny_bind (wpAny_of_eq (sliceIndices_raw lo hi none its.toArray.size (by simp)) ?_)
  rw [if_pos (by rw [(L2.a_ lo hi _).2.2];rfl)]
  refine wpAny_bind (wpAny_rule ?_)
  rw [if_neg (by simp only [Builtin.List.listTooLong,List.size_toArray,decide_eq_true_eq];omega)]
  refine wpAny_bind (PyProof.Rows.listUpdate_at ho rfl ?_ (by rw [List.size_toArray];omega) ?_)
  ·exact wpAny_bind (wpAny_letGo (wpAny_pure ⟨.none,rfl,wpAny_pure (h _ rfl)⟩))
  ·simp only [Array.size_append,Array.size_extract,List.size_toArray]
   have e1:=(L2.a_ lo hi its.length).1
   have e2:=(L2.a_ lo hi its.length).2.1
   rw [e1,e2]
   omega
 case isFalse=>
  unfold Builtin.List.listAllItems
  refine wpAny_bind (wpAny_bind (wpAny_typeOf hbl.typeIs ?_))
  rw [if_pos (by decide)]
  refine PyProof.Rows.listItems_at hb rfl ?_
  refine wpAny_bind (PyProof.Rows.listItems_at ho rfl ?_)
  refine wpAny_bind (wpAny_of_eq (sliceIndices_raw lo hi none its.toArray.size (by simp)) ?_)
  rw [if_pos (by rw [(L2.a_ lo hi _).2.2];rfl)]
  refine wpAny_bind (wpAny_rule ?_)
  rw [if_neg (by simp only [Builtin.List.listTooLong,List.size_toArray,decide_eq_true_eq];omega)]
  refine wpAny_bind (PyProof.Rows.listUpdate_at ho rfl ?_ (by rw [List.size_toArray];omega) ?_)
  ·exact wpAny_bind (wpAny_letGo (wpAny_pure ⟨.none,rfl,wpAny_pure (h _ rfl)⟩))
  ·simp only [Array.size_append,Array.size_extract,List.size_toArray]
   have e1:=(L2.a_ lo hi its.length).1
   have e2:=(L2.a_ lo hi its.length).2.1
   rw [e1,e2]
   omega
end PySem
namespace Br
open PySem PySem.Spec PyProof.Rows L2
theorem lU (its new:List Value) (n:Nat) (lo hi:Option Int) (f:Array Value→Array Value) (hf:f=(fun xs=>xs.extract 0 (sliceBounds lo hi none its.length).1.toNat++new.toArray++xs.extract (max (sliceBounds lo hi none its.length).1 (sliceBounds lo hi none its.length).2.1).toNat xs.size)) :
  ∃ n',Obj.mapSeq f { cls:=.type "list",data:=.seq its.toArray n }={ cls:=.type "list",data:=.seq (its.take (HT.sIx its.length 0 lo)++new++its.drop (max (HT.sIx its.length 0 lo) (HT.sIx its.length its.length hi))).toArray n' }:=by
 obtain ⟨e1,e2,_⟩:=L2.a_ lo hi its.length
 have e3:(max (sliceBounds lo hi none its.length).1 (sliceBounds lo hi none its.length).2.1).toNat=max (HT.sIx its.length 0 lo) (HT.sIx its.length its.length hi):=by rw [e1,e2];omega
 have e4:f its.toArray=(its.take (HT.sIx its.length 0 lo)++new++its.drop (max (HT.sIx its.length 0 lo) (HT.sIx its.length its.length hi))).toArray:=by
  rw [hf]
  dsimp only
  rw [e3,e1,Int.toNat_natCast]
  simp [List.extract_eq_take_drop,List.drop_take]
  exact List.take_of_length_le (by rw [List.length_drop];exact Nat.le_refl _)
 obtain ⟨n',hd⟩:=Obj.data_mapSeq (o:={ cls:=.type "list",data:=.seq its.toArray n }) rfl f
 refine ⟨n',?_⟩
 rw [← e4]
 simp [Obj.mapSeq] at hd ⊢
 exact hd
section
variable {X:Cx}
noncomputable def DU (to:TE) (tl th:TO) (t:V→Option Int→Option Int→V→Hp→(Hp→Prop)→Prop):TG:=fun v σ H Q=>to σ H fun o H1=>tl σ H1 fun l H2=>th σ H2 fun h H3=>t o l h v H3 fun H4=>Q σ H4
noncomputable def DV:V→Option Int→Option Int→V→Hp→(Hp→Prop)→Prop:=fun o lo hi v H Q=>∃ p q xs ys,o=.ref p∧v=.ref q∧H p=some (.lst xs)∧Rd H q (.lst ys)∧xs.length+ys.length≤sizeLine ∧
 Q (upd H p (.lst (xs.take (HT.sIx xs.length 0 lo)++ys++xs.drop (max (HT.sIx xs.length 0 lo) (HT.sIx xs.length xs.length hi)))))
theorem BE {o:Expr} {lo hi:Option Expr} {to:TE} {tl th:TO} {p2 pos:Pos} (ho:PE X o to) (hl:PO X lo tl) (hh:PO X hi th):PG X (.Subscript o (.Slice lo hi none p2) pos) (DU to tl th DV):=by
 intro pins s σ H v u Q I r h
 show wpAny _ _ (holding [u] (eval o X.env) >>= _) _ _ _
 refine wpAny_bind (wpAny_holding (thn (ho pins s σ H _ I h) fun ov s1 ⟨x,H1,I1,r1,q1⟩=>?_))
 refine wpAny_bind (wpAny_holding (wpAny_Slice (thn (hl pins s1 σ H1 _ I1 q1) fun vl s2 ⟨l,H2,I2,pl,q2⟩=>thn (hh pins s2 σ H2 _ I2 q2) fun vu s3 ⟨c,H3,I3,pu,q3⟩=>?_)))
 rw [evalPart_none]
 refine wpAny_pure ?_
 have I4:Inv X pins σ H3 { s3 with heap:=s3.heap.push { cls:=.type "slice",data:=.fields #[vl,vu,.none] } }:=I3.kept (t':=s3.toks) fun b ob q=>Heap.get?_push_of_some _ q
 obtain ⟨p,q,xs,ys,rfl,rfl,hp,hq,hz,k⟩:=q3
 cases r1
 cases r
 obtain ⟨its,n,rx,e1,z1⟩:=I4.lst hp
 obtain ⟨z2,new,m,ry,e2⟩:=hq.ok I4.hok
 refine wpAny_bind (wpAny_standAt (wpAny_bind (wpAny_holding (kc e1 e2 (Heap.IsSliceOf.new ..) pl pu (by rw [← rx.length,← ry.length];exact hz) fun f hf=>?_))))
 obtain ⟨n',hm⟩:=lU its new n l c f hf
 rw [← rx.length] at hm
 have I5:=I4.uI hp e1 hm (((rx.take _).append ry).append (rx.drop _)) (by simp only [List.length_append,List.length_take,List.length_drop];omega) s3.toks
 exact wpAny_release ⟨σ,_,I5,k⟩
theorem DX {i:Nat} {lo hi:Option Dm.FE} {f:Dm.FE} {D:Ends} {σ:L2.St} {H:Hp} (h:tDS (Dm.p6 i lo hi f) D σ H):pA (tD f) (DU (uo i) (tOf lo) (tOf hi) DV) D σ H:=by
 obtain ⟨H0,ρ,o,st,e,k⟩:=h
 unfold Dm.p6 at e
 split at e
 ·cases e
 rename_i x ρ1 e1
 split at e
 case h_2=>cases e
 rename_i es ρ2 e2
 split at e
 case h_2=>cases e
 rename_i d0 h2
 split at e
 ·cases e
 rename_i l ρ3 e3
 split at e
 ·cases e
 rename_i c ρ4 e4
 split at e
 case h_2=>cases e
 rename_i ds h4
 split at e
 case isFalse=>cases e
 rename_i hz
 cases e
 refine ⟨H0,ρ,_,ρ1,st,e1,fun v H0' H' t r=>?_⟩
 obtain ⟨H1,t1,b1,r1,_,_⟩:=take1 t (ao.refl _) r e2
 obtain ⟨a0,q0,_,_⟩:=t1.st.ow i _ h2
 refine ⟨_,q0,?_⟩
 refine ig t1.st e3 fun H2 Hc t2=>?_
 refine ig t2.st e4 fun H3 Hd t3=>?_
 obtain ⟨a,q,n,w⟩:=t3.st.ow i _ h4
 rw [q0] at q
 cases q
 obtain ⟨xs,y,rs⟩:=w
 have r3:Rep H3 v (.lst es):=(r1.mono t2.stp.s0).mono t3.stp.s0
 cases r3 with
 | @lst b ys _ hb rb=>
 have ow:ak σ ρ4 a0:=⟨i,_,h4,q0⟩
 have tt:=t1.trans (t2.trans t3)
 refine ⟨a0,b,xs,ys,rfl,rfl,y,ao.rd t3.st.same hb,by rw [rs.length,rb.length];exact gg hz,?_⟩
 have rn:=((rs.take (HT.sIx xs.length 0 l)).append rb).append (rs.drop (max (HT.sIx xs.length 0 l) (HT.sIx xs.length xs.length c)))
 rw [rs.length,lJ _ _ _ (Nat.zero_le _),lJ _ _ _ (Nat.le_refl _)] at rn ⊢
 refine k σ H3 _ ⟨t3.st.write h4 q0 ⟨_,aD,rn⟩,tt.stp.trans (Stp.write ow) fun b z=>.inl (tt.own b z),fun b z=>.inl (tt.own b (dU h4 z)),rfl⟩
theorem DY (i:Nat) {x:Str} {e:Expr} {f:Dm.FE} {lo hi:Option Expr} {flo fhi:Option Dm.FE} {px sp p2 pos:Pos} (hl:PO X lo (tOf flo)) (hh:PO X hi (tOf fhi)) (he:DE X e f) (hix:X.N[i]?=some x:=by rfl) (hv:Vis X.env.scope x:=by first | exact Or.inl rfl | exact Or.inr (Or.inl rfl) | exact Or.inr (Or.inr rfl)) (hd:(x == ("__debug__" : Str))=false:=by decide)
  (hcd:(x == ("__classdict__" : Str))=false:=by decide)
  (hs:swapsWithSole [.Subscript (.Name x px) (.Slice lo hi none p2) sp] e pos.line X.env=pure false:=by rfl) (hw:swappedStores [.Subscript (.Name x px) (.Slice lo hi none p2) sp] e X.env=pure none:=by rfl) (h1:(assignEach [.Subscript (.Name x px) (.Slice lo hi none p2) sp] X.env).map (·.2)=[assign (.Subscript (.Name x px) (.Slice lo hi none p2) sp) X.env]:=by rfl) :
  DS X (.Assign [.Subscript (.Name x px) (.Slice lo hi none p2) sp] e pos) (Dm.p6 i flo fhi f):=PS.weak (pB he (BE (kY hix hv hd hcd) hl hh) hs hw h1) fun _ _ _=>DX
end
end Br
namespace Dm
noncomputable def We (e:FE) (ρ:Env) (Q:Val→Env→Prop):Prop:=∃ v ρ',e ρ=some (v,ρ')∧Q v ρ'
noncomputable def Wt (t:FT) (ρ:Env) (Q:Bool→Env→Prop):Prop:=∃ v ρ',t ρ=some (v,ρ')∧Q v ρ'
noncomputable def Was (as:List FE) (ρ:Env) (Q:List Val→Env→Prop):Prop:=∃ v ρ',eAs as ρ=some (v,ρ')∧Q v ρ'
noncomputable def Wi (it:FI) (ρ:Env) (Q:List Dat→Env→Prop):Prop:=∃ v ρ',it ρ=some (v,ρ')∧Q v ρ'
noncomputable def KO (N:Env→Prop) (R:RV→Env→Prop) (B C:Env→Prop):Out→Prop
 | .nx ρ=>N ρ
 | .ret r ρ=>R r ρ
 | .bk ρ=>B ρ
 | .ct ρ=>C ρ
noncomputable def Ws (s:FS) (ρ:Env) (N:Env→Prop) (R:RV→Env→Prop) (B C:Env→Prop):Prop:=∃ o,s ρ=some o∧KO N R B C o
noncomputable def Wr (o:Option RV) (P:RV→Prop):Prop:=∃ r,o=some r∧P r
noncomputable def Wif (c:Bool) (X Y:Prop):Prop:=(c=true→X)∧(c=false→Y)
noncomputable def Wg1 (g:Dat→Option RV) (o:Option Dat) (K:RV→Prop):Prop:=∃ d v,o=some d∧g d=some v∧K v
noncomputable def Wg2 (g:Dat→Dat→Option RV) (o p:Option Dat) (K:RV→Prop):Prop:=∃ d e v,o=some d∧p=some e∧g d e=some v∧K v
noncomputable def WB (g:List Dat→Option RV) (o:Option (List Dat)) (K:RV→Prop):Prop:=∃ ds v,o=some ds∧g ds=some v∧K v
noncomputable def WT (o:Option (List Dat×Env)) (K:List Dat→Env→Prop):Prop:=∃ ds ρ,o=some (ds,ρ)∧ds.length≤SZ∧K ds ρ
noncomputable def WF (f:List Dat→Option RV) (ρ:Env) (xs:List Val) (Q:Val→Env→Prop):Prop:=∃ ds v,pks ρ xs=some ds∧f ds=some v∧(if cS v.dat then ∃ ds' ρ2,tks ρ xs=some (ds',ρ2)∧Q v.bB ρ2 else Q v.bB ρ)
noncomputable def Wk (ρ:Env) (x:Val) (K:Dat→Env→Prop):Prop:=∃ d ρ',tk ρ x=some (d,ρ')∧K d ρ'
noncomputable def Wp (o:Option FE) (ρ:Env) (K:Option Int→Env→Prop):Prop:=∃ i ρ',part o ρ=some (i,ρ')∧K i ρ'
theorem Wif.t {X Y:Prop} (x:X):Wif true X Y:=⟨fun _=>x,fun h=>by cases h⟩
theorem Wif.f {X Y:Prop} (y:Y):Wif false X Y:=⟨fun h=>(by cases h),fun _=>y⟩
theorem Wif.yes {c:Bool} {X Y:Prop} (h:c=true) (x:X):Wif c X Y:=⟨fun _=>x,fun h'=>by rw [h] at h';cases h'⟩
theorem Wif.no {c:Bool} {X Y:Prop} (h:c=false) (y:Y):Wif c X Y:=⟨fun h'=>(by rw [h] at h';cases h'),fun _=>y⟩
theorem We.v {i:Nat} {ρ:Env} {d:Dat} {Q:Val→Env→Prop} (h:ρ[i]?=some (.sh d)) (q:Q (.val d) ρ):We (eV i) ρ Q:=⟨_,_,by unfold eV;rw [h],q⟩
theorem We.w {i:Nat} {ρ:Env} {d:Dat} {Q:Val→Env→Prop} (h:ρ[i]?=some (.ow d)) (q:Q (.slot i) ρ):We (eV i) ρ Q:=⟨_,_,by unfold eV;rw [h],q⟩
theorem We.c {d:Dat} {ρ:Env} {Q:Val→Env→Prop} (q:Q (.val d) ρ):We (eC d) ρ Q:=⟨_,_,rfl,q⟩
theorem We.e1 {g:Dat→Option RV} {a:FE} {ρ:Env} {Q:Val→Env→Prop} (h:We a ρ fun x ρ1=>Wg1 g (pk ρ1 x) fun v=>Q v.bB ρ1):We (e1 g a) ρ Q:=by
 obtain ⟨x,ρ1,h1,d,v,h2,h3,q⟩:=h
 exact ⟨_,_,by unfold Dm.e1;rw [h1];dsimp only;rw [h2];dsimp only;rw [h3],q⟩
theorem We.e2 {g:Dat→Dat→Option RV} {a b:FE} {ρ:Env} {Q:Val→Env→Prop} (h:We a ρ fun x ρ1=>We b ρ1 fun y ρ2=>Wg2 g (pk ρ2 x) (pk ρ2 y) fun v=>Q v.bB ρ2):We (e2 g a b) ρ Q:=by
 obtain ⟨x,ρ1,h1,y,ρ2,h2,d,e,v,h3,h4,h5,q⟩:=h
 exact ⟨_,_,by unfold Dm.e2;rw [h1];dsimp only;rw [h2];dsimp only;rw [h3];dsimp only;rw [h4];dsimp only;rw [h5],q⟩
theorem Was.nil {ρ:Env} {Q:List Val→Env→Prop} (q:Q [] ρ):Was [] ρ Q:=⟨_,_,rfl,q⟩
theorem Was.cons {a:FE} {r:List FE} {ρ:Env} {Q:List Val→Env→Prop} (h:We a ρ fun x ρ1=>Was r ρ1 fun xs ρ2=>Q (x::xs) ρ2):Was (a::r) ρ Q:=by
 obtain ⟨x,ρ1,h1,xs,ρ2,h2,q⟩:=h
 exact ⟨_,_,by unfold eAs;rw [h1];dsimp only;rw [h2],q⟩
theorem We.B {g:List Dat→Option RV} {as:List FE} {ρ:Env} {Q:Val→Env→Prop} (h:Was as ρ fun xs ρ1=>WB g (pks ρ1 xs) fun v=>Q v.bB ρ1):We (eB g as) ρ Q:=by
 obtain ⟨x,ρ1,h1,d,v,h2,h3,q⟩:=h
 exact ⟨_,_,by unfold eB;rw [h1];dsimp only;rw [h2];dsimp only;rw [h3],q⟩
theorem We.T {as:List FE} {ρ:Env} {Q:Val→Env→Prop} (h:Was as ρ fun xs ρ1=>WT (tks ρ1 xs) fun ds ρ2=>Q (.val (.tup ds)) ρ2):We (aT as) ρ Q:=by
 obtain ⟨x,ρ1,h1,ds,ρ2,h2,h3,q⟩:=h
 exact ⟨_,_,by unfold aT;rw [h1];dsimp only;rw [h2];dsimp only;rw [if_pos h3],q⟩
theorem We.L {as:List FE} {ρ:Env} {Q:Val→Env→Prop} (h:Was as ρ fun xs ρ1=>WT (tks ρ1 xs) fun ds ρ2=>Q (.new (.lst ds)) ρ2):We (bf as) ρ Q:=by
 obtain ⟨x,ρ1,h1,ds,ρ2,h2,h3,q⟩:=h
 exact ⟨_,_,by unfold bf;rw [h1];dsimp only;rw [h2];dsimp only;rw [if_pos h3],q⟩
theorem WT.mk {ρ:Env} {xs:List Val} {ds:List Dat} {ρ2 ρ3:Env} {K:List Dat→Env→Prop} (k:K ds ρ3) (h:tks ρ xs=some (ds,ρ2)) (hn:ρ2=ρ3) (hl:ds.length≤SZ):WT (tks ρ xs) K:=⟨_,_,hn▸h,hl,k⟩
theorem We.F {f:List Dat→Option RV} {as:List FE} {ρ:Env} {Q:Val→Env→Prop} (h:Was as ρ fun xs ρ1=>WF f ρ1 xs Q):We (eF f as) ρ Q:=by
 obtain ⟨x,ρ1,h1,ds,v,h2,h3,h4⟩:=h
 by_cases hb:cS v.dat=true
 ·rw [if_pos hb] at h4
  obtain ⟨ds',ρ2,h5,q⟩:=h4
  exact ⟨_,_,by unfold eF;rw [h1];dsimp only;rw [h2];dsimp only;rw [h3];dsimp only;rw [if_pos hb,h5],q⟩
 ·rw [if_neg hb] at h4
  exact ⟨_,_,by unfold eF;rw [h1];dsimp only;rw [h2];dsimp only;rw [h3];dsimp only;rw [if_neg hb],h4⟩
theorem WF.box {f:List Dat→Option RV} {ρ ρ2 ρ3:Env} {xs:List Val} {ds ds':List Dat} {v:RV} {Q:Val→Env→Prop} (h2:f ds=some v) (q:Q v.bB ρ3) (h1:pks ρ xs=some ds) (h3:cS v.dat=true) (h4:tks ρ xs=some (ds',ρ2)) (hn:ρ2=ρ3):WF f ρ xs Q:=
 ⟨_,_,h1,h2,by rw [if_pos h3];exact ⟨_,_,h4,hn▸q⟩⟩
theorem WF.val {f:List Dat→Option RV} {ρ:Env} {xs:List Val} {ds:List Dat} {v:RV} {Q:Val→Env→Prop} (h2:f ds=some v) (q:Q v.bB ρ) (h1:pks ρ xs=some ds) (h3:cS v.dat=false):WF f ρ xs Q:=
 ⟨_,_,h1,h2,by rw [if_neg (by rw [h3];decide)];exact q⟩
theorem We.If {t:FT} {a b:FE} {ρ:Env} {Q:Val→Env→Prop} (h:Wt t ρ fun c ρ1=>Wif c (We a ρ1 Q) (We b ρ1 Q)):We (eIf t a b) ρ Q:=by
 obtain ⟨c,ρ1,h1,h2,h3⟩:=h
 cases c with
 | true=>obtain ⟨v,ρ2,h4,q⟩:=h2 rfl;exact ⟨_,_,by unfold eIf;rw [h1];exact h4,q⟩
 | false=>obtain ⟨v,ρ2,h4,q⟩:=h3 rfl;exact ⟨_,_,by unfold eIf;rw [h1];exact h4,q⟩
noncomputable def Wb (v:Val) (K:Bool→Prop):Prop:=∃ c,v=.val (.bl c)∧K c
theorem Wb.mk {c:Bool} {K:Bool→Prop} (k:K c):Wb (.val (.bl c)) K:=⟨c,rfl,k⟩
theorem We.And {a b:FE} {ρ:Env} {Q:Val→Env→Prop} (h:We a ρ fun v ρ1=>Wb v fun c=>Wif c (We b ρ1 Q) (Q (.val (.bl false)) ρ1)):We (dP a b) ρ Q:=by
 obtain ⟨v,ρ1,h1,c,rfl,h2,h3⟩:=h
 cases c with
 | true=>obtain ⟨v,ρ2,h4,q⟩:=h2 rfl;exact ⟨_,_,by unfold dP;rw [h1];exact h4,q⟩
 | false=>exact ⟨_,_,by unfold dP;rw [h1],h3 rfl⟩
theorem Wt.V {a:FE} {ρ:Env} {Q:Bool→Env→Prop} (h:We a ρ fun v ρ1=>Wb v fun c=>Q c ρ1):Wt (tV a) ρ Q:=by
 obtain ⟨v,ρ1,h1,c,rfl,h2⟩:=h
 exact ⟨_,_,by unfold tV;rw [h1],h2⟩
theorem Wt.Not {t:FT} {ρ:Env} {Q:Bool→Env→Prop} (h:Wt t ρ fun c ρ1=>Q (!c) ρ1):Wt (bP t) ρ Q:=by
 obtain ⟨v,ρ1,h1,h2⟩:=h
 exact ⟨_,_,by unfold bP;rw [h1],h2⟩
theorem Wt.And {t u:FT} {ρ:Env} {Q:Bool→Env→Prop} (h:Wt t ρ fun c ρ1=>Wif c (Wt u ρ1 Q) (Q false ρ1)):Wt (fZ t u) ρ Q:=by
 obtain ⟨c,ρ1,h1,h2,h3⟩:=h
 cases c with
 | true=>obtain ⟨v,ρ2,h4,q⟩:=h2 rfl;exact ⟨_,_,by unfold fZ;rw [h1];exact h4,q⟩
 | false=>exact ⟨_,_,by unfold fZ;rw [h1],h3 rfl⟩
theorem Wt.Or {t u:FT} {ρ:Env} {Q:Bool→Env→Prop} (h:Wt t ρ fun c ρ1=>Wif c (Q true ρ1) (Wt u ρ1 Q)):Wt (tOr t u) ρ Q:=by
 obtain ⟨c,ρ1,h1,h2,h3⟩:=h
 cases c with
 | false=>obtain ⟨v,ρ2,h4,q⟩:=h3 rfl;exact ⟨_,_,by unfold tOr;rw [h1];exact h4,q⟩
 | true=>exact ⟨_,_,by unfold tOr;rw [h1],h2 rfl⟩
theorem Wt.T {ρ:Env} {Q:Bool→Env→Prop} (q:Q true ρ):Wt cF ρ Q:=⟨_,_,rfl,q⟩
theorem Wk.val {ρ:Env} {d:Dat} {K:Dat→Env→Prop} (k:K d ρ):Wk ρ (.val d) K:=⟨_,_,rfl,k⟩
theorem Wk.new {ρ:Env} {d:Dat} {K:Dat→Env→Prop} (k:K d ρ):Wk ρ (.new d) K:=⟨_,_,rfl,k⟩
noncomputable def BF:Dat→Option (List Dat)
 | .lst ds=>some ds
 | .tup ds=>some ds
 | _=>none
theorem Wi.S {a:FE} {ρ:Env} {Q:List Dat→Env→Prop} (h:We a ρ fun x ρ1=>Wk ρ1 x fun d ρ2=>∃ ds,BF d=some ds∧Q ds ρ2):Wi (iS a) ρ Q:=by
 obtain ⟨x,ρ1,h1,d,ρ2,h2,ds,hd,q⟩:=h
 cases d with
 | lst xs=>cases hd;exact ⟨_,_,by unfold iS;rw [h1];dsimp only;rw [h2],q⟩
 | tup xs=>cases hd;exact ⟨_,_,by unfold iS;rw [h1];dsimp only;rw [h2],q⟩
 | _=>cases hd
noncomputable def aL (v:Val) (K:Int→Prop):Prop:=∃ i,v=.val (.int i)∧K i
theorem aL.mk {i:Int} {K:Int→Prop} (k:K i):aL (.val (.int i)) K:=⟨i,rfl,k⟩
theorem Wi.R1 {a:FE} {ρ:Env} {Q:List Dat→Env→Prop} (h:We a ρ fun v ρ1=>aL v fun j=>Q (ups 0 j.toNat) ρ1∧j≤BIG∧-BIG≤j):Wi (iR1 a) ρ Q:=by
 obtain ⟨v,ρ1,h1,j,rfl,q,h2⟩:=h
 exact ⟨_,_,by unfold iR1;rw [h1];dsimp only;rw [if_pos h2],q⟩
theorem Wi.R2 {a b:FE} {ρ:Env} {Q:List Dat→Env→Prop} (h:We a ρ fun v ρ1=>aL v fun i=>We b ρ1 fun w ρ2=>aL w fun j=>Q (ups i (j-i).toNat) ρ2∧j≤BIG∧-BIG≤j∧i≤BIG∧-BIG≤i):Wi (iR2 a b) ρ Q:=by
 obtain ⟨v,ρ1,h1,i,rfl,w,ρ2,h2,j,rfl,q,h3⟩:=h
 exact ⟨_,_,by unfold iR2;rw [h1];dsimp only;rw [h2];dsimp only;rw [if_pos h3],q⟩
theorem Wi.Rd {a b c:FE} {ρ:Env} {Q:List Dat→Env→Prop} (h:We a ρ fun v ρ1=>aL v fun i=>We b ρ1 fun w ρ2=>aL w fun j=>We c ρ2 fun u ρ3=>u=.val (.int (-1))∧Q (downs i (i-j).toNat) ρ3∧j≤BIG∧-BIG≤j∧i≤BIG∧-BIG≤i):Wi (iRd a b c) ρ Q:=by
 obtain ⟨v,ρ1,h1,i,rfl,w,ρ2,h2,j,rfl,u,ρ3,h4,rfl,q,h3⟩:=h
 exact ⟨_,_,by unfold iRd;rw [h1];dsimp only;rw [h2];dsimp only;rw [h4];dsimp only;rw [if_pos ⟨rfl,h3⟩],q⟩
theorem Wi.Rev {a:FE} {ρ:Env} {Q:List Dat→Env→Prop} (h:We a ρ fun x ρ1=>Wk ρ1 x fun d ρ2=>∃ ds,d=.lst ds∧Q ds.reverse ρ2):Wi (tF a) ρ Q:=by
 obtain ⟨x,ρ1,h1,d,ρ2,h2,ds,rfl,q⟩:=h
 exact ⟨_,_,by unfold tF;rw [h1];dsimp only;rw [h2],q⟩
theorem Wi.En {a:FE} {ρ:Env} {Q:List Dat→Env→Prop} (h:We a ρ fun x ρ1=>Wk ρ1 x fun d ρ2=>∃ ds,d=.lst ds∧Q (gq 0 ds) ρ2):Wi (iEn a) ρ Q:=by
 obtain ⟨x,ρ1,h1,d,ρ2,h2,ds,rfl,q⟩:=h
 exact ⟨_,_,by unfold iEn;rw [h1];dsimp only;rw [h2],q⟩
theorem Wp.none {ρ:Env} {K:Option Int→Env→Prop} (k:K none ρ):Wp none ρ K:=⟨_,_,rfl,k⟩
theorem Wp.some {f:FE} {ρ:Env} {K:Option Int→Env→Prop} (h:We f ρ fun v ρ1=>aL v fun i=>K (some i) ρ1):Wp (some f) ρ K:=by
 obtain ⟨v,ρ1,h1,i,rfl,k⟩:=h
 exact ⟨_,_,by unfold part;dsimp only;rw [h1],k⟩
noncomputable def Wsl (o:Option Dat) (l h:Option Int) (K:Dat→Prop):Prop:=∃ xs,o=some (.lst xs)∧K (.lst (cut xs l h))
noncomputable def dM {α:Type} (xs:List α) (lo hi:Option Int):List α:=(xs.drop (sIx xs.length 0 lo)).take (sIx xs.length xs.length hi-sIx xs.length 0 lo)
theorem DZ {α:Type} (enc:α→Dat) (xs:List α) (lo hi:Option Int):cut (xs.map enc) lo hi=(dM xs lo hi).map enc:=by
 unfold cut dM
 rw [List.length_map,← List.map_drop,← List.map_take]
theorem Wsl.A {α:Type} {enc:α→Dat} {xs:List α} {o:Option Dat} {l h:Option Int} {K:Dat→Prop} (k:K (.lst ((dM xs l h).map enc))) (ho:o=some (.lst (xs.map enc))):Wsl o l h K:=⟨_,ho,by rw [DZ];exact k⟩
theorem We.Sl {a:FE} {lo hi:Option FE} {ρ:Env} {Q:Val→Env→Prop} (h:We a ρ fun x ρ1=>Wp lo ρ1 fun l ρ2=>Wp hi ρ2 fun h ρ3=>Wsl (pk ρ3 x) l h fun d=>Q (.new d) ρ3):We (eSl a lo hi) ρ Q:=by
 obtain ⟨x,ρ1,h1,l,ρ2,h2,hh,ρ3,h3,xs,h4,q⟩:=h
 exact ⟨_,_,by unfold eSl;rw [h1];dsimp only;rw [h2];dsimp only;rw [h3];dsimp only;rw [h4],q⟩
theorem Ws.nx {ρ:Env} {N:Env→Prop} {R:RV→Env→Prop} {B C:Env→Prop} (n:N ρ):Ws sNx ρ N R B C:=⟨_,rfl,n⟩
theorem Ws.seq {s u:FS} {ρ:Env} {N:Env→Prop} {R:RV→Env→Prop} {B C:Env→Prop} (h:Ws s ρ (fun ρ1=>Ws u ρ1 N R B C) R B C):Ws (az s u) ρ N R B C:=by
 obtain ⟨o,h1,h2⟩:=h
 cases o with
 | nx ρ1=>obtain ⟨o,h3,h4⟩:=h2;exact ⟨o,by unfold az;rw [h1];exact h3,h4⟩
 | ret r ρ1=>exact ⟨.ret r ρ1,by unfold az;rw [h1],h2⟩
 | bk ρ1=>exact ⟨.bk ρ1,by unfold az;rw [h1],h2⟩
 | ct ρ1=>exact ⟨.ct ρ1,by unfold az;rw [h1],h2⟩
noncomputable def WA (i:Nat) (v:Val) (ρ:Env) (N:Env→Prop):Prop:=match v with
 | .new d=>N (ρ.set i (.ow d))
 | x=>Wk ρ x fun d ρ2=>N (ρ2.set i (.sh d))
theorem Ws.A {i:Nat} {e:FE} {ρ:Env} {N:Env→Prop} {R:RV→Env→Prop} {B C:Env→Prop} (h:We e ρ fun v ρ1=>WA i v ρ1 N) (hi:i≠0):Ws (sA i e) ρ N R B C:=by
 obtain ⟨v,ρ1,h1,h2⟩:=h
 cases v with
 | new d=>exact ⟨.nx _,by unfold sA;rw [if_neg hi,h1],h2⟩
 | val d=>obtain ⟨d',ρ2,h3,h4⟩:=h2;exact ⟨.nx _,by unfold sA;rw [if_neg hi,h1];dsimp only;rw [h3],h4⟩
 | slot j=>obtain ⟨d',ρ2,h3,h4⟩:=h2;exact ⟨.nx _,by unfold sA;rw [if_neg hi,h1];dsimp only;rw [h3],h4⟩
theorem WA.new {i:Nat} {d:Dat} {ρ ρ2:Env} {N:Env→Prop} (n:N ρ2) (hs:ρ.set i (.ow d)=ρ2):WA i (.new d) ρ N:=by unfold WA;dsimp only;rw [hs];exact n
theorem WA.val {i:Nat} {d:Dat} {ρ ρ2:Env} {N:Env→Prop} (n:N ρ2) (hs:ρ.set i (.sh d)=ρ2):WA i (.val d) ρ N:=⟨_,_,rfl,by show N _;rw [hs];exact n⟩
theorem Ws.U {is:List Nat} {e:FE} {ρ:Env} {N:Env→Prop} {R:RV→Env→Prop} {B C:Env→Prop} (h:We e ρ fun x ρ1=>Wk ρ1 x fun d ρ2=>∃ ds ρ3,d=.tup ds∧sets is ds ρ2=some ρ3∧N ρ3):Ws (sU is e) ρ N R B C:=by
 obtain ⟨x,ρ1,h1,d,ρ2,h2,ds,ρ3,rfl,h3,n⟩:=h
 exact ⟨.nx _,by unfold sU;rw [h1];dsimp only;rw [h2];dsimp only;rw [h3],n⟩
theorem Ws.E {e:FE} {ρ:Env} {N:Env→Prop} {R:RV→Env→Prop} {B C:Env→Prop} (h:We e ρ fun _ ρ1=>N ρ1):Ws (sE e) ρ N R B C:=by
 obtain ⟨x,ρ1,h1,n⟩:=h
 exact ⟨.nx _,by unfold sE;rw [h1],n⟩
noncomputable def WR (v:Val) (ρ:Env) (R:RV→Env→Prop):Prop:=match v with
 | .new d=>R (.new d) ρ
 | .val d=>R (.val d) ρ
 | .slot i=>(∃ d,ρ[i]?=some (.ow d)∧R (.new d) (ρ.set i .un))
theorem Ws.R {e:FE} {ρ:Env} {N:Env→Prop} {R:RV→Env→Prop} {B C:Env→Prop} (h:We e ρ fun v ρ1=>WR v ρ1 R):Ws (sR e) ρ N R B C:=by
 obtain ⟨v,ρ1,h1,h2⟩:=h
 cases v with
 | new d=>exact ⟨.ret _ _,by unfold sR;rw [h1],h2⟩
 | val d=>exact ⟨.ret _ _,by unfold sR;rw [h1],h2⟩
 | slot i=>obtain ⟨d,h3,h4⟩:=h2;exact ⟨.ret _ _,by unfold sR;rw [h1];dsimp only;rw [h3],h4⟩
theorem WR.new {d:Dat} {ρ:Env} {R:RV→Env→Prop} (r:R (.new d) ρ):WR (.new d) ρ R:=r
theorem WR.val {d:Dat} {ρ:Env} {R:RV→Env→Prop} (r:R (.val d) ρ):WR (.val d) ρ R:=r
theorem WR.slot {d:Dat} {ρ:Env} {i:Nat} {R:RV→Env→Prop} (r:R (.new d) (ρ.set i .un)) (h:ρ[i]?=some (.ow d)):WR (.slot i) ρ R:=⟨d,h,r⟩
theorem Ws.If {t:FT} {a b:FS} {ρ:Env} {N:Env→Prop} {R:RV→Env→Prop} {B C:Env→Prop} (h:Wt t ρ fun c ρ1=>Wif c (Ws a ρ1 N R B C) (Ws b ρ1 N R B C)):Ws (sIf t a b) ρ N R B C:=by
 obtain ⟨c,ρ1,h1,h2,h3⟩:=h
 cases c with
 | true=>obtain ⟨o,h4,q⟩:=h2 rfl;exact ⟨_,by unfold sIf;rw [h1];exact h4,q⟩
 | false=>obtain ⟨o,h4,q⟩:=h3 rfl;exact ⟨_,by unfold sIf;rw [h1];exact h4,q⟩
theorem Ws.App {i:Nat} {e:FE} {ρ:Env} {N:Env→Prop} {R:RV→Env→Prop} {B C:Env→Prop} {ds0:List Dat} (h:We e ρ fun x ρ1=>Wk ρ1 x fun d ρ2=>∃ ds ρ3,ρ2[i]?=some (.ow (.lst ds))∧ρ2.set i (.ow (.lst (ds++[d])))=ρ3∧N ρ3∧ds.length<SZ) (h0:ρ[i]?=some (.ow (.lst ds0))):Ws (mV i e) ρ N R B C:=by
 obtain ⟨x,ρ1,h1,d,ρ2,h2,ds,ρ3,h3,h5,n,h4⟩:=h
 exact ⟨.nx _,by unfold mV;rw [h0];dsimp only;rw [h1];dsimp only;rw [h2];dsimp only;rw [h3];dsimp only;rw [if_pos h4,h5],n⟩
theorem lV {i:Nat} {d:Dat} {ds:List Dat} {ρ2 ρ3:Env} {N:Env→Prop} (n:N ρ3) (h:ρ2[i]?=some (.ow (.lst ds))) (hs:ρ2.set i (.ow (.lst (ds++[d])))=ρ3) (hl:ds.length<SZ):∃ ds ρ3,ρ2[i]?=some (.ow (.lst ds))∧ρ2.set i (.ow (.lst (ds++[d])))=ρ3∧N ρ3∧ds.length<SZ:=⟨_,_,h,hs,n,hl⟩
theorem Ws.Set {i:Nat} {j e:FE} {ρ:Env} {N:Env→Prop} {R:RV→Env→Prop} {B C:Env→Prop} (h:We e ρ fun x ρ1=>Wk ρ1 x fun d ρ2=>(∃ d0,ρ2[i]?=some (.ow d0))∧We j ρ2 fun y ρ3=>aL y fun k=>∃ ds m ρ4,ρ3[i]?=some (.ow (.lst ds))∧ixN ds.length k=some m∧ρ3.set i (.ow (.lst (ds.set m d)))=ρ4∧N ρ4):Ws (gG i j e) ρ N R B C:=by
 obtain ⟨x,ρ1,h1,d,ρ2,h2,⟨d0,h0⟩,y,ρ3,h3,k,rfl,ds,m,ρ4,h4,h5,h6,n⟩:=h
 exact ⟨.nx _,by unfold gG;rw [h1];dsimp only;rw [h2];dsimp only;rw [h0];dsimp only;rw [h3];dsimp only;rw [h4];dsimp only;rw [h5];dsimp only;rw [h6],n⟩
theorem Ws.For {it:FI} {bd:FB} {body:FS} {ρ:Env} {N:Env→Prop} {R:RV→Env→Prop} {B C:Env→Prop} (h:Wi it ρ fun ds ρ1=>Ws (gH bd body ds) ρ1 N R B C):Ws (eO it bd body) ρ N R B C:=by
 obtain ⟨ds,ρ1,h1,o,h2,h3⟩:=h
 exact ⟨o,by unfold eO;rw [h1];exact h2,h3⟩
theorem Ws.inv {α:Type} (enc:α→Dat) (bd:FB) (body:FS) (xs:List α) (ρ:Env) (N:Env→Prop) (R:RV→Env→Prop) (B C:Env→Prop) (I:List α→List α→Env→Prop)
  (h0:I [] xs ρ) (hs:∀ p x q ρ,xs=p++x::q→I p (x::q) ρ→∃ ρ1,bd (enc x) ρ=some ρ1∧Ws body ρ1 (fun ρ2=>I (p++[x]) q ρ2) R N (fun ρ2=>I (p++[x]) q ρ2)) (he:∀ ρ,I xs [] ρ→N ρ):Ws (gH bd body (xs.map enc)) ρ N R B C:=by
 have go:∀ (q p:List α) (ρ:Env),xs=p++q→I p q ρ→Ws (gH bd body (q.map enc)) ρ N R B C:=fun q=>by
  induction q with
  | nil=>intro p ρ e i;rw [List.append_nil] at e;exact ⟨.nx _,rfl,he ρ (e▸i)⟩
  | cons x q ih=>
   intro p ρ e i
   obtain ⟨ρ1,h1,o,h2,h3⟩:=hs p x q ρ e i
   have e':xs=(p++[x])++q:=by rw [List.append_assoc];exact e
   cases o with
   | nx ρ2=>obtain ⟨o,h4,h5⟩:=ih _ _ e' h3;exact ⟨o,by rw [List.map_cons,gH,h1];dsimp only;rw [h2];exact h4,h5⟩
   | ct ρ2=>obtain ⟨o,h4,h5⟩:=ih _ _ e' h3;exact ⟨o,by rw [List.map_cons,gH,h1];dsimp only;rw [h2];exact h4,h5⟩
   | bk ρ2=>exact ⟨.nx _,by rw [List.map_cons,gH,h1];dsimp only;rw [h2],h3⟩
   | ret r ρ2=>exact ⟨.ret _ _,by rw [List.map_cons,gH,h1];dsimp only;rw [h2],h3⟩
 exact go xs [] ρ rfl h0
theorem Wr.fn {n m:Nat} {body:FS} {ds:List Dat} {ρ:Env} {P:RV→Prop} (b:Ws body ρ (fun _=>P (.val .non)) (fun r _=>P r) (fun _=>False) (fun _=>False)) (hρ:ds.map Cell.sh++List.replicate m .un=ρ) (h:ds.length=n):Wr (fn n m body ds) P:=by
 obtain ⟨o,h1,h2⟩:=b
 cases o with
 | nx ρ1=>exact ⟨_,by unfold Dm.fn;rw [if_pos h,hρ,h1],h2⟩
 | ret r ρ1=>exact ⟨_,by unfold Dm.fn;rw [if_pos h,hρ,h1],h2⟩
 | bk ρ1=>exact h2.elim
 | ct ρ1=>exact h2.elim
theorem Wr.eq {o:Option RV} {r:RV} (h:Wr o fun x=>x=r):o=some r:=by obtain ⟨x,h1,rfl⟩:=h;exact h1
theorem vG {α:Type} (enc:α→Dat) (p:α→Bool) (v:α→Dat) (bd:FB) (t:FT) (el:FE) (mk:Cell→Env) (hb:∀ d c,bd d (mk c)=some (mk (.sh d))):∀ (xs:List α) (c:Cell) (acc:List Dat),
  (∀ x∈xs,t (mk (.sh (enc x)))=some (p x,mk (.sh (enc x))))→(∀ x∈xs,p x=true→We el (mk (.sh (enc x))) fun w ρ'=>Wk ρ' w fun d ρ''=>d=v x∧ρ''=mk (.sh (enc x))) →
  ∃ c',cL bd t el (xs.map enc) (mk c) acc=some (acc++(xs.filter p).map v,mk c')
 | [],c,acc,_,_=>⟨c,by simp [cL]⟩
 | x::xs,c,acc,ht,he=>by
  rw [List.map_cons,cL,hb]
  dsimp only
  rw [ht x List.mem_cons_self]
  have ht':=fun y hy=>ht y (List.mem_cons_of_mem _ hy)
  have he':=fun y hy=>he y (List.mem_cons_of_mem _ hy)
  by_cases h:p x=true
  ·obtain ⟨w,ρ',h1,d,ρ'',h2,rfl,rfl⟩:=he x List.mem_cons_self h
   rw [h]
   dsimp only
   rw [h1]
   dsimp only
   rw [h2]
   obtain ⟨c',e⟩:=vG enc p v bd t el mk hb xs (.sh (enc x)) (acc++[v x]) ht' he'
   exact ⟨c',by dsimp only;rw [e,List.filter_cons_of_pos h];simp⟩
  ·rw [Bool.not_eq_true] at h
   rw [h]
   obtain ⟨c',e⟩:=vG enc p v bd t el mk hb xs (.sh (enc x)) acc ht' he'
   exact ⟨c',by dsimp only;rw [e,List.filter_cons_of_neg (by rw [h];decide)]⟩
theorem Wt.get {t:FT} {ρ:Env} {c:Bool} (h:Wt t ρ fun c' ρ'=>c'=c∧ρ'=ρ):t ρ=some (c,ρ):=by
 obtain ⟨_,_,h1,rfl,rfl⟩:=h;exact h1
theorem We.Comp {α:Type} (enc:α→Dat) (xs:List α) (p:α→Bool) (v:α→Dat) {it:FI} {k:Nat} {t:FT} {el:FE} {ρ ρ1:Env} {Q:Val→Env→Prop}
  (q:Q (.new (.lst ((xs.filter p).map v))) ρ1) (hit:it ρ=some (xs.map enc,ρ1)) (hk:ρ1.length=k) (hk0:k≠0) (hl:xs.length≤SZ)
  (ht:∀ x∈xs,Wt t (ρ1++[.sh (enc x)]) fun c ρ'=>c=p x∧ρ'=ρ1++[.sh (enc x)])
  (he:∀ x∈xs,p x=true→We el (ρ1++[.sh (enc x)]) fun w ρ'=>Wk ρ' w fun d ρ''=>d=v x∧ρ''=ρ1++[.sh (enc x)]):We (bO it 1 (bN k) t el) ρ Q:=by
 have bd:∀ (d:Dat) (c:Cell),bN k d (ρ1++[c])=some (ρ1++[.sh d]):=fun d c=>by
  unfold bN
  rw [if_neg hk0,List.set_append_right _ _ (by omega)]
  simp [hk]
 obtain ⟨c',e⟩:=vG enc p v (bN k) t el (fun c=>ρ1++[c]) bd xs .un [] (fun x hx=>Wt.get (ht x hx)) he
 refine ⟨_,_,?_,q⟩
 unfold bO
 rw [hit]
 dsimp only
 rw [if_pos (by rw [List.length_map];exact hl)]
 show (match cL _ _ _ _ (ρ1++[.un]) [] with | none=>none | some (ys,ρ2)=>some (Val.new (.lst ys),ρ2.take ρ1.length))=_
 rw [e]
 dsimp only
 rw [List.nil_append,List.take_left]
theorem We.D0 {α:Type} (enc:α→Dat) (xs:List α) (p:α→Bool) (v:α→Dat) {i:Nat} {k:Nat} {t:FT} {el:FE} {ρ:Env} {Q:Val→Env→Prop} {d:Dat}
  (q:Q (.new (.lst ((xs.filter p).map v))) ρ) (hi:ρ[i]?=some (.sh d)) (hd:BF d=some (xs.map enc)) (hk:ρ.length=k) (hk0:k≠0) (hl:xs.length≤SZ)
  (ht:∀ x∈xs,Wt t (ρ++[.sh (enc x)]) fun c ρ'=>c=p x∧ρ'=ρ++[.sh (enc x)])
  (he:∀ x∈xs,p x=true→We el (ρ++[.sh (enc x)]) fun w ρ'=>Wk ρ' w fun d ρ''=>d=v x∧ρ''=ρ++[.sh (enc x)]):We (b8 i 1 (bN k) t el) ρ Q:=by
 have hit:iS (eV i) ρ=some (xs.map enc,ρ):=by
  unfold iS eV
  rw [hi]
  cases d with
  | lst ys=>cases hd;rfl
  | tup ys=>cases hd;rfl
  | _=>cases hd
 obtain ⟨a,ρ',h1,h2⟩:=We.Comp enc xs p v (Q:=Q) q hit hk hk0 hl ht he
 refine ⟨a,ρ',?_,h2⟩
 unfold b8
 rw [hi]
 exact h1
theorem We.Map {α β:Type} (enc:α→Dat) (xs:List α) (f:α→β) (iY:β→Dat) {it:FI} {k:Nat} {el:FE} {ρ ρ1:Env} {Q:Val→Env→Prop}
  (q:Q (.new (.lst ((xs.map f).map iY))) ρ1) (hit:it ρ=some (xs.map enc,ρ1)) (hk:ρ1.length=k) (hk0:k≠0) (hl:xs.length≤SZ)
  (he:∀ x∈xs,We el (ρ1++[.sh (enc x)]) fun w ρ'=>Wk ρ' w fun d ρ''=>d=iY (f x)∧ρ''=ρ1++[.sh (enc x)]):We (bO it 1 (bN k) cF el) ρ Q:=
 We.Comp enc xs (fun _=>true) (fun x=>iY (f x)) (by rw [List.filter_eq_self.mpr (fun _ _=>rfl)];rw [List.map_map] at q;exact q) hit hk hk0 hl (fun _ _=>Wt.T ⟨rfl,rfl⟩) fun x hx _=>he x hx
theorem We.lW {α β:Type} (enc:α→Dat) (xs:List α) (f:α→β) (iY:β→Dat) {i:Nat} {k:Nat} {el:FE} {ρ:Env} {Q:Val→Env→Prop} {d:Dat}
  (q:Q (.new (.lst ((xs.map f).map iY))) ρ) (hi:ρ[i]?=some (.sh d)) (hd:BF d=some (xs.map enc)) (hk:ρ.length=k) (hk0:k≠0) (hl:xs.length≤SZ)
  (he:∀ x∈xs,We el (ρ++[.sh (enc x)]) fun w ρ'=>Wk ρ' w fun d ρ''=>d=iY (f x)∧ρ''=ρ++[.sh (enc x)]):We (b8 i 1 (bN k) cF el) ρ Q:=
 We.D0 enc xs (fun _=>true) (fun x=>iY (f x)) (by rw [List.filter_eq_self.mpr (fun _ _=>rfl)];rw [List.map_map] at q;exact q) hi hd hk hk0 hl (fun _ _=>Wt.T ⟨rfl,rfl⟩) fun x hx _=>he x hx
theorem yG (i j:Int):gEq (.int i) (.int j)=vB (decide (i=j)):=by
 have:(i == j)=decide (i=j):=by by_cases h:i=j<;>simp [h]
 show vB (i == j)=_
 rw [this]
theorem yH (i j:Int):gNe (.int i) (.int j)=vB (!decide (i=j)):=by
 have:(i == j)=decide (i=j):=by by_cases h:i=j<;>simp [h]
 show vB (!(i == j))=_
 rw [this]
theorem Wg2.eq {i j:Int} {o p:Option Dat} {K:RV→Prop} (k:K (.val (.bl (decide (i=j))))) (ho:o=some (.int i)) (hp:p=some (.int j)):Wg2 gEq o p K:=⟨_,_,_,ho,hp,yG i j,k⟩
theorem Wg2.ne {i j:Int} {o p:Option Dat} {K:RV→Prop} (k:K (.val (.bl (!decide (i=j))))) (ho:o=some (.int i)) (hp:p=some (.int j)):Wg2 gNe o p K:=⟨_,_,_,ho,hp,yH i j,k⟩
theorem Wg2.p7 {i j:Bool} {o p:Option Dat} {K:RV→Prop} (k:K (.val (.bl (i != j)))) (ho:o=some (.bl i)) (hp:p=some (.bl j)):Wg2 eE o p K:=⟨_,_,_,ho,hp,rfl,k⟩
theorem Wg2.lt {i j:Int} {o p:Option Dat} {K:RV→Prop} (k:K (.val (.bl (decide (i<j))))) (ho:o=some (.int i)) (hp:p=some (.int j)):Wg2 gLt o p K:=⟨_,_,_,ho,hp,rfl,k⟩
theorem Wg2.le {i j:Int} {o p:Option Dat} {K:RV→Prop} (k:K (.val (.bl (decide (i≤j))))) (ho:o=some (.int i)) (hp:p=some (.int j)):Wg2 gLe o p K:=⟨_,_,_,ho,hp,rfl,k⟩
theorem Wg2.gt {i j:Int} {o p:Option Dat} {K:RV→Prop} (k:K (.val (.bl (decide (j<i))))) (ho:o=some (.int i)) (hp:p=some (.int j)):Wg2 gGt o p K:=⟨_,_,_,ho,hp,rfl,k⟩
theorem Wg2.ge {i j:Int} {o p:Option Dat} {K:RV→Prop} (k:K (.val (.bl (decide (j≤i))))) (ho:o=some (.int i)) (hp:p=some (.int j)):Wg2 gGe o p K:=⟨_,_,_,ho,hp,rfl,k⟩
theorem Wg2.add {i j:Int} {o p:Option Dat} {K:RV→Prop} (k:K (.val (.int (i+j)))) (ho:o=some (.int i)) (hp:p=some (.int j)):Wg2 aX o p K:=⟨_,_,_,ho,hp,rfl,k⟩
theorem Wg2.D3 {xs ys:List Dat} {o p:Option Dat} {K:RV→Prop} (k:K (.new (.lst (xs++ys)))) (ho:o=some (.lst xs)) (hp:p=some (.lst ys)) (h:xs.length+ys.length≤SZ):Wg2 aX o p K:=⟨_,_,_,ho,hp,by unfold aX;dsimp only;rw [if_pos h],k⟩
theorem Wg2.sub {i j:Int} {o p:Option Dat} {K:RV→Prop} (k:K (.val (.int (i-j)))) (ho:o=some (.int i)) (hp:p=some (.int j)):Wg2 cK o p K:=⟨_,_,_,ho,hp,rfl,k⟩
theorem Wg2.mul {i j:Int} {o p:Option Dat} {K:RV→Prop} (k:K (.val (.int (i*j)))) (ho:o=some (.int i)) (hp:p=some (.int j)) (h:(-B64<i∧i<B64)∨(-B64<j∧j<B64)):Wg2 dQ o p K:=⟨_,_,_,ho,hp,by unfold dQ;dsimp only;rw [if_pos h],k⟩
theorem Wg2.div {i j:Int} {o p:Option Dat} {K:RV→Prop} (k:K (.val (.int (i / j)))) (ho:o=some (.int i)) (hp:p=some (.int j)) (h:0<j∧j<lz):Wg2 mW o p K:=⟨_,_,_,ho,hp,by unfold mW;dsimp only;rw [if_pos h],k⟩
theorem Wg2.mod {i j:Int} {o p:Option Dat} {K:RV→Prop} (k:K (.val (.int (i % j)))) (ho:o=some (.int i)) (hp:p=some (.int j)) (h:0<j):Wg2 e7 o p K:=⟨_,_,_,ho,hp,by unfold e7;dsimp only;rw [if_pos h],k⟩
theorem Wg2.pow {i j z:Int} {o p:Option Dat} {K:RV→Prop} (k:K (.val (.int z))) (ho:o=some (.int i)) (hp:p=some (.int j)) (h:0≤j∧j≤1000000∧i.natAbs<1000000) (hz:i ^ j.toNat=z):Wg2 gI o p K:=⟨_,_,_,ho,hp,by unfold gI;dsimp only;rw [if_pos h,hz],k⟩
theorem Wg2.ix {d e:Dat} {v:Dat} {o p:Option Dat} {K:RV→Prop} (k:K (.val v)) (ho:o=some d) (hp:p=some e) (h:gIx d e=some (.val v)):Wg2 gIx o p K:=⟨_,_,_,ho,hp,h,k⟩
theorem eG {α:Type} (enc:α→Dat) (xs:List α) (i:Int) (h0:0≤i) (h1:i<xs.length):atI (xs.map enc) i=some (enc (xs[i.toNat]'(by omega))):=by
 unfold atI ixN
 rw [List.length_map,if_pos h0,if_pos h1]
 show (xs.map enc)[i.toNat]?=_
 rw [List.getElem?_map,List.getElem?_eq_getElem (by omega)]
 rfl
theorem Wg2.ixL {α:Type} {enc:α→Dat} {xs:List α} {i:Int} {o p:Option Dat} {K:RV→Prop} (h0:0≤i) (h1:i<xs.length) (k:K (.val (enc (xs[i.toNat]'(by omega))))) (ho:o=some (.lst (xs.map enc))) (hp:p=some (.int i)):Wg2 gIx o p K:=
 ⟨_,_,_,ho,hp,by unfold gIx;dsimp only;rw [eG enc xs i h0 h1];rfl,k⟩
theorem rF (i:Int) (xs:List Int):inD (.int i) (xs.map Dat.int)=decide (i∈xs):=by
 induction xs with
 | nil=>rfl
 | cons x xs ih=>
  have ih':(xs.map Dat.int).any (fun y=>eqD y (.int i))=decide (i∈xs):=ih
  unfold inD
  rw [List.map_cons,List.any_cons,ih']
  show ((x == i)||_)=_
  by_cases h:x=i
  ·simp [h]
  ·have h':¬ i=x:=fun z=>h z.symm
   simp [h,h']
theorem vH (xs:List Int):(xs.map Dat.int).all (okD 7)=true:=by
 rw [List.all_eq_true]
 intro d hd
 obtain ⟨x,_,rfl⟩:=List.mem_map.mp hd
 rfl
theorem Wg2.inL {i:Int} {xs:List Int} {o p:Option Dat} {K:RV→Prop} (k:K (.val (.bl (decide (i∈xs))))) (ho:o=some (.int i)) (hp:p=some (.lst (xs.map Dat.int))):Wg2 gIn o p K:=
 ⟨_,_,_,ho,hp,by unfold gIn;dsimp only;rw [show okD 8 (.int i)=true from rfl,vH,rF];rfl,k⟩
theorem Wg2.BG {i:Int} {xs:List Int} {o p:Option Dat} {K:RV→Prop} (k:K (.val (.bl (!decide (i∈xs))))) (ho:o=some (.int i)) (hp:p=some (.lst (xs.map Dat.int))):Wg2 e8 o p K:=
 ⟨_,_,_,ho,hp,by unfold e8;dsimp only;rw [show okD 8 (.int i)=true from rfl,vH,rF];rfl,k⟩
theorem WB.len {xs:List Dat} {o:Option (List Dat)} {K:RV→Prop} (k:K (.val (.int xs.length))) (ho:o=some [.lst xs]):WB bQ o K:=⟨_,_,ho,rfl,k⟩
theorem WB.iZ {xs:List Dat} {o:Option (List Dat)} {K:RV→Prop} (k:K (.val (.int xs.length))) (ho:o=some [.tup xs]):WB bQ o K:=⟨_,_,ho,rfl,k⟩
theorem WB.min2 {i j:Int} {o:Option (List Dat)} {K:RV→Prop} (k:K (.val (.int (if j<i then j else i)))) (ho:o=some [.int i,.int j]):WB iA o K:=⟨_,_,ho,rfl,k⟩
theorem WB.max2 {i j:Int} {o:Option (List Dat)} {K:RV→Prop} (k:K (.val (.int (if j>i then j else i)))) (ho:o=some [.int i,.int j]):WB f_ o K:=⟨_,_,ho,rfl,k⟩
theorem WB.list {xs:List Dat} {o:Option (List Dat)} {K:RV→Prop} (k:K (.new (.lst xs))) (ho:o=some [.lst xs]):WB mX o K:=⟨_,_,ho,rfl,k⟩
theorem WB.int {b:Bool} {o:Option (List Dat)} {K:RV→Prop} (k:K (.val (.int (b2i b)))) (ho:o=some [.bl b]):WB mY o K:=⟨_,_,ho,rfl,k⟩
theorem Wg1.mk {g:Dat→Option RV} {d:Dat} {v:RV} {o:Option Dat} {K:RV→Prop} (k:K v) (ho:o=some d) (h:g d=some v):Wg1 g o K:=⟨_,_,ho,h,k⟩
theorem zM {α:Type} (enc:α→Dat) (xs:List α) (h:∀ x,okD 7 (enc x)=true):okD 8 (.lst (xs.map enc))=true:=by
 unfold okD
 rw [List.all_eq_true]
 intro d hd
 obtain ⟨x,_,rfl⟩:=List.mem_map.mp hd
 exact h x
theorem WB.ff {α:Type} {enc:α→Dat} {xs:List α} {o:Option (List Dat)} {K:RV→Prop} (k:K (.val (.int xs.length))) (ho:o=some [.lst (xs.map enc)]):WB bQ o K:=⟨_,_,ho,by unfold bQ;dsimp only;rw [List.length_map],k⟩
theorem Ws.mono {s:FS} {ρ:Env} {N N':Env→Prop} {R:RV→Env→Prop} {B C:Env→Prop} (h:Ws s ρ N' R B C) (k:∀ ρ',N' ρ'→N ρ'):Ws s ρ N R B C:=by
 obtain ⟨o,h1,h2⟩:=h
 cases o with
 | nx ρ1=>exact ⟨.nx ρ1,h1,k _ h2⟩
 | ret r ρ1=>exact ⟨.ret r ρ1,h1,h2⟩
 | bk ρ1=>exact ⟨.bk ρ1,h1,h2⟩
 | ct ρ1=>exact ⟨.ct ρ1,h1,h2⟩
theorem BH {ρ:Env} {i:Nat} {d:Dat} {W:Prop} (h:ρ[i]?=some (.ow d)) (w:W):(∃ d0,ρ[i]?=some (.ow d0))∧W:=⟨⟨d,h⟩,w⟩
theorem cj {bd:FB} {d:Dat} {ρ ρ1 ρ2:Env} {W:Env→Prop} (h:bd d ρ=some ρ1) (hn:ρ1=ρ2) (w:W ρ2):∃ ρ1,bd d ρ=some ρ1∧W ρ1:=⟨ρ1,h,hn▸w⟩
theorem vJ {α:Type} (enc:α→Dat) (p:α→Bool) (v:α→Dat) (bd:FB) (t:FT) (el:FE) (e0:Env) (env:α→Env) (h0:∀ x,bd (enc x) e0=some (env x)) (h1:∀ x y,bd (enc x) (env y)=some (env x)):∀ (xs:List α) (acc:List Dat) (e:Env),(e=e0∨∃ y,e=env y) →
  (∀ x∈xs,t (env x)=some (p x,env x))→(∀ x∈xs,p x=true→We el (env x) fun w ρ'=>Wk ρ' w fun d ρ''=>d=v x∧ρ''=env x) →
  ∃ e',(e'=e0∨∃ y,e'=env y)∧cL bd t el (xs.map enc) e acc=some (acc++(xs.filter p).map v,e')
 | [],acc,e,he,_,_=>⟨e,he,by simp [cL]⟩
 | x::xs,acc,e,he,ht,hel=>by
  have hb:bd (enc x) e=some (env x):=by
   rcases he with rfl | ⟨y,rfl⟩
   ·exact h0 x
   ·exact h1 x y
  rw [List.map_cons,cL,hb]
  dsimp only
  rw [ht x List.mem_cons_self]
  have ht':=fun y hy=>ht y (List.mem_cons_of_mem _ hy)
  have he':=fun y hy=>hel y (List.mem_cons_of_mem _ hy)
  by_cases h:p x=true
  ·obtain ⟨w,ρ',g1,d,ρ'',g2,rfl,rfl⟩:=hel x List.mem_cons_self h
   rw [h]
   dsimp only
   rw [g1]
   dsimp only
   rw [g2]
   obtain ⟨e',q,z⟩:=vJ enc p v bd t el e0 env h0 h1 xs (acc++[v x]) _ (.inr ⟨x,rfl⟩) ht' he'
   exact ⟨e',q,by dsimp only;rw [z,List.filter_cons_of_pos h];simp⟩
  ·rw [Bool.not_eq_true] at h
   rw [h]
   obtain ⟨e',q,z⟩:=vJ enc p v bd t el e0 env h0 h1 xs acc _ (.inr ⟨x,rfl⟩) ht' he'
   exact ⟨e',q,by dsimp only;rw [z,List.filter_cons_of_neg (by rw [h];decide)]⟩
theorem We.D4 {α β:Type} (enc:α→Dat) (xs:List α) (p:α→Bool) (f:α→β) (iY:β→Dat) (env:α→Env) {it:FI} {own:Nat} {bd:FB} {t:FT} {el:FE} {ρ ρ1:Env} {Q:Val→Env→Prop}
  (q:Q (.new (.lst (((xs.filter p).map f).map iY))) ρ1) (hit:it ρ=some (xs.map enc,ρ1)) (h0:∀ x,bd (enc x) (ρ1++List.replicate own .un)=some (env x)) (h1:∀ x y,bd (enc x) (env y)=some (env x)) (h2:∀ x,(env x).take ρ1.length=ρ1) (hl:xs.length≤SZ)
  (ht:∀ x∈xs,Wt t (env x) fun c ρ'=>c=p x∧ρ'=env x)
  (he:∀ x∈xs,p x=true→We el (env x) fun w ρ'=>Wk ρ' w fun d ρ''=>d=iY (f x)∧ρ''=env x):We (bO it own bd t el) ρ Q:=by
 obtain ⟨e',q',e⟩:=vJ enc p (fun x=>iY (f x)) bd t el _ env h0 h1 xs [] _ (.inl rfl) (fun x hx=>Wt.get (ht x hx)) he
 refine ⟨_,_,?_,q⟩
 unfold bO
 rw [hit]
 dsimp only
 rw [if_pos (by rw [List.length_map];exact hl),e]
 dsimp only
 rw [List.nil_append,List.map_map]
 have:e'.take ρ1.length=ρ1:=by
  rcases q' with rfl | ⟨y,rfl⟩
  ·exact List.take_left
  ·exact h2 y
 rw [this]
 rfl
theorem p8 (ns:List Int):g9 (ns.map Dat.int)=some ns:=by
 induction ns with
 | nil=>rfl
 | cons m ms ih=>rw [List.map_cons,g9,ih];rfl
theorem vK (N M:List Int):gNe (.lst (N.map Dat.int)) (.lst (M.map Dat.int))=vB (!decide (N=M)):=by
 have ok:∀ ns:List Int,okD 8 (.lst (ns.map Dat.int))=true:=fun ns=>zM Dat.int ns fun _=>rfl
 have eq:∀ N M:List Int,j5 (N.map Dat.int) (M.map Dat.int)=decide (N=M):=fun N=>by
  induction N with
  | nil=>intro M;cases M<;>rfl
  | cons n N ih=>
   intro M
   cases M with
   | nil=>rfl
   | cons m M=>
    rw [List.map_cons,List.map_cons,j5,ih M]
    show ((n == m)&&_)=_
    rw [Bool.eq_iff_iff]
    simp
 unfold gNe
 rw [ok,ok]
 show vB (!j5 _ _)=_
 rw [eq]
theorem Wg2.neI {N M:List Int} {o p:Option Dat} {K:RV→Prop} (k:K (.val (.bl (!decide (N=M))))) (ho:o=some (.lst (N.map Dat.int))) (hp:p=some (.lst (M.map Dat.int))):Wg2 gNe o p K:=⟨_,_,_,ho,hp,vK N M,k⟩
theorem tR {α:Type} (p:α→Bool) (xs:List α):bools (xs.map fun x=>Dat.bl (p x))=some (xs.map p):=by
 induction xs with
 | nil=>rfl
 | cons x xs ih=>rw [List.map_cons,bools,ih];rfl
theorem WB.all {α:Type} (p:α→Bool) {xs:List α} {o:Option (List Dat)} {K:RV→Prop} (k:K (.val (.bl (xs.all p)))) (ho:o=some [.lst (xs.map fun x=>Dat.bl (p x))]):WB j6 o K:=⟨_,_,ho,by
 unfold j6
 dsimp only
 rw [tR]
 have:(xs.map p).all id=xs.all p:=by rw [List.all_map];rfl
 dsimp only
 rw [this],k⟩
theorem WB.D5 {j:Int} {o:Option (List Dat)} {K:RV→Prop} (k:K (.new (.lst (ups 0 j.toNat)))) (ho:o=some [.int j]) (h:j≤1000000∧-1000000≤j):WB iN o K:=⟨_,_,ho,by unfold iN;dsimp only;rw [if_pos h],k⟩
theorem Ws.cut {s u:FS} {ρ:Env} {N:Env→Prop} {R:RV→Env→Prop} {B C:Env→Prop} (J:Env→Prop) (h1:Ws s ρ J R B C) (h2:∀ ρ',J ρ'→Ws u ρ' N R B C):Ws (az s u) ρ N R B C:=Ws.seq (Ws.mono h1 h2)
noncomputable def WrM (o:Option (RV×Dat)) (P:RV→Dat→Prop):Prop:=∃ z d,o=some (z,d)∧P z d
theorem WrM.fn {n m:Nat} {body:FS} {d:Dat} {r:List Dat} {ρ:Env} {P:RV→Dat→Prop} (b:Ws body ρ (fun ρ'=>∃ d',ρ'[0]?=some (.ow d')∧P (.val .non) d') (fun z ρ'=>∃ d',ρ'[0]?=some (.ow d')∧P z d') (fun _=>False) (fun _=>False)) (hρ:Cell.ow d::(r.map Cell.sh++List.replicate m .un)=ρ) (h:(d::r).length=n):WrM (fnM n m body (d::r)) P:=by
 obtain ⟨o,h1,h2⟩:=b
 cases o with
 | nx ρ1=>obtain ⟨d',h3,h4⟩:=h2;exact ⟨_,_,by unfold fnM;rw [if_pos h];dsimp only;rw [hρ,h1];dsimp only;rw [h3],h4⟩
 | ret z ρ1=>obtain ⟨d',h3,h4⟩:=h2;exact ⟨_,_,by unfold fnM;rw [if_pos h];dsimp only;rw [hρ,h1];dsimp only;rw [h3],h4⟩
 | bk ρ1=>exact h2.elim
 | ct ρ1=>exact h2.elim
noncomputable def WFm (f:List Dat→Option (RV×Dat)) (j:Nat) (ρ1:Env) (xs:List Val) (Q:Val→Env→Prop):Prop:=
 ∃ d1 ds ρ2 d v d',ρ1[j]?=some (.ow d1)∧tks ρ1 xs=some (ds,ρ2)∧ρ2[j]?=some (.ow d)∧f (d::ds)=some (v,d')∧(if (flat v.dat&&iQ d')=true then Q v.bB (ρ1.set j (.ow d')) else Q v.bB (ρ2.set j (.ow d')))
theorem We.Fm {f:List Dat→Option (RV×Dat)} {j:Nat} {as:List FE} {ρ:Env} {d0:Dat} {Q:Val→Env→Prop} (h:Was as ρ fun xs ρ1=>WFm f j ρ1 xs Q) (h0:ρ[j]?=some (.ow d0)):We (eFm f j as) ρ Q:=by
 obtain ⟨xs,ρ1,h1,d1,ds,ρ2,d,v,d',h2,h3,h4,h5,q⟩:=h
 by_cases c:(flat v.dat&&iQ d')=true
 ·rw [if_pos c] at q
  exact ⟨_,_,by unfold eFm;rw [h0];dsimp only;rw [h1];dsimp only;rw [h2];dsimp only;rw [h3];dsimp only;rw [h4];dsimp only;rw [h5];dsimp only;rw [if_pos c],q⟩
 ·rw [if_neg c] at q
  exact ⟨_,_,by unfold eFm;rw [h0];dsimp only;rw [h1];dsimp only;rw [h2];dsimp only;rw [h3];dsimp only;rw [h4];dsimp only;rw [h5];dsimp only;rw [if_neg c],q⟩
theorem WFm.any {f:List Dat→Option (RV×Dat)} {j:Nat} {ρ1 ρ3:Env} {xs:List Val} {d d':Dat} {ds:List Dat} {v:RV} {Q:Val→Env→Prop} (h5:f (d::ds)=some (v,d')) (q:Q v.bB ρ3) (h2:ρ1[j]?=some (.ow d)) (h3:tks ρ1 xs=some (ds,ρ1)) (hn:ρ1.set j (.ow d')=ρ3):WFm f j ρ1 xs Q:=
 ⟨_,_,_,_,_,_,h2,h3,h2,h5,by rw [hn];split<;>exact q⟩
theorem Wi.get {it:FI} {ρ ρ1:Env} {ds:List Dat} (h:Wi it ρ fun x y=>x=ds∧y=ρ1):it ρ=some (ds,ρ1):=by
 obtain ⟨_,_,h1,rfl,rfl⟩:=h;exact h1
theorem We.get {e:FE} {ρ ρ':Env} {v:Val} (h:We e ρ fun x y=>x=v∧y=ρ'):e ρ=some (v,ρ'):=by
 obtain ⟨_,_,h1,rfl,rfl⟩:=h;exact h1
theorem vL {c:Char} (h:c.isDigit=true):c.toNat<128:=by
 unfold Char.isDigit at h
 simp only [Bool.and_eq_true,decide_eq_true_eq] at h
 have h2:=h.2
 have:c.val.toNat≤57:=by exact_mod_cast (UInt32.le_iff_toNat_le.mp h2)
 show c.val.toNat<128
 omega
theorem nat_ascii (n:Nat):∀ c∈codes n.repr,c<128:=fun c hc=>by
 unfold codes at hc
 rw [Nat.toList_repr] at hc
 obtain ⟨d,hd,rfl⟩:=List.mem_map.mp hc
 exact vL (Nat.isDigit_of_mem_toDigits (by decide) (by decide) hd)
theorem int_ascii (i:Int):∀ c∈codes (toString i),c<128:=fun c hc=>by
 rw [Int.toString_eq_repr] at hc
 unfold Int.repr at hc
 cases i with
 | ofNat m=>exact nat_ascii m c hc
 | negSucc m=>
  dsimp only at hc
  unfold codes at hc
  rw [String.toList_append,List.map_append,List.mem_append] at hc
  rcases hc with hc | hc
  ·have:c∈[45]:=hc
   rw [List.mem_singleton] at this
   omega
  ·exact nat_ascii m.succ c hc
theorem gR:∀ l:List (List Nat),(∀ x∈l,∀ c∈x,c<128)→∀ c∈shJ l,c<128
 | [],_,c,h=>by cases h
 | [x],k,c,h=>k x List.mem_cons_self c h
 | x::y::r,k,c,h=>by
  unfold shJ at h
  rcases List.mem_append.mp h with h | h
  ·exact k x List.mem_cons_self c h
  ·rcases List.mem_cons.mp h with rfl | h
   ·decide
   ·rcases List.mem_cons.mp h with rfl | h
    ·decide
    ·exact gR (y::r) (fun z hz=>k z (List.mem_cons_of_mem _ hz)) c h
mutual
theorem kL:∀ (n:Nat) (d:Dat),gO n d=true→∀ c∈shw d,c<128
 | _,.non,_=>by decide
 | _,.bl b,_=>by cases b<;>decide
 | n,.int i,h=>by unfold shw;exact int_ascii i
 | n+1,.tup xs,h=>fun c hc=>by
  unfold shw at hc
  rcases List.mem_cons.mp hc with rfl | hc
  ·decide
  ·rcases List.mem_append.mp hc with hc | hc
   ·exact gR _ (fh n xs h) c hc
   ·split at hc
    ·simp only [List.mem_cons,List.not_mem_nil,or_false] at hc
     omega
    ·simp only [List.mem_cons,List.not_mem_nil,or_false] at hc
     omega
 | n+1,.lst xs,h=>fun c hc=>by
  unfold shw at hc
  rcases List.mem_cons.mp hc with rfl | hc
  ·decide
  ·rcases List.mem_append.mp hc with hc | hc
   ·exact gR _ (fh n xs h) c hc
   ·simp only [List.mem_cons,List.not_mem_nil,or_false] at hc
    omega
 | 0,.tup xs,h=>by cases h
 | 0,.lst xs,h=>by cases h
 | n,.str s,h=>by
  have h:s=[115,105,110,99,101]∨s=[110,101,118,101,114]:=by cases n<;>exact of_decide_eq_true h
  rcases h with rfl | rfl<;>decide
 | 0,.dct _ _,h=>by cases h
 | _+1,.dct _ _,h=>by cases h
 | 0,.exc _,h=>by cases h
 | _+1,.exc _,h=>by cases h
 | 0,.fn _,h=>by cases h
 | _+1,.fn _,h=>by cases h
theorem fh:∀ (n:Nat) (xs:List Dat),bu n xs=true→∀ x∈dJ xs,∀ c∈x,c<128
 | _,[],_=>by intro x hx;cases hx
 | n,y::r,h=>by
  unfold bu at h
  rw [Bool.and_eq_true] at h
  intro x hx
  unfold dJ at hx
  rcases List.mem_cons.mp hx with rfl | hx
  ·exact kL n y h.1
  ·exact fh n r h.2 x hx
end
theorem WB.D6 {xs:List Dat} {o:Option (List Dat)} {K:RV→Prop} (h1:gO 8 (.tup xs)=true) (h2:j_ (.tup xs)≤900) (k:K (.val (.str (shw (.tup xs))))) (ho:o=some [.tup xs]):WB pZ o K:=⟨_,_,ho,by unfold pZ;dsimp only;rw [if_pos ⟨h1,h2⟩],k⟩
theorem Ws.SlA {i:Nat} {lo hi:Option FE} {e:FE} {ρ:Env} {N:Env→Prop} {R:RV→Env→Prop} {B C:Env→Prop}
  (h:We e ρ fun x ρ1=>Wk ρ1 x fun d ρ2=>∃ es,d=.lst es∧(∃ d0,ρ2[i]?=some (.ow d0))∧Wp lo ρ2 fun l ρ3=>Wp hi ρ3 fun h ρ4=>∃ ds ρ5,ρ4[i]?=some (.ow (.lst ds))∧ds.length+es.length≤SZ ∧
   ρ4.set i (.ow (.lst (ds.take (sIx ds.length 0 l)++es++ds.drop (max (sIx ds.length 0 l) (sIx ds.length ds.length h)))))=ρ5∧N ρ5):Ws (p6 i lo hi e) ρ N R B C:=by
 obtain ⟨x,ρ1,h1,d,ρ2,h2,es,rfl,⟨d0,h0⟩,l,ρ3,h3,hh,ρ4,h4,ds,ρ5,h5,h6,h7,n⟩:=h
 exact ⟨.nx _,by unfold p6;rw [h1];dsimp only;rw [h2];dsimp only;rw [h0];dsimp only;rw [h3];dsimp only;rw [h4];dsimp only;rw [h5];dsimp only;rw [if_pos h6,h7],n⟩
end Dm
namespace P
open Dm
noncomputable def vM:List Dat→Option RV:=fn 1 0
  (sR (dP (e1 (eS isI) (eV 0)) (uO (e1 (eS isB) (eV 0)))))
noncomputable def gy:List Dat→Option RV:=fn 3 0
  (sR (dP (eF vM [(eV 0)]) (bR gLe gLe (eV 1) (eV 0) (eV 2))))
noncomputable def lX:List Dat→Option RV:=fn 1 0
  (sR (eF gy [(eV 0),(eC (.int 1)),(eC (.int 10))]))
noncomputable def lY:List Dat→Option RV:=fn 2 0
  (sR (eF gy [(eV 1),(eC (.int 0)),(e2 cK (eV 0) (eC (.int 1)))]))
noncomputable def gS:List Dat→Option RV:=fn 1 0
  (sR (eF gy [(eV 0),(eC (.int 1)),(eC (.int 6))]))
noncomputable def p9:List Dat→Option RV:=fn 1 0
  (sR (eF gy [(eV 0),(eC (.int 0)),(e2 gI (eC (.int 10)) (eC (.int 30)))]))
noncomputable def lZ:List Dat→Option RV:=fn 2 0
  (az (sIf (tOr (bP (tV (e1 (eS isT) (eV 1)))) (tV (e2 gNe (eB bQ [(eV 1)]) (eC (.int 3))))) (sR (eC (.bl false))) sNx)
  (sR (dP (eF p9 [(e2 gIx (eV 1) (eC (.int 0)))]) (dP (eF lY [(eV 0),(e2 gIx (eV 1) (eC (.int 1)))]) (eF lY [(eV 0),(e2 gIx (eV 1) (eC (.int 2)))])))))
noncomputable def l6:List Dat→Option RV:=fn 2 0
  (sR (dP (eF lZ [(eV 0),(eV 1)]) (e2 gLe (e2 gIx (eV 1) (eC (.int 1))) (e2 gIx (eV 1) (eC (.int 2))))))
noncomputable def tS:List Dat→Option RV:=fn 1 0
  (sR (eB j6 [(bO (iR2 (eC (.int 1)) (eB bQ [(eV 0)])) 1 (bN 1) cF (e2 gLt (e2 gIx (eV 0) (e2 cK (eV 1) (eC (.int 1)))) (e2 gIx (eV 0) (eV 1))))]))
noncomputable def yI:List Dat→Option RV:=fn 1 0
  (sIf (bP (tV (eF gS [(eV 0)]))) (fun _=>none) sNx)
noncomputable def rG:List Dat→Option RV:=fn 3 0
  (sR (b8 0 1 (bN 3) cF (eIf (tV (e2 gEq (eV 3) (e2 gIx (eV 0) (eV 2)))) (e2 gIx (eV 0) (eV 1)) (eV 3))))
noncomputable def vN:FS:=
  (sIf (tV (e2 gNe (e2 gIx (eV 4) (eV 1)) (e2 gIx (eV 4) (eV 2)))) (sR (e2 aX (eV 3) (eC (.int 1)))) sNx)
noncomputable def nI:List Dat→Option RV:=fn 3 2
  (az (eO (iEn (eV 0)) (bT [3,4])
  vN)
  (sR (eC (.int 0))))
noncomputable def vO:FS:=
  (az (sA 8 (eF nI [(eV 3),(eV 6),(eV 7)]))
  (az (sIf (tV (e2 gGt (eV 8) (eC (.int 0)))) (gG 3 (e2 cK (eV 8) (eC (.int 1))) (eF rG [(e2 gIx (eV 3) (e2 cK (eV 8) (eC (.int 1)))),(eV 6),(eV 7)])) sNx)
  (mV 4 (eV 8))))
noncomputable def nJ:List Dat→Option RV:=fn 3 6
  (az (sE (eF yI [(eV 2)]))
  (az (sA 3 (bO (iR1 (eV 2)) 1 (bN 9) cF (eB iN [(eV 0)])))
  (az (sA 4 (bf []))
  (az (eO (tF (eV 1)) (bT [5,6,7])
  vO)
  (sR (e1 e_ (eV 4)))))))
noncomputable def cV:List Dat→Option RV:=fn 2 0
  (az (sIf (tOr (bP (tV (eF lX [(eV 0)]))) (tOr (bP (tV (e1 (eS isL) (eV 1)))) (tV (e2 gGt (eB bQ [(eV 1)]) (eC (.int 60)))))) (sR (eC (.bl false))) sNx)
  (az (sIf (bP (tV (eB j6 [(b8 1 1 (bN 2) cF (eF l6 [(eV 0),(eV 2)]))]))) (sR (eC (.bl false))) sNx)
  (sR (eF tS [(b8 1 1 (bN 2) cF (e2 gIx (eV 2) (eC (.int 0))))]))))
noncomputable def bE:List Dat→Option RV:=fn 1 0
  (az (sIf (tOr (bP (tV (e1 (eS isT) (eV 0)))) (tV (e2 gNe (eB bQ [(eV 0)]) (eC (.int 3))))) (sR (eC (.bl false))) sNx)
  (az (sIf (tOr (bP (tV (eF gS [(e2 gIx (eV 0) (eC (.int 1)))]))) (bP (tV (eF cV [(e2 gIx (eV 0) (eC (.int 0))),(e2 gIx (eV 0) (eC (.int 2)))])))) (sR (eC (.bl false))) sNx)
  (sR (e2 e8 (eC (.int 0)) (eF nJ [(e2 gIx (eV 0) (eC (.int 0))),(e2 gIx (eV 0) (eC (.int 2))),(e2 gIx (eV 0) (eC (.int 1)))])))))
noncomputable def vP:FS:=
  (gG 2 (e2 e7 (eV 3) (eB bQ [(eV 2)])) (e2 aX (e2 dQ (e2 gIx (eV 2) (e2 e7 (eV 3) (eB bQ [(eV 2)]))) (eC (.int 7))) (eV 4)))
noncomputable def nK:List Dat→Option RV:=fn 2 3
  (az (sA 2 (e2 dQ (bf [(eC (.int 0))]) (eB iA [(eV 1),(eB f_ [(eC (.int 1)),(eB bQ [(eV 0)])])])))
  (az (eO (iEn (eV 0)) (bT [3,4])
  vP)
  (sR (eV 2))))
noncomputable def nM:List Dat→Option RV:=fn 1 1
  (az (sA 1 (eC (.int 0)))
  (az (sIf (tV (e2 gGe (eB tL [(eV 0)]) (e2 gI (eC (.int 10)) (eC (.int 18))))) (sA 1 (e2 aX (e2 cK (eB tL [(eV 0)]) (e2 gI (eC (.int 10)) (eC (.int 18)))) (eC (.int 1)))) sNx)
  (sR (bf [(eV 1),(eC (.int 0)),(e2 e7 (eV 0) (eC (.int 2147483647)))]))))
noncomputable def bq:List Dat→Option (RV×Dat):=fnM 2 2
  (az (sIf (tV (e2 gGt (e2 gIx (eV 0) (eC (.int 0))) (eC (.int 0)))) (az (sA 2 (e2 e7 (e2 gIx (eV 0) (eC (.int 0))) (eV 1)))
  (az (gG 0 (eC (.int 0)) (e2 mW (e2 gIx (eV 0) (eC (.int 0))) (eV 1)))
  (sR (eV 2)))) sNx)
  (az (gG 0 (eC (.int 1)) (e2 aX (e2 gIx (eV 0) (eC (.int 1))) (eC (.int 1))))
  (az (sA 3 (e2 e7 (e2 aX (e2 aX (e2 aX (e2 gIx (eV 0) (eC (.int 2))) (e2 dQ (e2 dQ (eC (.int 977)) (e2 gIx (eV 0) (eC (.int 1)))) (e2 gIx (eV 0) (eC (.int 1))))) (e2 dQ (eC (.int 40693)) (e2 gIx (eV 0) (eC (.int 1))))) (eC (.int 1))) (eC (.int 2147483647))))
  (az (sA 3 (e2 e7 (e2 dQ (e2 e7 (e2 dQ (eV 3) (eV 3)) (eC (.int 1000000007))) (eC (.int 48271))) (eC (.int 998244353))))
  (sR (e2 e7 (e2 mW (eV 3) (eC (.int 8))) (eV 1)))))))
noncomputable def vQ:FS:=
  (sA 2 (e2 aX (e2 dQ (eV 2) (eC (.int 1000003))) (eFm bq 0 [(eC (.int 1000003))])))
noncomputable def nN:List Dat→Option (RV×Dat):=fnM 2 2
  (az (sIf (tOr (tV (e2 gGt (e2 gIx (eV 0) (eC (.int 0))) (eC (.int 0)))) (tV (e2 gLt (eV 1) (e2 gI (eC (.int 10)) (eC (.int 6)))))) (sR (eFm bq 0 [(eV 1)])) sNx)
  (az (sA 2 (eC (.int 0)))
  (az (eO (iR1 (eC (.int 5))) (bN 3)
  vQ)
  (sR (e2 e7 (eV 2) (eV 1))))))
noncomputable def nP:List Dat→Option (RV×Dat):=fnM 1 0
  (sR (e2 aX (eC (.int 1)) (eFm bq 0 [(e2 gIx (bf [(eC (.int 6)),(eC (.int 5)),(eC (.int 6)),(eC (.int 4)),(eC (.int 6)),(eC (.int 3)),(eC (.int 5)),(eC (.int 10))]) (eFm bq 0 [(eC (.int 8))]))])))
noncomputable def nQ:List Dat→Option (RV×Dat):=fnM 1 0
  (sR (e2 aX (eC (.int 1)) (eFm bq 0 [(e2 gIx (bf [(eC (.int 3)),(eC (.int 4)),(eC (.int 2)),(eC (.int 6))]) (eFm bq 0 [(eC (.int 4))]))])))
noncomputable def d8:List Dat→Option (RV×Dat):=fnM 3 3
  (az (sA 3 (eFm bq 0 [(eV 1)]))
  (az (sA 4 (eFm bq 0 [(eV 1)]))
  (az (sIf (fZ (tV (e2 gNe (eV 2) (bf []))) (tV (e2 gEq (eFm bq 0 [(eC (.int 4))]) (eC (.int 0))))) (sU [5,3,4] (e2 gIx (eV 2) (eFm bq 0 [(eB bQ [(eV 2)])]))) sNx)
  (sR (aT [(eB iA [(eV 3),(eV 4)]),(eB f_ [(eV 3),(eV 4)])])))))
noncomputable def vR:FS:=
  (az (sA 6 (eFm bq 0 [(eC (.int 5))]))
  (az (sA 3 (e2 aX (e2 aX (eV 3) (eC (.int 1))) (e2 mW (eV 6) (eC (.int 2)))))
  (az (sIf (tV (e2 gEq (eV 6) (eC (.int 4)))) (sA 3 (e2 aX (eV 3) (eFm nN 0 [(e2 gI (eC (.int 10)) (eC (.int 27)))]))) sNx)
  (az (sU [7,8] (eFm d8 0 [(eV 1),(eV 4)]))
  (mV 4 (aT [(eV 3),(eV 7),(eV 8)]))))))
noncomputable def nR:List Dat→Option (RV×Dat):=fnM 3 6
  (az (sA 3 (e2 cK (eFm bq 0 [(eC (.int 3))]) (eC (.int 1))))
  (az (sA 4 (bf []))
  (az (eO (iR1 (eFm bq 0 [(e2 aX (eV 2) (eC (.int 1)))])) (bN 5)
  vR)
  (sR (eV 4)))))
noncomputable def nS:List Dat→Option (RV×Dat):=fnM 1 0
  (sR (e2 gIx (bf [(eC (.int 4)),(eC (.int 8)),(eC (.int 12)),(eC (.int 6)),(eC (.int 10)),(eC (.int 12)),(eC (.int 16)),(eC (.int 40))]) (eFm bq 0 [(eC (.int 8))])))
noncomputable def p_:FS:=
  (az (sA 10 (e2 gIx (e2 gIx (eV 3) (eV 9)) (eV 7)))
  (az (sA 11 (e2 gIx (e2 gIx (eV 3) (eV 9)) (eV 8)))
  (sIf (fZ (tV (e2 gEq (e2 gIx (eV 4) (eV 5)) (eC (.int 0)))) (tV (e2 gNe (eV 10) (eV 11)))) (az (gG 4 (eV 5) (e2 aX (eV 9) (eC (.int 1))))
  (gG 3 (eV 9) (bO (iS (e2 gIx (eV 3) (eV 9))) 1 (bN 12) cF (e2 gIx (bf [(eV 12),(eV 11)]) (eB mY [(e2 gEq (eV 12) (eV 10))]))))) sNx)))
noncomputable def vS:FS:=
  (az (sU [6,7,8] (e2 gIx (eV 1) (eV 5)))
  (eO (iR1 (eV 2)) (bN 9)
  p_))
noncomputable def kM:List Dat→Option RV:=fn 3 9
  (az (sA 3 (bO (iR1 (eV 2)) 1 (bN 12) cF (eB iN [(eV 0)])))
  (az (sA 4 (e2 dQ (bf [(eC (.int 0))]) (eB bQ [(eV 1)])))
  (az (eO (iRd (e2 cK (eB bQ [(eV 1)]) (eC (.int 1))) (e1 pJ (eC (.int 1))) (e1 pJ (eC (.int 1)))) (bN 5)
  vS)
  (sR (eV 4)))))
noncomputable def rH:List Dat→Option RV:=fn 3 1
  (az (sA 3 (eF kM [(eV 0),(eV 1),(eV 2)]))
  (sR (aT [(eV 0),(eV 2),(bO (yC (eV 1) (eV 3)) 2 (bT [4,5]) (tV (e2 gGt (eV 5) (eC (.int 0)))) (eV 4))])))
noncomputable def nT:List Dat→Option (RV×Dat):=fnM 1 2
  (az (sA 1 (eFm nP 0 []))
  (az (sA 2 (eFm nQ 0 []))
  (sR (eF rH [(eV 1),(eFm nR 0 [(eV 1),(eFm nS 0 [])]),(eV 2)]))))
noncomputable def vU:FS:=
  (sA 4 (e2 aX (eV 4) (eB mY [(e2 gIn (eV 4) (eV 3))])))
noncomputable def kN:List Dat→Option (RV×Dat):=fnM 3 5
  (az (sA 3 (b8 2 1 (bN 8) cF (e2 gIx (eV 8) (eC (.int 0)))))
  (az (sA 4 (eFm bq 0 [(eC (.int 3))]))
  (az (sIf (fZ (tV (e2 gNe (eV 3) (bf []))) (tV (e2 gGt (eFm bq 0 [(eC (.int 4))]) (eC (.int 0))))) (sA 4 (e2 aX (e2 gIx (eV 3) (eFm bq 0 [(eB bQ [(eV 3)])])) (eFm bq 0 [(eC (.int 2))]))) sNx)
  (az (eO (iR1 (e2 aX (eB bQ [(eV 3)]) (eC (.int 1)))) (bN 5)
  vU)
  (az (sU [6,7] (eFm d8 0 [(eV 1),(eV 2)]))
  (sR (aT [(eV 4),(eV 6),(eV 7)])))))))
noncomputable def nU:List Dat→Option RV:=fn 1 0
  (sR (dP (e1 (eS isI) (eV 0)) (uO (e1 (eS isB) (eV 0)))))
noncomputable def rJ:List Dat→Option RV:=fn 2 0
  (az (sIf (tOr (bP (tV (e1 (eS isT) (eV 1)))) (tOr (tV (e2 gNe (eB bQ [(eV 1)]) (eC (.int 3)))) (bP (tV (eB j6 [(b8 1 1 (bN 2) cF (eF nU [(eV 2)]))]))))) (sR (eC (.bl false))) sNx)
  (sR (dP (bR gLe gLe (eC (.int 0)) (e2 gIx (eV 1) (eC (.int 0))) (e2 gI (eC (.int 10)) (eC (.int 30)))) (dP (e2 gLe (eC (.int 0)) (e2 gIx (eV 1) (eC (.int 1)))) (dP (e2 gLe (e2 gIx (eV 1) (eC (.int 1))) (e2 gIx (eV 1) (eC (.int 2)))) (e2 gLt (e2 gIx (eV 1) (eC (.int 2))) (eV 0)))))))
noncomputable def rK:List Dat→Option RV:=fn 1 3
  (az (sIf (tOr (bP (tV (e1 (eS isT) (eV 0)))) (tOr (tV (e2 gNe (eB bQ [(eV 0)]) (eC (.int 3)))) (tOr (bP (tV (eF nU [(e2 gIx (eV 0) (eC (.int 0)))]))) (bP (tV (eF nU [(e2 gIx (eV 0) (eC (.int 1)))])))))) (sR (eC (.bl false))) sNx)
  (az (sU [1,2,3] (eV 0))
  (az (sIf (tOr (bP (tV (bR gLe gLe (eC (.int 1)) (eV 1) (eC (.int 10))))) (tOr (bP (tV (bR gLe gLe (eC (.int 1)) (eV 2) (eC (.int 6))))) (tOr (bP (tV (e1 (eS isL) (eV 3)))) (tV (e2 gGt (eB bQ [(eV 3)]) (eC (.int 60))))))) (sR (eC (.bl false))) sNx)
  (az (sIf (bP (tV (eB j6 [(b8 3 1 (bN 4) cF (eF rJ [(eV 1),(eV 4)]))]))) (sR (eC (.bl false))) sNx)
  (az (sIf (bP (tV (eB j6 [(bO (iR2 (eC (.int 1)) (eB bQ [(eV 3)])) 1 (bN 4) cF (e2 gLt (e2 gIx (e2 gIx (eV 3) (e2 cK (eV 4) (eC (.int 1)))) (eC (.int 0))) (e2 gIx (e2 gIx (eV 3) (eV 4)) (eC (.int 0)))))]))) (sR (eC (.bl false))) sNx)
  (sR (e2 e8 (eC (.int 0)) (eF kM [(eV 1),(eV 3),(eV 2)]))))))))
noncomputable def vV:FS:=
  (mV 5 (aT [(eV 2),(eV 3),(bf [(eV 6)])]))
noncomputable def nV:List Dat→Option (RV×Dat):=fnM 2 5
  (az (sU [2,3,4] (eV 1))
  (az (sA 5 (bf [(eC .non),(eC (.int 5)),(eC (.str [51,32,50,32,110,111,110,101])),(bf [(eV 2),(eV 3),(eV 4)]),(aT [(eV 2),(eV 3)]),(aT [(eV 2),(eV 3),(eV 4),(eC (.int 0))]),(aT [(eC (.int 0)),(eV 3),(bf [])]),(aT [(eC (.int 11)),(eV 3),(bf [])]),(aT [(eC (.bl true)),(eC (.int 1)),(bf [])])]))
  (az (sA 5 (e2 aX (eV 5) (bf [(aT [(eV 2),(eC (.int 0)),(bf [])]),(aT [(eV 2),(eC (.int 7)),(bf [])]),(aT [(eV 2),(eC (.bl true)),(bf [])]),(aT [(eV 2),(eV 3),(eB lA [(eV 4)])]),(aT [(eV 2),(eV 3),(eC .non)]),(aT [(eV 2),(eV 3),(bf [(aT [(eC (.int 5)),(eC (.int 0)),(eV 2)])])])])))
  (az (sA 5 (e2 aX (eV 5) (bf [(aT [(eV 2),(eV 3),(bf [(aT [(eC (.int 5)),(eC (.int 0)),(eC (.int 0))])])]),(aT [(eV 2),(eV 3),(bf [(bf [(eC (.int 5)),(eC (.int 0)),(eC (.int 0))])])]),(aT [(eV 2),(eV 3),(bf [(aT [(eC (.int 7)),(eC (.int 0)),(eC (.int 0))]),(aT [(eC (.int 5)),(eC (.int 0)),(eC (.int 0))])])]),(aT [(eC (.str [51])),(eC (.int 2)),(bf [])]),(aT [(eV 2),(eC (.str [50])),(bf [])])])))
  (az (sA 5 (e2 aX (eV 5) (bf [(aT [(eV 2),(eV 3),eDn]),(aT [(eV 2),(eV 3),(bf [(aT [(eC (.int 5)),(e1 pJ (eC (.int 1))),(eC (.int 0))])])]),(aT [(eV 2),(eV 3),(bf [(aT [(e1 pJ (eC (.int 1))),(eC (.int 0)),(eC (.int 0))])])]),(aT [(eV 2),(eV 3),(bf [(aT [(e2 aX (e2 gI (eC (.int 10)) (eC (.int 30))) (eC (.int 1))),(eC (.int 0)),(eC (.int 0))])])]),eDn,(aT [])])))
  (az (eO (iS (bf [(aT [(eC (.bl true)),(eC (.int 0)),(e2 cK (eV 2) (eC (.int 1)))]),(aT [(eC (.int 5)),(eC (.bl false)),(e2 cK (eV 2) (eC (.int 1)))]),(aT [(eC (.int 5)),(eC (.int 0)),(eC (.str [49]))]),(aT [(eC (.int 5)),(eC (.int 0)),(eC .non)]),(aT [(eC (.str [53])),(eC (.int 0)),(e2 cK (eV 2) (eC (.int 1)))]),(aT [(eC (.int 5)),(aT [(eC (.int 0))]),(e2 cK (eV 2) (eC (.int 1)))])])) (bN 6)
  vV)
  (sR (e2 gIx (eV 5) (eFm bq 0 [(eB bQ [(eV 5)])])))))))))
noncomputable def i6:List Dat→Option (RV×Dat):=fnM 2 9
  (az (sU [2,3,4] (eV 1))
  (az (sA 5 (eB f_ [(eC (.int 1)),(eV 2)]))
  (az (sA 6 (eB mX [(eV 4)]))
  (az (sA 7 (eFm bq 0 [(eC (.int 9))]))
  (az (sA 8 (eFm bq 0 [(eB f_ [(eC (.int 1)),(eB bQ [(eV 6)])])]))
  (az (sIf (tV (e2 gEq (eV 7) (eC (.int 0)))) (sA 6 (eB dw [(e2 aX (eV 6) (bf [(eFm kN 0 [(eV 5),(eV 6)])]))])) sNx)
  (az (sIf (tV (e2 gEq (eV 7) (eC (.int 1)))) (sA 6 (e2 aX (eSl (eV 6) none (some (eV 8))) (eSl (eV 6) (some (e2 aX (eV 8) (eC (.int 1)))) none))) sNx)
  (az (sIf (fZ (tV (e2 gEq (eV 7) (eC (.int 2)))) (tV (e2 gNe (eV 6) (bf [])))) (az (sU [9,10] (eFm d8 0 [(eV 5),(eV 6)]))
  (gG 6 (eV 8) (aT [(e2 gIx (e2 gIx (eV 6) (eV 8)) (eC (.int 0))),(eV 9),(eV 10)]))) sNx)
  (az (sIf (tV (e2 gEq (eV 7) (eC (.int 3)))) (sA 6 (e2 aX (eSl (eV 6) none (some (e2 aX (eV 8) (eC (.int 1))))) (eSl (eV 6) (some (eV 8)) none))) sNx)
  (az (sIf (tV (e2 gEq (eV 7) (eC (.int 4)))) (p6 6 (some (eV 8)) (some (e2 aX (eV 8) (eC (.int 2)))) (e1 e_ (eSl (eV 6) (some (eV 8)) (some (e2 aX (eV 8) (eC (.int 2))))))) sNx)
  (az (sIf (tV (e2 gGt (eV 7) (eC (.int 6)))) (sR (aT [(eV 2),(eB f_ [(eC (.int 1)),(eB iA [(eC (.int 6)),(e2 cK (e2 aX (eV 3) (e2 dQ (eC (.int 2)) (eV 7))) (eC (.int 15)))])]),(eV 6)])) sNx)
  (sR (aT [(e2 cK (e2 aX (eV 2) (eB mY [(e2 gEq (eV 7) (eC (.int 5)))])) (eB mY [(e2 gEq (eV 7) (eC (.int 6)))])),(eV 3),(eV 6)])))))))))))))
noncomputable def kO:List Dat→Option RV:=fn 1 2
  (az (sA 1 (eB pZ [(eV 0)]))
  (az (sA 2 (eF bE [(eV 0)]))
  (sR (dP (e1 (eS isB) (eV 2)) (dP (e2 gEq (eV 2) (eF rK [(eV 0)])) (e2 gEq (eB pZ [(eV 0)]) (eV 1)))))))
noncomputable def qc:FS:=
  (az (sA 2 (eF nM [(eV 1)]))
  (az (sA 3 (eFm nT 2 []))
  (az (sIf (tOr (tV (e2 eE (eF bE [(eV 3)]) (eC (.bl true)))) (bP (tV (eF kO [(eFm i6 2 [(eV 3)])])))) (sR (eC (.bl false))) sNx)
  (az (sIf (bP (tV (eF kO [(aT [(e2 gIx (eV 3) (eC (.int 0))),(e2 gIx (eV 3) (eC (.int 1))),(e2 aX (eSl (e2 gIx (eV 3) (eC (.int 2))) none (some (eC (.int 2)))) (bf [(aT [(e2 gI (eC (.int 10)) (eC (.int 30))),(eC (.int 0)),(e2 cK (e2 gIx (eV 3) (eC (.int 0))) (eC (.int 1)))])]))])]))) (sR (eC (.bl false))) sNx)
  (sIf (tOr (bP (tV (eF kO [(eFm i6 2 [(eFm i6 2 [(eV 3)])])]))) (tV (e2 eE (eF bE [(eFm nV 2 [(eV 3)])]) (eC (.bl false))))) (sR (eC (.bl false))) sNx)))))
noncomputable def i7:List Dat→Option RV:=fn 1 3
  (az (eO (iS (eF nK [(eV 0),(eC (.int 6))])) (bN 1)
  qc)
  (sR (eC (.bl true))))
end P
local macro_rules | `(tactic| array_get_dec)=>`(tactic| first | with_reducible refine Dm.Ws.seq ?_ | with_reducible refine Dm.We.e2 ?_ | ((with_reducible apply Dm.We.v);(focus rfl)) | ((with_reducible apply Dm.We.w);(focus rfl)) | with_reducible refine Dm.We.c ?_ | (refine Dm.WA.val ?_ (by first | (dsimp only [List.set];first | done | rfl) | rfl)) | (refine Dm.WA.new ?_ (by first | (dsimp only [List.set];first | done | rfl) | rfl)) | (refine Dm.WA.slot ?_ rfl (by first | (dsimp only [List.set];first | done | rfl) | rfl)) | with_reducible refine Dm.Ws.A ?_ (by decide) | with_reducible refine Dm.Ws.If ?_ | with_reducible refine Dm.Wt.V ?_ | with_reducible refine Dm.Wt.Not ?_ | with_reducible refine Dm.Wt.And ?_ | with_reducible refine Dm.Wt.Or ?_ | with_reducible refine Dm.Wt.T ?_ | (refine Dm.Wb.mk ?_) | (refine Dm.aL.mk ?_) | with_reducible refine Dm.Wif.t ?_ | with_reducible refine Dm.Wif.f ?_ | with_reducible refine Dm.Was.nil ?_ | with_reducible refine Dm.Was.cons ?_ | with_reducible refine Dm.We.B ?_ | with_reducible refine Dm.We.F ?_ | with_reducible refine Dm.We.T ?_ | with_reducible refine Dm.We.L ?_ | with_reducible refine Dm.We.e1 ?_ | with_reducible refine Dm.We.If ?_ | with_reducible refine Dm.We.And ?_ | with_reducible refine Dm.We.Or ?_ | with_reducible refine Dm.We.Not ?_ | with_reducible refine Dm.We.Sl ?_ | with_reducible refine Dm.We.SlT ?_ | with_reducible refine Dm.Wp.none ?_ | with_reducible refine Dm.Wp.some ?_ | (refine Dm.Wsl.A (enc:=Dm.Dat.int) ?_ rfl) | (refine Dm.Wsl.mk ?_ rfl) | (refine Dm.WT.mk ?_ rfl (by first | (dsimp only [List.set];first | done | rfl) | rfl) (by exact Nat.le_of_ble_eq_true rfl)) | (refine Dm.Wk.val ?_) | (refine Dm.Wk.new ?_) | (refine Dm.Wk.slot ?_ rfl (by first | (dsimp only [List.set];first | done | rfl) | rfl)) | with_reducible refine Dm.We.Dn ?_ | with_reducible refine Dm.We.D1 ?_ | with_reducible refine Dm.Ws.F7 ?_ | (refine Dm.F8 ?_ rfl) | (refine Dm.BH rfl ?_) | (refine Dm.EZ ?_ rfl (by first | (dsimp only [List.set];first | done | rfl) | rfl) ?_) | (refine Dm.Ws.App ?_ rfl) | (refine Dm.lV ?_ rfl (by first | (dsimp only [List.set];first | done | rfl) | rfl) ?_) | with_reducible refine Dm.Ws.U ?_ | (refine Dm.FJ ?_ rfl (by first | (dsimp only [List.set];first | done | rfl) | rfl)) | with_reducible refine Dm.Ws.R ?_ | (refine Dm.WR.new ?_) | (refine Dm.WR.val ?_) | (refine Dm.WR.slot ?_ rfl) | with_reducible refine Dm.Ws.nx ?_ | with_reducible refine Dm.Ws.bk ?_ | with_reducible refine Dm.Ws.ct ?_ | with_reducible refine Dm.Ws.E ?_ | with_reducible refine Dm.Ws.For ?_ | with_reducible refine Dm.Wi.S ?_ | with_reducible refine Dm.Wi.L ?_ | with_reducible refine Dm.Wi.R1 ?_ | with_reducible refine Dm.Wi.R2 ?_ | (refine Dm.E1 ?_) | (refine Dm.E2 ?_) | (refine Dm.Wg2.eq ?_ rfl rfl) | (refine Dm.Wg2.ne ?_ rfl rfl) | (refine Dm.Wg2.F1 ?_ rfl rfl ?_) | (refine Dm.Wg2.F2 ?_ rfl rfl ?_) | (refine Dm.Wg2.eqb ?_ rfl rfl) | (refine Dm.Wg2.neb ?_ rfl rfl) | (refine Dm.Wg2.p7 ?_ rfl rfl) | (refine Dm.Wg2.isb ?_ rfl rfl) | (refine Dm.Wg2.lt ?_ rfl rfl) | (refine Dm.Wg2.le ?_ rfl rfl) | (refine Dm.Wg2.gt ?_ rfl rfl) | (refine Dm.Wg2.ge ?_ rfl rfl) | (refine Dm.Wg2.add ?_ rfl rfl) | (refine Dm.Wg2.F9 ?_ rfl rfl ?_) | (refine Dm.Wg2.F3 ?_ rfl rfl ?_) | (refine Dm.Wg2.D3 ?_ rfl rfl ?_) | (refine Dm.Wg2.sub ?_ rfl rfl) | (refine Dm.Wg2.mul ?_ rfl rfl (by first | exact Or.inl (by decide) | exact Or.inr (by decide))) | (refine Dm.Wg2.mul ?_ rfl rfl ?_) | (refine Dm.Wg2.div ?_ rfl rfl (by decide)) | (refine Dm.Wg2.div ?_ rfl rfl ?_) | (refine Dm.Wg2.mod ?_ rfl rfl (by decide)) | (refine Dm.Wg2.mod ?_ rfl rfl ?_) | (refine Dm.Wg2.din ?_ rfl rfl) | (refine Dm.Wg2.F_ ?_ rfl rfl) | (refine Dm.Wg2.inP ?_ rfl rfl) | (refine Dm.Wg2.Ga ?_ rfl rfl) | (refine Dm.Wg2.ix ?_ rfl rfl rfl) | (refine Dm.WB.ff (enc:=Dm.Dat.int) ?_ rfl) | (refine Dm.WB.len ?_ rfl) | (refine Dm.WB.iZ ?_ rfl) | (refine Dm.WB.min2 ?_ rfl) | (refine Dm.WB.max2 ?_ rfl) | (refine Dm.WB.list ?_ rfl) | (refine Dm.WB.int ?_ rfl) | (refine Dm.WB.sum2 ?_ rfl ?_) | (refine Dm.Wg1.Gb (enc:=Dm.Dat.int) ?_ rfl) | (refine Dm.Wg1.mk ?_ rfl rfl))
namespace P
open Dm
structure Tie where
 m:Int
 a:Int
 b:Int
noncomputable def aO (t:Tie):Dat:=.tup [.int t.m,.int t.a,.int t.b]
noncomputable def aM (r:List Tie):Dat:=.lst (r.map aO)
theorem gA (x n:Int) (h:1≤n):0≤x % n∧x % n<n:=⟨Int.emod_nonneg x (by omega),Int.emod_lt_of_pos x (by omega)⟩
noncomputable def at' (ns:List Int) (i:Int):Int:=ns.getD i.toNat 0
theorem eG (ns:List Int) (i:Int) (h0:0≤i) (h1:i<ns.length):atI (ns.map Dat.int) i=some (.int (at' ns i)):=by
 unfold atI ixN at'
 rw [if_pos h0,if_pos (by simpa using h1)]
 have hi:i.toNat<ns.length:=by omega
 show (ns.map Dat.int)[i.toNat]?=_
 rw [List.getElem?_map,List.getElem?_eq_getElem hi,List.getD_eq_getElem?_getD,List.getElem?_eq_getElem hi]
 rfl
theorem vW (ns:List Int) (i:Int) (h0:0≤i) (h1:i<ns.length):gIx (.lst (ns.map Dat.int)) (.int i)=some (.val (.int (at' ns i))):=by
 show (atI (ns.map Dat.int) i).map RV.val=_
 rw [eG ns i h0 h1]
 rfl
noncomputable def Good (n:Int):Int→List Tie→Prop
 | _,[]=>True
 | lo,t::r=>lo≤t.m∧0≤t.a∧t.a≤t.b∧t.b<n∧Good n (t.m+1) r
noncomputable def mgf (f:Int→Int) (a b:Int):Int→Int:=fun x=>if f x=f b then f a else f x
inductive Con (ts:List Tie):Int→Int→Prop
 | refl (x:Int):Con ts x x
 | tie (t:Tie):t∈ts→Con ts t.a t.b
 | symm {x y:Int}:Con ts x y→Con ts y x
 | trans {x y z:Int}:Con ts x y→Con ts y z→Con ts x z
theorem Con.mono {ts us:List Tie} (h:∀ t∈ts,t∈us) {x y:Int} (c:Con ts x y):Con us x y:=by
 induction c with
 | refl x=>exact .refl x
 | tie t m=>exact .tie t (h t m)
 | symm _ ih=>exact .symm ih
 | trans _ _ i1 i2=>exact .trans i1 i2
noncomputable def Tells (f:Int→Int) (ts:List Tie):Prop:=∀ x y,f x=f y↔Con ts x y
theorem Con.nil {x y:Int} (c:Con [] x y):x=y:=by
 induction c with
 | refl x=>rfl
 | tie t m=>cases m
 | symm _ ih=>exact ih.symm
 | trans _ _ i1 i2=>exact i1.trans i2
theorem tells_nil:Tells (fun x=>x) []:=fun x y=>⟨fun h=>by cases h;exact .refl _,fun c=>c.nil⟩
theorem tells_mgf {f:Int→Int} {ts:List Tie} (h:Tells f ts) (t:Tie) (a b:Int) (hab:(a=t.a∧b=t.b)∨(a=t.b∧b=t.a)):Tells (mgf f a b) (t::ts):=by
 have up:∀ {x y},f x=f y→Con (t::ts) x y:=fun e=>Con.mono (fun u m=>List.mem_cons_of_mem _ m) ((h _ _).mp e)
 have ab:Con (t::ts) a b:=by
  rcases hab with ⟨rfl,rfl⟩ | ⟨rfl,rfl⟩
  ·exact .tie t List.mem_cons_self
  ·exact .symm (.tie t List.mem_cons_self)
 intro x y
 unfold mgf
 constructor
 ·intro e
  by_cases hx:f x=f b
  ·rw [if_pos hx] at e
   by_cases hy:f y=f b
   ·exact up (hx.trans hy.symm)
   ·rw [if_neg hy] at e
    exact .trans (up hx) (.trans (.symm ab) (up e))
  ·rw [if_neg hx] at e
   by_cases hy:f y=f b
   ·rw [if_pos hy] at e
    exact .trans (up e) (.trans ab (.symm (up hy)))
   ·rw [if_neg hy] at e
    exact up e
 ·intro c
  have key:∀ {x y:Int},Con (t::ts) x y→(if f x=f b then f a else f x)=(if f y=f b then f a else f y):=fun c=>by
   induction c with
   | refl x=>rfl
   | tie u m=>
    rcases List.mem_cons.mp m with rfl | m
    ·rcases hab with ⟨rfl,rfl⟩ | ⟨rfl,rfl⟩
     ·rw [if_pos (rfl:f u.b=f u.b)]
      split
      ·rfl
      ·rfl
     ·rw [if_pos (rfl:f u.a=f u.a)]
      split
      ·rfl
      ·rfl
    ·have e:=(h u.a u.b).mpr (.tie u m)
     rw [e]
   | symm _ ih=>exact ih.symm
   | trans _ _ i1 i2=>exact i1.trans i2
  exact key c
noncomputable def lay (r:List Tie) (ms:List Int) (j:Int):List Tie:=((r.zip ms).filter fun p=>decide (p.2=j)).map (·.1)
theorem cW (t:Tie) (m:Int) (r:List Tie) (ms:List Int) (j:Int):lay (t::r) (m::ms) j=if m=j then t::lay r ms j else lay r ms j:=by
 unfold lay
 rw [List.zip_cons_cons,List.filter_cons]
 by_cases h:m=j<;>simp [h]
noncomputable def i8 (k:Int) (r:List Tie) (ms:List Int) (t:Tie) (m:Int):Prop:=
 (m=0∧∀ j,1≤j→j≤k→Con (lay r ms j) t.a t.b)∨(1≤m∧m≤k∧¬ Con (lay r ms m) t.a t.b∧∀ j,1≤j→j<m→Con (lay r ms j) t.a t.b)
noncomputable def aW (k:Int):List Tie→List Int→Prop
 | [],[]=>True
 | t::r,m::ms=>aW k r ms∧i8 k r ms t m
 | _,_=>False
theorem i8.uniq {k:Int} {r:List Tie} {ms:List Int} {t:Tie} {m m':Int} (h:i8 k r ms t m) (h':i8 k r ms t m'):m=m':=by
 rcases h with ⟨rfl,h⟩ | ⟨h1,h2,h3,h4⟩
 ·rcases h' with ⟨rfl,_⟩ | ⟨g1,g2,g3,_⟩
  ·rfl
  ·exact absurd (h m' g1 g2) g3
 ·rcases h' with ⟨rfl,h'⟩ | ⟨g1,g2,g3,g4⟩
  ·exact absurd (h' m h1 h2) h3
  ·rcases Int.lt_trichotomy m m' with q | q | q
   ·exact absurd (g4 m h1 q) h3
   ·exact q
   ·exact absurd (h4 m' g1 q) g3
theorem aW.len {k:Int}:∀ {r:List Tie} {ms:List Int},aW k r ms→ms.length=r.length
 | [],[],_=>rfl
 | _::r,_::ms,h=>by simp [aW.len h.1]
 | [],_::_,h=>h.elim
 | _::_,[],h=>h.elim
theorem aW.uniq {k:Int}:∀ {r:List Tie} {ms ms':List Int},aW k r ms→aW k r ms'→ms=ms'
 | [],[],[],_,_=>rfl
 | _::r,m::ms,m'::ms',h,h'=>by
  have e:=aW.uniq h.1 h'.1
  subst e
  rw [h.2.uniq h'.2]
 | [],_::_,_,h,_=>h.elim
 | [],[],_::_,_,h=>h.elim
 | _::_,[],_,h,_=>h.elim
 | _::_,_::_,[],_,h=>h.elim
noncomputable def lab (n:Nat) (f:Int→Int):Dat:=.lst ((List.range n).map fun (i:Nat)=>Dat.int (f i))
theorem gT (n:Nat) (f:Int→Int) (x:Int) (h0:0≤x) (h1:x<n):gIx (lab n f) (.int x)=some (.val (.int (f x))):=by
 unfold lab gIx atI ixN
 have hx:x.toNat<n:=by omega
 have hc:((x.toNat:Nat):Int)=x:=by omega
 simp only [List.length_map,List.length_range,h0,h1,if_true]
 simp [List.getElem?_range hx,hc]
theorem vX (n:Nat):Dat.lst (ups 0 n)=lab n fun x=>x:=by
 unfold ups lab
 simp
theorem rL (n:Nat) (f:Int→Int):lab n f=.lst (((List.range n).map fun (i:Nat)=>f i).map Dat.int):=by
 unfold lab
 rw [List.map_map]
 rfl
theorem tT (n:Nat) (hn:n≤10) (f:Int→Int) (a b:Int) (a0:0≤a) (a1:a<n) (b0:0≤b) (b1:b<n):rG [lab n f,.int a,.int b]=some (.new (lab n (mgf f a b))):=by
 apply Wr.eq
 unfold rG
 (refine Dm.Wr.fn ?_ rfl rfl;dsimp only [List.map,List.replicate,List.cons_append,List.nil_append])
 refine Ws.R (We.lW (fun i:Nat=>Dat.int (f i)) (List.range n) (fun i:Nat=>mgf f a b i) Dat.int (d:=lab n f) ?_ rfl rfl rfl (by decide) (by rw [List.length_range];unfold SZ;omega) fun i _=>?_)
 ·rw [← rL];rfl
 ·refine We.If (Wt.V (We.e2 (We.v rfl (We.e2 (We.v rfl (We.v rfl (Wg2.ix ?_ rfl rfl (gT n f b b0 b1))))))))
  refine Wg2.eq (Wb.mk ⟨fun g=>?_,fun g=>?_⟩) rfl rfl
  ·refine We.e2 (We.v rfl (We.v rfl (Wg2.ix (Wk.val ⟨?_,rfl⟩) rfl rfl (gT n f a a0 a1))))
   unfold mgf;rw [if_pos (of_decide_eq_true g)]
  ·refine We.v rfl (Wk.val ⟨?_,rfl⟩)
   unfold mgf;rw [if_neg (of_decide_eq_false g)]
theorem i9 {α:Type} (enc:α→Dat) (d:α):∀ (k:Nat) (l:List α),gq k (l.map enc)=(List.range l.length).map fun i=>.tup [.int ((k+i:Nat):Int),enc (l.getD i d)]
 | k,[]=>rfl
 | k,x::l=>by
  rw [List.map_cons,gq,i9 enc d (k+1) l,List.length_cons,List.range_succ_eq_map,List.map_cons,List.map_map]
  congr 1
  apply List.map_congr_left
  intro i _
  show _=Dat.tup [.int ((k+(i+1):Nat):Int),enc ((x::l).getD (i+1) d)]
  rw [show k+1+i=k+(i+1) by omega]
  rfl
theorem i_ {n k:Nat} {p q:List Nat} (e:List.range n=p++k::q):k=p.length∧k<n:=by
 have h1:(List.range n)[p.length]?=some k:=by rw [e,List.getElem?_append_right (Nat.le_refl _),Nat.sub_self];rfl
 have h2:p.length<n:=by
  have:(List.range n).length=p.length+(q.length+1):=by rw [e];simp
  rw [List.length_range] at this;omega
 rw [List.getElem?_range h2] at h1
 injection h1 with h1
 omega
noncomputable def vY (gs:List (Int→Int)) (a b:Int) (i:Nat) (num:Int):Prop:=
 (num=0∧∀ (j:Nat) f,j<i→gs[j]?=some f→f a=f b)∨∃ (j:Nat) (f:Int→Int),j<i∧gs[j]?=some f∧f a≠f b∧(∀ (j':Nat) f',j'<j→gs[j']?=some f'→f' a=f' b)∧num=(j:Int)+1
theorem vZ (n:Nat) (gs:List (Int→Int)) (a b:Int) (a0:0≤a) (a1:a<n) (b0:0≤b) (b1:b<n):∃ num:Int,nI [.lst (gs.map (lab n)),.int a,.int b]=some (.val (.int num))∧vY gs a b gs.length num:=by
 suffices hh:Wr (nI [.lst (gs.map (lab n)),.int a,.int b]) fun v=>∃ num:Int,v=.val (.int num)∧vY gs a b gs.length num by
  obtain ⟨v,h1,num,rfl,h2⟩:=hh
  exact ⟨num,h1,h2⟩
 unfold nI
 (refine Dm.Wr.fn ?_ rfl rfl;dsimp only [List.map,List.replicate,List.cons_append,List.nil_append])
 refine Ws.seq (Ws.For (Wi.En (We.v rfl (Wk.val ⟨_,rfl,?_⟩))))
 rw [i9 (lab n) fun x=>x]
 refine Ws.inv (fun i:Nat=>Dat.tup [.int ((0+i:Nat):Int),lab n (gs.getD i fun x=>x)]) _ _ (List.range gs.length) _ _ _ _ _ (fun p q ρ=>∃ c3 c4:Cell,ρ=[.sh (.lst (gs.map (lab n))),.sh (.int a),.sh (.int b),c3,c4]∧∀ (j:Nat) f,j<p.length→gs[j]?=some f→f a=f b) ⟨_,_,rfl,fun j f hj=>by simp at hj⟩ ?_ ?_
 ·rintro p i q ρ e ⟨c3,c4,rfl,low⟩
  obtain ⟨ip,il⟩:=i_ e
  have hf:gs[i]?=some (gs.getD i fun x=>x):=by rw [List.getD_eq_getElem?_getD,List.getElem?_eq_getElem il];rfl
  generalize (gs.getD i fun x=>x)=f at hf
  refine Dm.cj rfl (by first | (dsimp only [List.set];first | done | rfl) | rfl) ?_
  unfold vN
  refine Ws.If (Wt.V (We.e2 (We.e2 (We.v rfl (We.v rfl (Wg2.ix ?_ rfl rfl (gT n f a a0 a1)))))))
  refine We.e2 (We.v rfl (We.v rfl (Wg2.ix ?_ rfl rfl (gT n f b b0 b1))))
  refine Wg2.ne (Wb.mk ?_) rfl rfl
  by_cases h:f a=f b
  ·refine Wif.no (by simp [h]) (Ws.nx ⟨_,_,rfl,fun j g hj hg=>?_⟩)
   rw [List.length_append,List.length_singleton] at hj
   by_cases q:j=i
   ·subst q;rw [hf] at hg;cases hg;exact h
   ·exact low j g (by omega) hg
  ·refine Wif.yes (by simp [h]) (Ws.R (We.e2 (We.v rfl (We.c (Wg2.add ?_ rfl rfl)))))
   exact ⟨_,rfl,.inr ⟨i,f,il,hf,h,fun j g hj=>low j g (by omega),by omega⟩⟩
 ·rintro ρ ⟨c3,c4,rfl,low⟩
  rw [List.length_range] at low
  exact Ws.R (We.c ⟨0,rfl,.inl ⟨rfl,low⟩⟩)
noncomputable def Ends (n:Int) (r:List Tie):Prop:=∀ t∈r,0≤t.a∧t.a<n∧0≤t.b∧t.b<n
noncomputable def ja (k:Nat) (gs:List (Int→Int)) (r:List Tie) (ms:List Int):Prop:=gs.length=k∧∀ (j:Nat) f,gs[j]?=some f→Tells f (lay r ms ((j:Int)+1))
theorem map_set (n:Nat) (gs:List (Int→Int)) (i:Nat) (f:Int→Int):(gs.map (lab n)).set i (lab n f)=(gs.set i f).map (lab n):=by rw [List.map_set]
noncomputable def kP (o:Bool) (gs gs':List (Int→Int)) (a b:Int) (i:Nat) (num:Int):Prop:=
 (num=0∧gs'=gs∧∀ (j:Nat) f,j<i→gs[j]?=some f→f a=f b)∨∃ (j:Nat) (f:Int→Int),j<i∧gs[j]?=some f∧f a≠f b∧(∀ (j':Nat) f',j'<j→gs[j']?=some f'→f' a=f' b)∧num=(j:Int)+1∧gs'=gs.set j (mgf f (if o then a else b) (if o then b else a))
theorem kP.num {k:Nat} {o:Bool} {gs gs':List (Int→Int)} {r:List Tie} {ms:List Int} (h:ja k gs r ms) (t:Tie) {num:Int} (l:kP o gs gs' t.a t.b k num):i8 k r ms t num∧ja k gs' (t::r) (num::ms):=by
 obtain ⟨hl,ht⟩:=h
 rcases l with ⟨rfl,rfl,h2⟩ | ⟨j,f,jk,h1,h3,h4,rfl,rfl⟩
 ·refine ⟨.inl ⟨rfl,fun j j1 j2=>?_⟩,hl,fun i g hg=>?_⟩
  ·have hj:(j-1).toNat<gs'.length:=by omega
   have:=(ht (j-1).toNat _ (List.getElem?_eq_getElem hj) t.a t.b).mp (h2 _ _ (by omega) (List.getElem?_eq_getElem hj))
   rw [show (((j-1).toNat:Nat):Int)+1=j by omega] at this
   exact this
  ·rw [cW,if_neg (by omega)]
   exact ht i g hg
 ·have hj:j<gs.length:=(List.getElem?_eq_some_iff.mp h1).1
  refine ⟨.inr ⟨by omega,by omega,fun c=>h3 ((ht j f h1 t.a t.b).mpr c),fun i i1 i2=>?_⟩,by rw [List.length_set];exact hl,fun i g hg=>?_⟩
  ·have hi:(i-1).toNat<gs.length:=by omega
   have:=(ht (i-1).toNat _ (List.getElem?_eq_getElem hi) t.a t.b).mp (h4 (i-1).toNat _ (by omega) (List.getElem?_eq_getElem hi))
   rw [show (((i-1).toNat:Nat):Int)+1=i by omega] at this
   exact this
  ·rw [cW]
   by_cases q:j=i
   ·subst q
    rw [List.getElem?_set_self hj] at hg
    cases hg
    rw [if_pos rfl]
    cases o
    ·exact tells_mgf (ht j f h1) t t.b t.a (.inr ⟨rfl,rfl⟩)
    ·exact tells_mgf (ht j f h1) t t.a t.b (.inl ⟨rfl,rfl⟩)
   ·rw [List.getElem?_set_ne q] at hg
    rw [if_neg (by omega)]
    exact ht i g hg
theorem rM (n:Nat) (gs:List (Int→Int)) {i:Nat} {f:Int→Int} (h:gs[i]?=some f):gIx (.lst (gs.map (lab n))) (.int (0+(i:Nat)))=some (.val (lab n f)):=by
 have hi:=(List.getElem?_eq_some_iff.mp h).1
 rw [Int.zero_add]
 show (atI (gs.map (lab n)) i).map RV.val=_
 rw [Dm.eG (lab n) gs (i:Nat) (by omega) (by omega)]
 have:gs[((i:Nat):Int).toNat]'(by omega)=f:=by
  have:=List.getElem?_eq_some_iff.mp h
  simpa using this.2
 rw [this];rfl
theorem BI (N:List Int) {i:Nat} {m:Int} (h:N[i]?=some m):gIx (.lst (N.map Dat.int)) (.int (i:Nat))=some (.val (.int m)):=by
 have hi:=(List.getElem?_eq_some_iff.mp h).1
 rw [vW N (i:Nat) (by omega) (by omega)]
 unfold at'
 rw [List.getD_eq_getElem?_getD,Int.toNat_natCast,h]
 rfl
theorem BJ (k:Nat):ja k ((List.range k).map fun _=>(fun x:Int=>x)) [] []:=⟨by simp,fun j f hf=>by
 rw [List.getElem?_map] at hf
 cases h:(List.range k)[j]? with
 | none=>rw [h] at hf;cases hf
 | some x=>rw [h] at hf;cases hf;exact tells_nil⟩
theorem nW (i:Int):vM [.int i]=some (.val (.bl true)):=by
 apply Wr.eq
 unfold vM
 (refine Dm.Wr.fn ?_ rfl rfl;dsimp only [List.map,List.replicate,List.cons_append,List.nil_append])
 refine Ws.R (We.And (We.e1 (We.v rfl (Wg1.mk (v:=.val (.bl true)) (Wb.mk (Wif.t ?_)) rfl rfl))))
 exact ⟨_,_,rfl,rfl⟩
theorem cD (i lo hi:Int) (h1:lo≤i) (h2:i≤hi):gy [.int i,.int lo,.int hi]=some (.val (.bl true)):=by
 apply Wr.eq
 unfold gy
 (refine Dm.Wr.fn ?_ rfl rfl;dsimp only [List.map,List.replicate,List.cons_append,List.nil_append])
 refine Ws.R (We.And (We.F (Was.cons (We.v rfl (Was.nil (WF.val (nW i) (Wb.mk (Wif.t ?_)) rfl rfl))))))
 have e1:gLe (.int lo) (.int i)=some (.val (.bl true)):=by show vB (decide (lo≤i))=_;rw [decide_eq_true h1]
 have e2:gLe (.int i) (.int hi)=some (.val (.bl true)):=by show vB (decide (i≤hi))=_;rw [decide_eq_true h2]
 have e:bR gLe gLe (eV 1) (eV 0) (eV 2) [.sh (.int i),.sh (.int lo),.sh (.int hi)]=some (.val (.bl true),[.sh (.int i),.sh (.int lo),.sh (.int hi)]):=by
  unfold bR
  simp only [eV,List.getElem?_cons_zero,List.getElem?_cons_succ,pk,e1,e2,RV.bB]
 exact ⟨_,_,e,rfl⟩
theorem tU (k:Int) (h1:1≤k) (h6:k≤6):yI [.int k]=some (.val .non):=by
 have e:gS [.int k]=some (.val (.bl true)):=by
  apply Wr.eq
  unfold gS
  (refine Dm.Wr.fn ?_ rfl rfl;dsimp only [List.map,List.replicate,List.cons_append,List.nil_append])
  exact Ws.R (We.F (Was.cons (We.v rfl (Was.cons (We.c (Was.cons (We.c (Was.nil (WF.val (cD k 1 6 h1 h6) rfl rfl rfl)))))))))
 apply Wr.eq
 unfold yI
 (refine Dm.Wr.fn ?_ rfl rfl;dsimp only [List.map,List.replicate,List.cons_append,List.nil_append])
 exact Ws.If (Wt.Not (Wt.V (We.F (Was.cons (We.v rfl (Was.nil (WF.val e (Wb.mk (Wif.f (Ws.nx rfl))) rfl rfl)))))))
theorem jb (n k:Nat) (hn:n≤10) (hk1:1≤k) (hk6:k≤6) (r:List Tie) (hr:Ends n r) (hl:r.length≤1000):∃ ms:List Int,nJ [.int n,aM r,.int k]=some (.new (.lst (ms.map Dat.int)))∧aW k r ms:=by
 suffices hh:Wr (nJ [.int (n:Nat),aM r,.int (k:Nat)]) fun v=>∃ ms:List Int,v=.new (.lst (ms.map Dat.int))∧aW k r ms by
  obtain ⟨v,h1,ms,rfl,h2⟩:=hh
  exact ⟨ms,h1,h2⟩
 unfold nJ
 (refine Dm.Wr.fn ?_ rfl rfl;dsimp only [List.map,List.replicate,List.cons_append,List.nil_append])
 refine Ws.seq (Ws.E (We.F (Was.cons (We.v rfl (Was.nil (WF.val (tU k (by omega) (by omega)) ?_ rfl rfl))))))
 refine Ws.seq (Ws.A (We.Map (fun i:Nat=>Dat.int (0+(i:Nat))) (List.range k) (fun _=>(fun x:Int=>x)) (lab n) (ρ1:=[.sh (.int (n:Nat)),.sh (aM r),.sh (.int (k:Nat)),.un,.un,.un,.un,.un,.un]) ?_ ?_ rfl (by decide) (by rw [List.length_range];unfold SZ;omega) fun i _=>?_) (by decide))
 rotate_left
 ·apply Wi.get
  refine Wi.R1 (We.v rfl (aL.mk ⟨⟨?_,rfl⟩,by unfold BIG;omega,by unfold BIG;omega⟩))
  rw [Int.toNat_natCast];rfl
 ·refine We.B (Was.cons (We.v rfl (Was.nil (WB.D5 ?_ rfl (by omega)))))
  rw [Int.toNat_natCast,vX]
  exact Wk.new ⟨rfl,rfl⟩
 refine WA.new ?_ (by first | (dsimp only [List.set];first | done | rfl) | rfl)
 refine Ws.seq (Ws.A (We.L (Was.nil (WT.mk ?_ rfl rfl (by decide)))) (by decide))
 refine WA.new ?_ (by first | (dsimp only [List.set];first | done | rfl) | rfl)
 refine Ws.seq (Ws.For (Wi.Rev (We.v rfl (Wk.val ⟨_,rfl,?_⟩))))
 rw [← List.map_reverse]
 refine Ws.inv aO _ _ r.reverse _ _ _ _ _ (fun p q ρ=>∃ (gs:List (Int→Int)) (ms:List Int) (c5 c6 c7 c8:Cell),ρ=[.sh (.int (n:Nat)),.sh (aM r),.sh (.int (k:Nat)),.ow (.lst (gs.map (lab n))),.ow (.lst (ms.reverse.map Dat.int)),c5,c6,c7,c8]∧ja k gs p.reverse ms∧aW k p.reverse ms) ⟨(List.range k).map fun _=>(fun x:Int=>x),[],.un,.un,.un,.un,rfl,BJ k,trivial⟩ ?_ ?_
 ·rintro p t q ρ e ⟨gs,ms,c5,c6,c7,c8,rfl,I,A⟩
  have ht:t∈r:=List.mem_reverse.mp (by rw [e];simp)
  obtain ⟨t0,t1,t2,t3⟩:=hr t ht
  have lp:ms.length≤1000:=by
   have a:=A.len
   have:r.reverse.length=p.length+(q.length+1):=by rw [e];simp
   rw [List.length_reverse] at a this
   omega
  obtain ⟨num,en,ln⟩:=vZ n gs t.a t.b t0 t1 t2 t3
  rw [I.1] at ln
  refine Dm.cj rfl (by first | (dsimp only [List.set];first | done | rfl) | rfl) ?_
  unfold vO
  refine Ws.seq (Ws.A (We.F (Was.cons (We.w rfl (Was.cons (We.v rfl (Was.cons (We.v rfl (Was.nil (WF.val en (WA.val ?_ (by first | (dsimp only [List.set];first | done | rfl) | rfl)) rfl rfl))))))))) (by decide))
  refine Ws.cut (fun ρ=>∃ gs',ρ=[.sh (.int (n:Nat)),.sh (aM r),.sh (.int (k:Nat)),.ow (.lst (gs'.map (lab n))),.ow (.lst (ms.reverse.map Dat.int)),.sh (.int t.m),.sh (.int t.a),.sh (.int t.b),.sh (.int num)]∧kP true gs gs' t.a t.b k num) ?_ ?_
  ·refine Ws.If (Wt.V (We.e2 (We.v rfl (We.c (Wg2.gt (Wb.mk ?_) rfl rfl)))))
   rcases ln with ⟨rfl,low⟩ | ⟨j,f,jk,hf,ne,low,rfl⟩
   ·exact Wif.no rfl (Ws.nx ⟨gs,rfl,.inl ⟨rfl,rfl,low⟩⟩)
   ·have gi:gIx (.lst (gs.map (lab n))) (.int ((j:Int)+1-1))=some (.val (lab n f)):=by
     have:=rM n gs hf
     rw [show (j:Int)+1-1=0+(j:Nat) by omega]
     exact this
    refine Wif.yes (decide_eq_true (by omega)) ?_
    refine Ws.Set (We.F (Was.cons (We.e2 (We.w rfl (We.e2 (We.v rfl (We.c (Wg2.sub (Wg2.ix ?_ rfl rfl gi) rfl rfl))))))))
    refine Was.cons (We.v rfl (Was.cons (We.v rfl (Was.nil (WF.box (tT n hn f t.a t.b t0 t1 t2 t3) ?_ rfl rfl rfl (by first | (dsimp only [List.set];first | done | rfl) | rfl))))))
    refine Wk.new ⟨⟨_,rfl⟩,We.e2 (We.v rfl (We.c (Wg2.sub (aL.mk ⟨gs.map (lab n),j,_,rfl,?_,rfl,?_⟩) rfl rfl)))⟩
    ·have hj:j<gs.length:=(List.getElem?_eq_some_iff.mp hf).1
     rw [List.length_map]
     unfold ixN
     rw [if_pos (by omega),if_pos (by omega)]
     congr 1
     omega
    ·exact ⟨gs.set j (mgf f t.a t.b),by rw [← map_set];rfl,.inr ⟨j,f,jk,hf,ne,low,rfl,rfl⟩⟩
  ·rintro ρ ⟨gs',rfl,L⟩
   obtain ⟨h1,h2⟩:=L.num I t
   refine Ws.App (We.v rfl (Wk.val (lV ?_ rfl (by first | (dsimp only [List.set];first | done | rfl) | rfl) (by rw [List.length_map,List.length_reverse];unfold SZ;omega)))) rfl
   refine ⟨gs',num::ms,.sh (.int t.m),.sh (.int t.a),.sh (.int t.b),.sh (.int num),by rw [List.reverse_cons,List.map_append];rfl,?_⟩
   rw [List.reverse_append]
   exact ⟨h2,A,h1⟩
 ·rintro ρ ⟨gs,ms,c5,c6,c7,c8,rfl,I,A⟩
  rw [List.reverse_reverse] at A
  refine Ws.R (We.e1 (We.w rfl (Wg1.mk (v:=.new (.lst (ms.map Dat.int))) ?_ rfl ?_)))
  ·exact ⟨ms,rfl,A⟩
  ·unfold e_
   dsimp only
   rw [← List.map_reverse,List.reverse_reverse]
theorem Good.lo {n:Int}:∀ {r:List Tie} {lo:Int},Good n lo r→∀ t∈r,lo≤t.m
 | [],_,_,t,h=>by cases h
 | x::r,lo,g,t,h=>by
  rcases List.mem_cons.mp h with rfl | h
  ·exact g.1
  ·have:=Good.lo g.2.2.2.2 t h;have:=g.1;omega
theorem Good.mem {n:Int}:∀ {r:List Tie} {lo:Int},Good n lo r→∀ t∈r,0≤t.a∧t.a≤t.b∧t.b<n
 | [],_,_,t,h=>by cases h
 | x::r,lo,g,t,h=>by
  rcases List.mem_cons.mp h with rfl | h
  ·exact ⟨g.2.1,g.2.2.1,g.2.2.2.1⟩
  ·exact Good.mem g.2.2.2.2 t h
theorem zN {ns:List Int} {i:Int} {o p:Option Dat} {K:RV→Prop} (h0:0≤i) (h1:i<ns.length) (k:K (.val (.int (at' ns i)))) (ho:o=some (.lst (ns.map Dat.int))) (hp:p=some (.int i)):Wg2 gIx o p K:=⟨_,_,_,ho,hp,vW ns i h0 h1,k⟩
noncomputable def D7 (r c s:Int):Dat:=.lst [.int r,.int c,.int s]
noncomputable def aB (b:Nat) (d:Dat):Prop:=∃ r c s:Int,d=D7 r c s∧0≤c∧c+b≤1000000
theorem sz {n:Nat} (h:n≤1000):n≤SZ:=Nat.le_trans h (by decide)
theorem ie {m:Int} (h:m≤1000):m<lz:=Int.lt_of_le_of_lt h (by decide)
theorem aB.down {b:Nat} (n:Nat) {d:Dat} (h:aB (b+n) d):aB b d:=by
 obtain ⟨r,c,s,e,c0,c1⟩:=h
 exact ⟨r,c,s,e,c0,by omega⟩
theorem yJ {b:Nat} {d:Dat} (h:aB (b+1) d) (m:Int) (h0:0<m) (h1:m<lz):∃ v d',bq [d,.int m]=some (.val (.int v),d')∧(0≤v∧v<m)∧aB b d':=by
 suffices hh:WrM (bq [d,.int m]) fun v d'=>∃ i,v=.val (.int i)∧(0≤i∧i<m)∧aB b d' by
  obtain ⟨v,d',h1,i,rfl,h2⟩:=hh
  exact ⟨i,d',h1,h2⟩
 obtain ⟨r,c,s,rfl,c0,c1⟩:=h
 unfold bq
 refine WrM.fn ?_ rfl rfl
 dsimp only [List.map,List.replicate,List.cons_append,List.nil_append]
 unfold D7
 repeat array_get_dec
 refine ⟨fun g=>?_,fun g=>?_⟩
 ·repeat array_get_dec
  ·refine Ws.Set ?_
   repeat array_get_dec
   ·refine ⟨_,0,_,rfl,rfl,rfl,?_⟩
    repeat array_get_dec
    exact ⟨_,rfl,_,rfl,gA r m (by omega),r / m,c,s,rfl,c0,by omega⟩
   ·exact ⟨h0,h1⟩
  ·exact h0
 ·repeat array_get_dec
  refine Ws.Set ?_
  repeat array_get_dec
  refine ⟨_,1,_,rfl,rfl,rfl,?_⟩
  repeat array_get_dec
  ·exact ⟨_,rfl,_,rfl,gA _ m (by omega),r,c+1,s,rfl,by omega,by omega⟩
  ·exact h0
  ·exact .inl (by have:=gA (s+977*(c+1)*(c+1)+40693*(c+1)+1) 2147483647 (by decide);unfold B64;omega)
  ·exact .inr (by unfold B64;omega)
noncomputable def Wtk (j:Nat) (m:Int) (ρ1:Env) (Q:Val→Env→Prop):Prop:=∃ (b:Nat) (d:Dat),ρ1[j]?=some (.ow d)∧aB (b+1) d∧0<m∧m<lz∧∀ (v:Int) (d':Dat) (ρ3:Env),ρ1.set j (.ow d')=ρ3→0≤v→v<m→aB b d'→Q (.val (.int v)) ρ3
theorem bz {j:Nat} {m:Int} {b:Nat} {d:Dat} {ρ1:Env} {Q:Val→Env→Prop} (hp:aB (b+1) d) (k:∀ (v:Int) (d':Dat) (ρ3:Env),ρ1.set j (.ow d')=ρ3→0≤v→v<m→aB b d'→Q (.val (.int v)) ρ3) (h2:ρ1[j]?=some (.ow d)) (h0:0<m) (h1:m<lz):Wtk j m ρ1 Q:=⟨_,_,h2,hp,h0,h1,k⟩
theorem We.tk {j:Nat} {a:FE} {ρ:Env} {d0:Dat} {Q:Val→Env→Prop} (h:We a ρ fun v ρ1=>aL v fun m=>Wtk j m ρ1 Q) (h0:ρ[j]?=some (.ow d0)):We (eFm bq j [a]) ρ Q:=by
 refine We.Fm (Was.cons ?_) h0
 obtain ⟨v,ρ1,e1,m,rfl,b,d,hj,hp,m0,m1,k⟩:=h
 obtain ⟨i,d',et,⟨i0,i1⟩,hp'⟩:=yJ hp m m0 m1
 exact ⟨_,_,e1,Was.nil (WFm.any et (k i d' _ rfl i0 i1 hp') hj rfl rfl)⟩
theorem WFm.flat {f:List Dat→Option (RV×Dat)} {j:Nat} {ρ1 ρ2 ρ3:Env} {xs:List Val} {d d1 d':Dat} {ds:List Dat} {v:RV} {Q:Val→Env→Prop} (h5:f (d::ds)=some (v,d')) (q:Q v.bB ρ3) (h2:ρ1[j]?=some (.ow d1)) (h3:tks ρ1 xs=some (ds,ρ2)) (h4:ρ2[j]?=some (.ow d)) (hf:Dm.flat v.dat=true) (hp:iQ d'=true) (hn:ρ1.set j (.ow d')=ρ3):WFm f j ρ1 xs Q:=
 ⟨_,_,_,_,_,_,h2,h3,h4,h5,by rw [hf,hp,Bool.true_and,if_pos rfl,hn];exact q⟩
theorem aB.plain {b:Nat} {d:Dat} (h:aB b d):iQ d=true:=by
 obtain ⟨r,c,s,rfl,_⟩:=h
 rfl
theorem yK {b:Nat} {d:Dat} (h:aB (b+5) d) (m:Int) (h0:0<m) (h1:m<lz):∃ v d',nN [d,.int m]=some (.val (.int v),d')∧(0≤v∧v<m)∧aB b d':=by
 suffices hh:WrM (nN [d,.int m]) fun v d'=>∃ i,v=.val (.int i)∧(0≤i∧i<m)∧aB b d' by
  obtain ⟨v,d',h1,i,rfl,h2⟩:=hh
  exact ⟨i,d',h1,h2⟩
 have one:∀ {N:Env→Prop} {B C:Env→Prop},Ws (sR (eFm bq 0 [(eV 1)])) [.ow d,.sh (.int m),.un,.un] N (fun v ρ=>∃ d',ρ[0]?=some (.ow d')∧∃ i,v=.val (.int i)∧(0≤i∧i<m)∧aB b d') B C:=fun {N B C}=>by
  refine Ws.R (We.tk (We.v rfl (aL.mk (bz h (fun v d' ρ3 e v0 v1 hp=>?_) rfl h0 h1))) rfl)
  subst e
  exact ⟨_,rfl,_,rfl,⟨v0,v1⟩,hp.down 4⟩
 unfold nN
 refine WrM.fn ?_ rfl rfl
 dsimp only [List.map,List.replicate,List.cons_append,List.nil_append]
 have hp:=h
 obtain ⟨r,c,s,rfl,c0,c1⟩:=h
 refine Ws.seq (Ws.If (Wt.Or (Wt.V (We.e2 (We.e2 (We.w rfl (We.c (Wg2.ix (v:=.int r) ?_ rfl rfl rfl))))))))
 refine We.c (Wg2.gt (Wb.mk ⟨fun g=>?_,fun g=>?_⟩) rfl rfl)
 ·exact Wif.t one
 ·refine Wt.V (We.e2 (We.v rfl (We.e2 (We.c (We.c (Wg2.pow (z:=1000000) ?_ rfl rfl (by decide) (by decide)))))))
  refine Wg2.lt (Wb.mk ⟨fun g=>one,fun g=>Ws.nx ?_⟩) rfl rfl
  refine Ws.seq (Ws.A (We.c (WA.val ?_ (by first | (dsimp only [List.set];first | done | rfl) | rfl))) (by decide))
  refine Ws.seq (Ws.For (Wi.R1 (We.c (aL.mk ⟨?_,by decide,by decide⟩))))
  refine Ws.inv (fun i:Nat=>Dat.int (0+(i:Nat))) _ _ (List.range 5) _ _ _ _ _ (fun p q ρ=>∃ (x:Int) (d:Dat) (c3:Cell),ρ=[.ow d,.sh (.int m),.sh (.int x),c3]∧aB (b+q.length) d) ⟨_,_,_,rfl,hp⟩ ?_ ?_
  ·rintro p i q ρ e ⟨x,d,c3,rfl,hd⟩
   refine Dm.cj rfl (by first | (dsimp only [List.set];first | done | rfl) | rfl) ?_
   unfold vQ
   refine Ws.A (We.e2 (We.e2 (We.v rfl (We.c (Wg2.mul ?_ rfl rfl (.inr (by decide))))))) (by decide)
   refine We.tk (We.c (aL.mk (bz hd (fun v d' ρ3 e v0 v1 hp=>?_) rfl (by decide) (by decide)))) rfl
   subst e
   refine Wg2.add (WA.val ?_ (by first | (dsimp only [List.set];first | done | rfl) | rfl)) rfl rfl
   exact ⟨_,_,_,rfl,hp⟩
  ·rintro ρ ⟨x,d,c3,rfl,hd⟩
   refine Ws.R (We.e2 (We.v rfl (We.v rfl (Wg2.mod ?_ rfl rfl h0))))
   exact ⟨_,rfl,_,rfl,gA x m (by omega),hd⟩
theorem ix8 (i:Int) (h0:0≤i) (h:i<8):∃ v:Int,gIx (.lst [.int 6,.int 5,.int 6,.int 4,.int 6,.int 3,.int 5,.int 10]) (.int i)=some (.val (.int v))∧1≤v∧v≤10:=by
 have:i=0∨i=1∨i=2∨i=3∨i=4∨i=5∨i=6∨i=7:=by omega
 rcases this with rfl | rfl | rfl | rfl | rfl | rfl | rfl | rfl<;>exact ⟨_,rfl,by decide,by decide⟩
theorem FL (i:Int) (h0:0≤i) (h:i<4):∃ v:Int,gIx (.lst [.int 3,.int 4,.int 2,.int 6]) (.int i)=some (.val (.int v))∧1≤v∧v≤6:=by
 have:i=0∨i=1∨i=2∨i=3:=by omega
 rcases this with rfl | rfl | rfl | rfl<;>exact ⟨_,rfl,by decide,by decide⟩
theorem tW {b:Nat} {d:Dat} (h:aB (b+2) d):∃ (n:Nat) (d':Dat),nP [d]=some (.val (.int (n:Nat)),d')∧(1≤n∧n≤10)∧aB b d':=by
 suffices hh:WrM (nP [d]) fun v d'=>∃ n:Nat,v=.val (.int (n:Nat))∧(1≤n∧n≤10)∧aB b d' by
  obtain ⟨v,d',h1,i,rfl,h2⟩:=hh
  exact ⟨i,d',h1,h2⟩
 unfold nP
 refine WrM.fn ?_ rfl rfl
 dsimp only [List.map,List.replicate,List.cons_append,List.nil_append]
 refine Ws.R (We.e2 (We.c (We.tk ?_ rfl)))
 refine We.e2 (We.L (Was.cons (We.c (Was.cons (We.c (Was.cons (We.c (Was.cons (We.c (Was.cons (We.c (Was.cons (We.c (Was.cons (We.c (Was.cons (We.c (Was.nil (WT.mk ?_ rfl rfl (by exact Nat.le_of_ble_eq_true rfl))))))))))))))))))))
 refine We.tk (We.c (aL.mk (bz h (fun v d' ρ3 e v0 v1 hp=>?_) rfl (by decide) (by decide)))) rfl
 subst e
 obtain ⟨w,ew,w1,w2⟩:=ix8 v v0 v1
 refine Wg2.ix (aL.mk (bz hp (fun x d2 ρ3 e x0 x1 hp2=>?_) rfl (by omega) (ie (by omega)))) rfl rfl ew
 subst e
 refine Wg2.add ?_ rfl rfl
 refine ⟨_,rfl,(1+x).toNat,?_,by omega,hp2⟩
 have:(((1+x).toNat:Nat):Int)=1+x:=by omega
 rw [this]
theorem v7 {b:Nat} {d:Dat} (h:aB (b+2) d):∃ (n:Nat) (d':Dat),nQ [d]=some (.val (.int (n:Nat)),d')∧(1≤n∧n≤6)∧aB b d':=by
 suffices hh:WrM (nQ [d]) fun v d'=>∃ n:Nat,v=.val (.int (n:Nat))∧(1≤n∧n≤6)∧aB b d' by
  obtain ⟨v,d',h1,i,rfl,h2⟩:=hh
  exact ⟨i,d',h1,h2⟩
 unfold nQ
 refine WrM.fn ?_ rfl rfl
 dsimp only [List.map,List.replicate,List.cons_append,List.nil_append]
 refine Ws.R (We.e2 (We.c (We.tk ?_ rfl)))
 refine We.e2 (We.L (Was.cons (We.c (Was.cons (We.c (Was.cons (We.c (Was.cons (We.c (Was.nil (WT.mk ?_ rfl rfl (by exact Nat.le_of_ble_eq_true rfl))))))))))))
 refine We.tk (We.c (aL.mk (bz h (fun v d' ρ3 e v0 v1 hp=>?_) rfl (by decide) (by decide)))) rfl
 subst e
 obtain ⟨w,ew,w1,w2⟩:=FL v v0 v1
 refine Wg2.ix (aL.mk (bz hp (fun x d2 ρ3 e x0 x1 hp2=>?_) rfl (by omega) (ie (by omega)))) rfl rfl ew
 subst e
 refine Wg2.add ?_ rfl rfl
 refine ⟨_,rfl,(1+x).toNat,?_,by omega,hp2⟩
 have:(((1+x).toNat:Nat):Int)=1+x:=by omega
 rw [this]
theorem l7 (r:List Tie):gNe (aM r) (.lst [])=some (.val (.bl (!r.isEmpty))):=by
 cases r with
 | nil=>rfl
 | cons t r=>
  unfold gNe
  have:okD 8 (aM (t::r))=true:=zM aO (t::r) fun t=>rfl
  rw [this]
  rfl
theorem l8 (r:List Tie) {i:Nat} {t:Tie} (h:r[i]?=some t):gIx (aM r) (.int (i:Nat))=some (.val (aO t)):=by
 have hi:=(List.getElem?_eq_some_iff.mp h).1
 show (atI (r.map aO) i).map RV.val=_
 rw [Dm.eG aO r (i:Nat) (by omega) (by omega)]
 have:r[((i:Nat):Int).toNat]'(by omega)=t:=by
  have:=List.getElem?_eq_some_iff.mp h
  simpa using this.2
 rw [this];rfl
theorem yL {b:Nat} {d:Dat} (h:aB (b+4) d) (n:Nat) (n1:1≤n) (n10:n≤10) (r:List Tie) (hr:Good n 0 r) (hl:r.length≤60) :
  ∃ (x y:Int) (d':Dat),d8 [d,.int (n:Nat),aM r]=some (.val (.tup [.int x,.int y]),d')∧(0≤x∧x≤y∧y<n)∧aB b d':=by
 suffices hh:WrM (d8 [d,.int (n:Nat),aM r]) fun v d'=>∃ x y:Int,v=.val (.tup [.int x,.int y])∧(0≤x∧x≤y∧y<n)∧aB b d' by
  obtain ⟨v,d',h1,x,y,rfl,h2⟩:=hh
  exact ⟨x,y,d',h1,h2⟩
 unfold d8
 refine WrM.fn ?_ rfl rfl
 dsimp only [List.map,List.replicate,List.cons_append,List.nil_append]
 refine Ws.seq (Ws.A (We.tk (We.v rfl (aL.mk (bz h (fun x d1 ρ3 e x0 x1 hp=>?_) rfl (by omega) (ie (by omega))))) rfl) (by decide))
 subst e
 refine WA.val ?_ (by first | (dsimp only [List.set];first | done | rfl) | rfl)
 refine Ws.seq (Ws.A (We.tk (We.v rfl (aL.mk (bz hp (fun y d2 ρ3 e y0 y1 hp=>?_) rfl (by omega) (ie (by omega))))) rfl) (by decide))
 subst e
 refine WA.val ?_ (by first | (dsimp only [List.set];first | done | rfl) | rfl)
 refine Ws.cut (fun ρ=>∃ (x y:Int) (d':Dat) (c5:Cell),(0≤x∧x<n∧0≤y∧y<n)∧aB b d'∧ρ=[.ow d',.sh (.int (n:Nat)),.sh (aM r),.sh (.int x),.sh (.int y),c5]) ?_ ?_
 ·refine Ws.If (Wt.And (Wt.V (We.e2 (We.v rfl (We.L (Was.nil (WT.mk ⟨_,_,_,rfl,rfl,l7 r,Wb.mk ?_⟩ rfl rfl (by decide))))))))
  refine ⟨fun g=>?_,fun g=>Wif.f (Ws.nx ⟨x,y,d2,_,⟨x0,x1,y0,y1⟩,hp.down 2,rfl⟩)⟩
  have l0:0<r.length:=by
   cases r with
   | nil=>cases g
   | cons t r=>simp
  refine Wt.V (We.e2 (We.tk (We.c (aL.mk (bz hp (fun z d3 ρ3 e z0 z1 hp=>?_) rfl (by decide) (by decide)))) rfl))
  subst e
  refine We.c (Wg2.eq (Wb.mk ⟨fun g2=>?_,fun g2=>Ws.nx ⟨x,y,d3,_,⟨x0,x1,y0,y1⟩,hp.down 1,rfl⟩⟩) rfl rfl)
  refine Ws.U (We.e2 (We.v rfl (We.tk (We.B (Was.cons (We.v rfl (Was.nil (WB.ff (enc:=aO) (xs:=r) (aL.mk (bz hp (fun i d4 ρ3 e i0 i1 hp=>?_) rfl (by omega) (ie (by omega)))) rfl))))) rfl)))
  subst e
  have hi:i.toNat<r.length:=by omega
  have ei:i=((i.toNat:Nat):Int):=by omega
  have g:=Good.mem hr _ (List.getElem_mem hi)
  rw [ei]
  refine Wg2.ix ?_ rfl rfl (l8 r (List.getElem?_eq_getElem hi))
  refine Wk.val ⟨_,_,rfl,rfl,?_⟩
  exact ⟨_,_,d4,_,⟨g.1,by omega,by omega,g.2.2⟩,hp,rfl⟩
 ·rintro ρ ⟨x,y,d',c5,g,hp,rfl⟩
  refine Ws.R (We.T (Was.cons (We.B (Was.cons (We.v rfl (Was.cons (We.v rfl (Was.nil (WB.min2 ?_ rfl)))))))))
  refine Was.cons (We.B (Was.cons (We.v rfl (Was.cons (We.v rfl (Was.nil (WB.max2 ?_ rfl)))))))
  refine Was.nil (WT.mk ?_ rfl rfl (by exact Nat.le_of_ble_eq_true rfl))
  refine ⟨_,rfl,_,_,rfl,?_,hp⟩
  by_cases q:y<x
  ·rw [if_pos q,if_neg (by omega)];omega
  ·rw [if_neg q]
   by_cases q2:y>x
   ·rw [if_pos q2];omega
   ·rw [if_neg q2];omega
noncomputable abbrev Z27:Int:=1000000000000000000000000000
noncomputable abbrev Z30:Int:=1000000000000000000000000000000
theorem Good.snoc {n:Int}:∀ {r:List Tie} {lo:Int} {t:Tie},Good n lo r→(∀ u∈r,u.m<t.m)→lo≤t.m→0≤t.a→t.a≤t.b→t.b<n→Good n lo (r++[t])
 | [],lo,t,_,_,h1,h2,h3,h4=>⟨h1,h2,h3,h4,trivial⟩
 | u::r,lo,t,g,hm,h1,h2,h3,h4=>⟨g.1,g.2.1,g.2.2.1,g.2.2.2.1,Good.snoc g.2.2.2.2 (fun v hv=>hm v (List.mem_cons_of_mem _ hv)) (by have:=hm u List.mem_cons_self;omega) h2 h3 h4⟩
theorem v8 {b:Nat} {d:Dat} (h:aB (b+402) d) (n:Nat) (n1:1≤n) (n10:n≤10) (most:Int) (m0:0≤most) (m40:most≤40) :
  ∃ (r:List Tie) (d':Dat),nR [d,.int (n:Nat),.int most]=some (.new (aM r),d')∧(Good n 0 r∧r.length≤40∧∀ t∈r,t.m≤50*Z27)∧aB b d':=by
 suffices hh:WrM (nR [d,.int (n:Nat),.int most]) fun v d'=>∃ r:List Tie,v=.new (aM r)∧(Good n 0 r∧r.length≤40∧∀ t∈r,t.m≤50*Z27)∧aB b d' by
  obtain ⟨v,d',h1,r,rfl,h2⟩:=hh
  exact ⟨r,d',h1,h2⟩
 unfold nR
 refine WrM.fn ?_ rfl rfl
 dsimp only [List.map,List.replicate,List.cons_append,List.nil_append]
 refine Ws.seq (Ws.A (We.e2 (We.tk (We.c (aL.mk (bz h (fun x d1 ρ3 e x0 x1 hp=>?_) rfl (by decide) (by decide)))) rfl)) (by decide))
 subst e
 refine We.c (Wg2.sub ?_ rfl rfl)
 refine WA.val ?_ (by first | (dsimp only [List.set];first | done | rfl) | rfl)
 refine Ws.seq (Ws.A (We.L (Was.nil (WT.mk ?_ rfl rfl (by decide)))) (by decide))
 refine WA.new ?_ (by first | (dsimp only [List.set];first | done | rfl) | rfl)
 refine Ws.seq (Ws.For (Wi.R1 (We.tk (We.e2 (We.v rfl (We.c (Wg2.add (aL.mk (bz hp (fun cnt d2 ρ3 e k0 k1 hp=>?_) rfl (by omega) (ie (by omega)))) rfl rfl)))) rfl)))
 subst e
 refine aL.mk ⟨?_,by unfold BIG;omega,by unfold BIG;omega⟩
 have hp':aB (b+10*(List.range cnt.toNat).length) d2:=by
  rw [List.length_range]
  refine aB.down (400-10*cnt.toNat) ?_
  have:b+10*cnt.toNat+(400-10*cnt.toNat)=b+400:=by omega
  rw [this];exact hp
 refine Ws.inv (fun i:Nat=>Dat.int (0+(i:Nat))) _ _ (List.range cnt.toNat) _ _ _ _ _ (fun p q ρ=>∃ (m:Int) (r:List Tie) (d:Dat) (c5 c6 c7 c8:Cell),ρ=[.ow d,.sh (.int (n:Nat)),.sh (.int most),.sh (.int m),.ow (aM r),c5,c6,c7,c8]∧aB (b+10*q.length) d∧r.length=p.length∧Good n 0 r∧(∀ t∈r,t.m≤m)∧-1≤m∧m≤2+(p.length:Int)*(Z27+3)) ⟨_,[],_,_,_,_,_,rfl,hp',rfl,trivial,(fun t ht=>by cases ht),by omega,by simp;omega⟩ ?_ ?_
 ·rintro p i q ρ e ⟨m,r,d,c5,c6,c7,c8,rfl,hd,hl,hr,hm,m1,m2⟩
  have lp:p.length<40:=by
   have:(List.range cnt.toNat).length=p.length+(q.length+1):=by rw [e];simp
   rw [List.length_range] at this;omega
  have hd:aB (b+10*q.length+10) d:=hd
  refine Dm.cj rfl (by first | (dsimp only [List.set];first | done | rfl) | rfl) ?_
  unfold vR
  refine Ws.seq (Ws.A (We.tk (We.c (aL.mk (bz hd (fun st d1 ρ3 e s0 s1 hd=>?_) rfl (by decide) (by decide)))) rfl) (by decide))
  subst e
  refine WA.val ?_ (by first | (dsimp only [List.set];first | done | rfl) | rfl)
  refine Ws.seq (Ws.A (We.e2 (We.e2 (We.v rfl (We.c (Wg2.add (We.e2 (We.v rfl (We.c (Wg2.div ?_ rfl rfl (by decide))))) rfl rfl))))) (by decide))
  refine Wg2.add ?_ rfl rfl
  refine WA.val ?_ (by first | (dsimp only [List.set];first | done | rfl) | rfl)
  refine Ws.cut (fun ρ=>∃ (m':Int) (d':Dat),ρ=[.ow d',.sh (.int (n:Nat)),.sh (.int most),.sh (.int m'),.ow (aM r),.sh (.int (0+(i:Nat))),.sh (.int st),c7,c8]∧aB (b+10*q.length+4) d'∧m<m'∧m'≤m+Z27+3) ?_ ?_
  ·refine Ws.If (Wt.V (We.e2 (We.v rfl (We.c (Wg2.eq (Wb.mk ⟨fun g=>?_,fun g=>Ws.nx ⟨_,_,rfl,hd.down 5,by omega,by unfold Z27;omega⟩⟩) rfl rfl)))))
   obtain ⟨v,d2,ew,⟨v0,v1⟩,hd2⟩:=yK (b:=b+10*q.length+4) hd Z27 (by decide) (by decide)
   refine Ws.A (We.e2 (We.v rfl (We.Fm (Was.cons (We.e2 (We.c (We.c (Wg2.pow (z:=Z27) ?_ rfl rfl (by decide) (by decide)))))) rfl))) (by decide)
   refine Was.nil (WFm.any ew ?_ rfl rfl (by first | (dsimp only [List.set];first | done | rfl) | rfl))
   refine Wg2.add (WA.val ?_ (by first | (dsimp only [List.set];first | done | rfl) | rfl)) rfl rfl
   exact ⟨_,_,rfl,hd2,by omega,by omega⟩
  ·rintro ρ ⟨m',d',rfl,hd,lt,le⟩
   obtain ⟨x,y,d3,ee,hxy,hd3⟩:=yL (b:=b+10*q.length) hd n n1 n10 r hr (by omega)
   refine Ws.seq (Ws.U (We.Fm (Was.cons (We.v rfl (Was.cons (We.w rfl (Was.nil (WFm.flat ee ?_ rfl rfl rfl rfl hd3.plain (by first | (dsimp only [List.set];first | done | rfl) | rfl))))))) rfl))
   refine Wk.val ⟨_,_,rfl,rfl,?_⟩
   refine Ws.App (We.T (Was.cons (We.v rfl (Was.cons (We.v rfl (Was.cons (We.v rfl (Was.nil (WT.mk ?_ rfl rfl (by exact Nat.le_of_ble_eq_true rfl)))))))))) rfl
   refine Wk.val (lV ?_ rfl (by first | (dsimp only [List.set];first | done | rfl) | rfl) (by rw [List.length_map];unfold SZ;omega))
   refine ⟨m',r++[⟨m',x,y⟩],d3,.sh (.int (0+(i:Nat))),.sh (.int st),.sh (.int x),.sh (.int y),?_,?_,by simp [hl],Good.snoc hr (fun u hu=>?_) (by show 0≤m';omega) hxy.1 hxy.2.1 hxy.2.2,fun t ht=>?_,by omega,?_⟩
   ·unfold aM
    rw [List.map_append]
    rfl
   ·exact hd3
   ·have:=hm u hu
    show u.m<m'
    omega
   ·rcases List.mem_append.mp ht with ht | ht
    ·have:=hm t ht;omega
    ·rw [List.mem_singleton.mp ht];exact Int.le_refl _
   ·rw [List.length_append,List.length_singleton,Int.natCast_add,Int.add_mul]
    simp
    omega
 ·rintro ρ ⟨m,r,d,c5,c6,c7,c8,rfl,hd,hl,hr,hm,m1,m2⟩
  rw [List.length_range] at hl m2
  refine Ws.R (We.w rfl (WR.slot ?_ rfl))
  refine ⟨_,rfl,r,rfl,⟨hr,by omega,fun t ht=>?_⟩,hd⟩
  have:=hm t ht
  have h2:(cnt.toNat:Int)*(Z27+3)≤40*(Z27+3):=Int.mul_le_mul_of_nonneg_right (by omega) (by decide)
  unfold Z27 at *
  omega
theorem v9 (n:Nat) (hn:n≤10) (k:Nat) (hk:k≤6) (rD:Dat) (gs:List (Int→Int)) (hg:gs.length=k) (N:List Int) (at_:Nat) (ha:N[at_]?=some 0) (hN:N.length≤1000) (a b:Int) (a0:0≤a) (a1:a<n) (b0:0≤b) (b1:b<n) (c6 c9 c10 c11:Cell) {Nx:Env→Prop} {R:RV→Env→Prop} {B C:Env→Prop}
  (nx:∀ gs' num c9 c10 c11,kP false gs gs' a b k num→Nx [.sh (.int (n:Nat)),.sh rD,.sh (.int (k:Nat)),.ow (.lst (gs'.map (lab n))),.ow (.lst ((N.set at_ num).map Dat.int)),.sh (.int (at_:Nat)),c6,.sh (.int a),.sh (.int b),c9,c10,c11]) :
  Ws (eO (iR1 (eV 2)) (bN 9) p_) [.sh (.int (n:Nat)),.sh rD,.sh (.int (k:Nat)),.ow (.lst (gs.map (lab n))),.ow (.lst (N.map Dat.int)),.sh (.int (at_:Nat)),c6,.sh (.int a),.sh (.int b),c9,c10,c11] Nx R B C:=by
 have hat:=(List.getElem?_eq_some_iff.mp ha).1
 refine Ws.For (Wi.R1 (We.v rfl (aL.mk ⟨?_,by unfold BIG;omega,by unfold BIG;omega⟩)))
 rw [Int.toNat_natCast]
 have n0:N.set at_ 0=N:=by
  apply List.ext_getElem?
  intro j
  by_cases e:at_=j
  ·subst e;rw [List.getElem?_set_self hat,ha]
  ·rw [List.getElem?_set_ne e]
 refine Ws.inv (fun i:Nat=>Dat.int (0+(i:Nat))) _ _ (List.range k) _ _ _ _ _ (fun p q ρ=>∃ (gs':List (Int→Int)) (num:Int) (c9 c10 c11:Cell),ρ=[.sh (.int (n:Nat)),.sh rD,.sh (.int (k:Nat)),.ow (.lst (gs'.map (lab n))),.ow (.lst ((N.set at_ num).map Dat.int)),.sh (.int (at_:Nat)),c6,.sh (.int a),.sh (.int b),c9,c10,c11]∧kP false gs gs' a b p.length num) ⟨gs,0,_,_,_,by rw [n0],.inl ⟨rfl,rfl,fun j f hj=>by simp at hj⟩⟩ ?_ ?_
 ·rintro p i q ρ e ⟨gs',num,c9,c10,c11,rfl,L⟩
  obtain ⟨ip,ik⟩:=i_ e
  have lg:gs'.length=k:=by
   rcases L with ⟨_,rfl,_⟩ | ⟨_,_,_,_,_,_,_,rfl⟩
   ·exact hg
   ·rw [List.length_set];exact hg
  obtain ⟨f,hf⟩:∃ f,gs'[i]?=some f:=⟨_,List.getElem?_eq_getElem (by omega)⟩
  have hnum:(N.set at_ num)[at_]?=some num:=List.getElem?_set_self hat
  refine Dm.cj rfl (by first | (dsimp only [List.set];first | done | rfl) | rfl) ?_
  unfold p_
  refine Ws.seq (Ws.A (We.e2 (We.e2 (We.w rfl (We.v rfl (Wg2.ix ?_ rfl rfl (rM n gs' hf)))))) (by decide))
  refine We.v rfl (Wg2.ix (WA.val ?_ (by first | (dsimp only [List.set];first | done | rfl) | rfl)) rfl rfl (gT n f a a0 a1))
  refine Ws.seq (Ws.A (We.e2 (We.e2 (We.w rfl (We.v rfl (Wg2.ix ?_ rfl rfl (rM n gs' hf)))))) (by decide))
  refine We.v rfl (Wg2.ix (WA.val ?_ (by first | (dsimp only [List.set];first | done | rfl) | rfl)) rfl rfl (gT n f b b0 b1))
  refine Ws.If (Wt.And (Wt.V (We.e2 (We.e2 (We.w rfl (We.v rfl (Wg2.ix ?_ rfl rfl (BI _ hnum))))))))
  refine We.c (Wg2.eq (Wb.mk ?_) rfl rfl)
  have stay:num≠0∨f a=f b→kP false gs gs' a b (p++[i]).length num:=fun h=>by
   rw [List.length_append,List.length_singleton]
   rcases L with ⟨rfl,rfl,h2⟩ | ⟨j,g,jk,h1,h3,h4,h5,h6⟩
   ·have hab:=h.resolve_left (by simp)
    refine .inl ⟨rfl,rfl,fun j g hj hg'=>?_⟩
    by_cases e:j=i
    ·subst e;rw [hf] at hg';cases hg';exact hab
    ·exact h2 j g (by omega) hg'
   ·exact .inr ⟨j,g,by omega,h1,h3,h4,h5,h6⟩
  by_cases z:num=0
  ·refine Wif.yes (decide_eq_true z) ?_
   refine Wt.V (We.e2 (We.v rfl (We.v rfl (Wg2.ne (Wb.mk ?_) rfl rfl))))
   by_cases hab:f a=f b
   ·exact Wif.no (by simp [hab]) (Ws.nx ⟨_,_,_,_,_,rfl,stay (.inr hab)⟩)
   ·refine Wif.yes (by simp [hab]) ?_
    subst z
    have eg:gs'=gs∧∀ (j:Nat) f,j<p.length→gs[j]?=some f→f a=f b:=by
     rcases L with ⟨_,h1,h2⟩ | ⟨j,g,_,_,_,_,h5,_⟩
     ·exact ⟨h1,h2⟩
     ·omega
    obtain ⟨rfl,hlow⟩:=eg
    refine Ws.seq (Ws.Set (We.e2 (We.v rfl (We.c (Wg2.add ?_ rfl rfl)))))
    refine Wk.val ⟨⟨_,rfl⟩,We.v rfl (aL.mk ⟨(N.set at_ 0).map Dat.int,at_,_,rfl,?_,rfl,?_⟩)⟩
    ·rw [List.length_map,List.length_set]
     unfold ixN
     rw [if_pos (by omega),if_pos (by omega)]
     rfl
    ·refine Ws.Set (We.Map (fun i:Nat=>Dat.int (f i)) (List.range n) (fun i:Nat=>mgf f b a i) Dat.int (ρ1:=[.sh (.int (n:Nat)),.sh rD,.sh (.int (k:Nat)),.ow (.lst (gs'.map (lab n))),.ow (.lst (((N.set at_ 0).map Dat.int).set at_ (.int (0+(i:Nat)+1)))),.sh (.int (at_:Nat)),c6,.sh (.int a),.sh (.int b),.sh (.int (0+(i:Nat))),.sh (.int (f a)),.sh (.int (f b))]) ?_ ?_ rfl (by decide) (by rw [List.length_range];unfold SZ;omega) fun x hx=>?_)
     ·refine Wk.new ⟨⟨_,rfl⟩,We.v rfl (aL.mk ⟨gs'.map (lab n),i,_,rfl,?_,rfl,?_⟩)⟩
      ·rw [List.length_map]
       unfold ixN
       rw [if_pos (by omega),if_pos (by omega)]
       congr 1
       omega
      ·refine ⟨gs'.set i (mgf f b a),(i:Int)+1,.sh (.int (0+(i:Nat))),.sh (.int (f a)),.sh (.int (f b)),?_,?_⟩
       ·have e1:((N.set at_ 0).map Dat.int).set at_ (.int (0+(i:Nat)+1))=(N.set at_ ((i:Int)+1)).map Dat.int:=by
         rw [← List.map_set,List.set_set,Int.zero_add]
        have e2:(gs'.map (lab n)).set i (.lst (((List.range n).map fun i:Nat=>mgf f b a i).map Dat.int))=(gs'.set i (mgf f b a)).map (lab n):=by
         rw [← rL,map_set]
        rw [e1,← e2]
        rfl
       ·rw [List.length_append,List.length_singleton]
        exact .inr ⟨i,f,by omega,hf,hab,fun j g hj=>hlow j g (by omega),rfl,rfl⟩
     ·apply Wi.get
      exact Wi.S (We.e2 (We.w rfl (We.v rfl (Wg2.ix (Wk.val ⟨_,rfl,rfl,rfl⟩) rfl rfl (rM n gs' hf)))))
     ·refine We.e2 (We.L (Was.cons (We.v rfl (Was.cons (We.v rfl (Was.nil (WT.mk ?_ rfl rfl (by exact Nat.le_of_ble_eq_true rfl))))))))
      refine We.B (Was.cons (We.e2 (We.v rfl (We.v rfl (Wg2.eq ?_ rfl rfl)))))
      refine Was.nil (WB.int ?_ rfl)
      by_cases q:f x=f a
      ·rw [decide_eq_true q]
       refine Wg2.ix (v:=.int (f b)) (Wk.val ⟨?_,rfl⟩) rfl rfl rfl
       unfold mgf;rw [if_pos q]
      ·rw [decide_eq_false q]
       refine Wg2.ix (v:=.int (f x)) (Wk.val ⟨?_,rfl⟩) rfl rfl rfl
       unfold mgf;rw [if_neg q]
  ·exact Wif.no (decide_eq_false z) (Wif.f (Ws.nx ⟨_,_,_,_,_,rfl,stay (.inl z)⟩))
 ·rintro ρ ⟨gs',num,c9,c10,c11,rfl,L⟩
  rw [List.length_range] at L
  exact nx _ _ _ _ _ L
theorem Wg2.D8 {x:Int} {k:Nat} {o p:Option Dat} {K:RV→Prop} (q:K (.new (.lst ((List.replicate k x).map Dat.int)))) (ho:o=some (.lst [.int x])) (hp:p=some (.int (k:Nat))) (h:k≤SZ):Wg2 dQ o p K:=by
 refine ⟨_,_,_,ho,hp,?_,q⟩
 unfold dQ
 dsimp only
 have e:(List.replicate k [Dat.int x]).flatten=(List.replicate k x).map Dat.int:=by
  clear ho hp h q
  induction k with
  | zero=>rfl
  | succ k ih=>rw [List.replicate_succ,List.flatten_cons,ih,List.replicate_succ,List.map_cons];rfl
 rw [if_pos ⟨by unfold BIG;unfold SZ at h;omega,by unfold BIG;omega,by rw [Int.toNat_natCast];simpa using h⟩,Int.toNat_natCast,e]
theorem tX (hi:Int) (n:Nat):downs hi n=(List.range n).map fun i:Nat=>Dat.int (hi-(i:Nat)):=rfl
theorem yM (z:Nat) (ms:List Int) (num:Int):(List.replicate (z+1) (0:Int)++ms).set z num=List.replicate z 0++num::ms:=by
 rw [List.set_append_left _ _ (by simp),List.replicate_succ']
 rw [List.set_append_right _ _ (by simp)]
 simp
theorem gB (n k:Nat) (hn:n≤10) (hk6:k≤6) (r:List Tie) (hr:Ends n r) (hl:r.length≤1000):∃ ms:List Int,kM [.int (n:Nat),aM r,.int (k:Nat)]=some (.new (.lst (ms.map Dat.int)))∧aW k r ms:=by
 suffices hh:Wr (kM [.int (n:Nat),aM r,.int (k:Nat)]) fun v=>∃ ms:List Int,v=.new (.lst (ms.map Dat.int))∧aW k r ms by
  obtain ⟨v,h1,ms,rfl,h2⟩:=hh
  exact ⟨ms,h1,h2⟩
 unfold kM
 (refine Dm.Wr.fn ?_ rfl rfl;dsimp only [List.map,List.replicate,List.cons_append,List.nil_append])
 refine Ws.seq (Ws.A (We.Map (fun i:Nat=>Dat.int (0+(i:Nat))) (List.range k) (fun _=>(fun x:Int=>x)) (lab n) (ρ1:=[.sh (.int (n:Nat)),.sh (aM r),.sh (.int (k:Nat)),.un,.un,.un,.un,.un,.un,.un,.un,.un]) ?_ ?_ rfl (by decide) (by rw [List.length_range];unfold SZ;omega) fun i _=>?_) (by decide))
 rotate_left
 ·apply Wi.get
  refine Wi.R1 (We.v rfl (aL.mk ⟨⟨?_,rfl⟩,by unfold BIG;omega,by unfold BIG;omega⟩))
  rw [Int.toNat_natCast];rfl
 ·refine We.B (Was.cons (We.v rfl (Was.nil (WB.D5 ?_ rfl (by omega)))))
  rw [Int.toNat_natCast,vX]
  exact Wk.new ⟨rfl,rfl⟩
 refine WA.new ?_ (by first | (dsimp only [List.set];first | done | rfl) | rfl)
 refine Ws.seq (Ws.A (We.e2 (We.L (Was.cons (We.c (Was.nil (WT.mk ?_ rfl rfl (by decide))))))) (by decide))
 refine We.B (Was.cons (We.v rfl (Was.nil (WB.ff (enc:=aO) (xs:=r) ?_ rfl))))
 refine Wg2.D8 (x:=0) ?_ rfl rfl (by unfold SZ;omega)
 refine WA.new ?_ (by first | (dsimp only [List.set];first | done | rfl) | rfl)
 refine Ws.seq (Ws.For (Wi.Rd (We.e2 (We.B (Was.cons (We.v rfl (Was.nil (WB.ff (enc:=aO) (xs:=r) ?_ rfl))))))))
 refine We.c (Wg2.sub (aL.mk ?_) rfl rfl)
 refine We.e1 (We.c (Wg1.mk (v:=.val (.int (-1))) ?_ rfl rfl))
 refine aL.mk (We.e1 (We.c (Wg1.mk (v:=.val (.int (-1))) ?_ rfl rfl)))
 refine ⟨rfl,?_,by unfold BIG;omega⟩
 have el:(((r.length:Nat):Int)-1 - -1).toNat=r.length:=by omega
 rw [el,tX]
 refine Ws.inv (fun i:Nat=>Dat.int (((r.length:Nat):Int)-1-(i:Nat))) _ _ (List.range r.length) _ _ _ _ _ (fun p q ρ=>∃ (gs:List (Int→Int)) (ms:List Int) (c5 c6 c7 c8 c9 c10 c11:Cell),ρ=[.sh (.int (n:Nat)),.sh (aM r),.sh (.int (k:Nat)),.ow (.lst (gs.map (lab n))),.ow (.lst ((List.replicate (r.length-p.length) 0++ms).map Dat.int)),c5,c6,c7,c8,c9,c10,c11]∧ja k gs (r.drop (r.length-p.length)) ms∧aW k (r.drop (r.length-p.length)) ms) ⟨(List.range k).map fun _=>(fun x:Int=>x),[],.un,.un,.un,.un,.un,.un,.un,by rw [List.append_nil];rfl,by simpa using BJ k,by simp [aW]⟩ ?_ ?_
 ·rintro p i q ρ e ⟨gs,ms,c5,c6,c7,c8,c9,c10,c11,rfl,I,A⟩
  obtain ⟨ip,il⟩:=i_ e
  have ez:r.length-p.length=(r.length-1-i)+1:=by omega
  have ez2:r.length-(p++[i]).length=r.length-1-i:=by rw [List.length_append,List.length_singleton];omega
  rw [ez2]
  rw [ez] at I A ⊢
  generalize hz:r.length-1-i=z at *
  have zl:z<r.length:=by omega
  have ea:((r.length:Nat):Int)-1-(i:Nat)=(z:Nat):=by omega
  have ed:r.drop z=r[z]::r.drop (z+1):=(List.getElem_cons_drop zl).symm
  have hE:=hr _ (List.getElem_mem zl)
  rw [ea]
  refine Dm.cj rfl (by first | (dsimp only [List.set];first | done | rfl) | rfl) ?_
  unfold vS
  refine Ws.seq (Ws.U (We.e2 (We.v rfl (We.v rfl (Wg2.ix ?_ rfl rfl (l8 r (List.getElem?_eq_getElem zl)))))))
  refine Wk.val ⟨_,_,rfl,rfl,?_⟩
  have hN:(List.replicate (z+1) (0:Int)++ms).length≤1000:=by
   have:=A.len
   rw [List.length_drop] at this
   rw [List.length_append,List.length_replicate];omega
  refine v9 n hn k hk6 _ gs I.1 (List.replicate (z+1) 0++ms) z (by rw [List.getElem?_append_left (by simp)];simp) hN _ _ hE.1 hE.2.1 hE.2.2.1 hE.2.2.2 _ _ _ _ fun gs' num c9 c10 c11 L=>?_
  obtain ⟨h1,h2⟩:=L.num I r[z]
  refine ⟨gs',num::ms,_,_,_,_,_,_,_,by rw [yM],by rw [ed];exact h2,by rw [ed];exact ⟨A,h1⟩⟩
 ·rintro ρ ⟨gs,ms,c5,c6,c7,c8,c9,c10,c11,rfl,I,A⟩
  rw [List.length_range,Nat.sub_self] at A ⊢
  refine Ws.R (We.w rfl (WR.slot ?_ rfl))
  exact ⟨ms,rfl,A⟩
theorem v_ {i:Int} {o:Option (List Dat)} {K:RV→Prop} (k:K (.val (.int (if i<0 then -i else i)))) (ho:o=some [.int i]):WB tL o K:=⟨_,_,ho,rfl,k⟩
theorem wc (x:Int):∃ d,nM [.int x]=some (.new d)∧cS d=true∧aB 1000000 d:=by
 suffices hh:Wr (nM [.int x]) fun v=>∃ d,v=.new d∧cS d=true∧aB 1000000 d by
  obtain ⟨v,h1,d,rfl,h2⟩:=hh
  exact ⟨d,h1,h2⟩
 unfold nM
 (refine Dm.Wr.fn ?_ rfl rfl;dsimp only [List.map,List.replicate,List.cons_append,List.nil_append])
 refine Ws.seq (Ws.A (We.c (WA.val ?_ (by first | (dsimp only [List.set];first | done | rfl) | rfl))) (by decide))
 refine Ws.cut (fun ρ=>∃ y:Int,ρ=[.sh (.int x),.sh (.int y)]) ?_ ?_
 ·refine Ws.If (Wt.V (We.e2 (We.B (Was.cons (We.v rfl (Was.nil (v_ ?_ rfl)))))))
  refine We.e2 (We.c (We.c (Wg2.pow (z:=1000000000000000000) ?_ rfl rfl (by decide) (by decide))))
  refine Wg2.ge (Wb.mk ⟨fun g=>?_,fun g=>Ws.nx ⟨_,rfl⟩⟩) rfl rfl
  refine Ws.A (We.e2 (We.e2 (We.B (Was.cons (We.v rfl (Was.nil (v_ ?_ rfl))))))) (by decide)
  refine We.e2 (We.c (We.c (Wg2.pow (z:=1000000000000000000) ?_ rfl rfl (by decide) (by decide))))
  refine Wg2.sub ?_ rfl rfl
  refine We.c (Wg2.add ?_ rfl rfl)
  exact WA.val ⟨_,rfl⟩ (by first | (dsimp only [List.set];first | done | rfl) | rfl)
 ·rintro ρ ⟨y,rfl⟩
  repeat array_get_dec
  exact ⟨_,rfl,rfl,_,_,_,rfl,by decide,by decide⟩
theorem tY (ns:List Int) (hl:ns.length≤63):∃ cs:List Int,nK [.lst (ns.map Dat.int),.int 6]=some (.new (.lst (cs.map Dat.int)))∧cs.length≤6:=by
 suffices hh:Wr (nK [.lst (ns.map Dat.int),.int 6]) fun v=>∃ cs:List Int,v=.new (.lst (cs.map Dat.int))∧cs.length≤6 by
  obtain ⟨v,h1,d,rfl,h2⟩:=hh
  exact ⟨d,h1,h2⟩
 unfold nK
 (refine Dm.Wr.fn ?_ rfl rfl;dsimp only [List.map,List.replicate,List.cons_append,List.nil_append])
 refine Ws.seq (Ws.A (We.e2 (We.L (Was.cons (We.c (Was.nil (WT.mk ?_ rfl rfl (by decide))))))) (by decide))
 refine We.B (Was.cons (We.v rfl (Was.cons (We.B (Was.cons (We.c (Was.cons (We.B (Was.cons (We.v rfl (Was.nil (WB.ff (enc:=Dat.int) (xs:=ns) ?_ rfl)))))))))))) 
 refine Was.nil (WB.max2 ?_ rfl)
 refine Was.nil (WB.min2 ?_ rfl)
 have hb:∀ z:Int,z=(if ((ns.length:Nat):Int)>1 then ((ns.length:Nat):Int) else 1)→1≤(if z<6 then z else 6)∧(if z<6 then z else 6)≤6:=fun z hz=>by
  rw [hz]
  constructor
  ·split<;>split<;>omega
  ·split<;>omega
 have hb:=hb _ rfl
 generalize (if (if ((ns.length:Nat):Int)>1 then ((ns.length:Nat):Int) else 1)<6 then (if ((ns.length:Nat):Int)>1 then ((ns.length:Nat):Int) else 1) else 6)=top at hb ⊢
 obtain ⟨K,eK⟩:∃ K:Nat,top=(K:Nat):=⟨_,(Int.toNat_of_nonneg (by omega)).symm⟩
 rw [eK]
 refine Wg2.D8 (x:=0) ?_ rfl rfl (by unfold SZ;omega)
 refine WA.new ?_ (by first | (dsimp only [List.set];first | done | rfl) | rfl)
 refine Ws.seq (Ws.For (Wi.En (We.v rfl (Wk.val ⟨_,rfl,?_⟩))))
 rw [i9 Dat.int 0]
 refine Ws.inv (fun i:Nat=>Dat.tup [.int ((0+i:Nat):Int),.int (ns.getD i 0)]) _ _ (List.range ns.length) _ _ _ _ _ (fun p q ρ=>∃ (cs:List Int) (c3 c4:Cell),ρ=[.sh (.lst (ns.map Dat.int)),.sh (.int 6),.ow (.lst (cs.map Dat.int)),c3,c4]∧cs.length=K) ⟨_,_,_,rfl,by simp⟩ ?_ ?_
 ·rintro p i q ρ e ⟨cs,c3,c4,rfl,lc⟩
  refine Dm.cj rfl (by first | (dsimp only [List.set];first | done | rfl) | rfl) ?_
  unfold vP
  have hm:=gA ((0+i:Nat):Int) ((cs.length:Nat):Int) (by omega)
  have md:∀ {Q:Val→Env→Prop} {ρ:Env},ρ=[.sh (.lst (ns.map Dat.int)),.sh (.int 6),.ow (.lst (cs.map Dat.int)),.sh (.int ((0+i:Nat):Int)),.sh (.int (ns.getD i 0))]→Q (.val (.int (((0+i:Nat):Int) % ((cs.length:Nat):Int)))) ρ→We (e2 e7 (eV 3) (eB bQ [(eV 2)])) ρ Q:=fun {Q ρ} e q=>by
   subst e
   refine We.e2 (We.v rfl (We.B (Was.cons (We.w rfl (Was.nil (WB.ff (enc:=Dat.int) (xs:=cs) ?_ rfl))))))
   exact Wg2.mod q rfl rfl (by omega)
  refine Ws.Set (We.e2 (We.e2 (We.e2 (We.w rfl (md rfl ?_)))))
  refine zN hm.1 hm.2 ?_ rfl rfl
  refine We.c (Wg2.mul ?_ rfl rfl (.inr (by decide)))
  refine We.v rfl (Wg2.add ?_ rfl rfl)
  refine Wk.val ⟨⟨_,rfl⟩,md rfl (aL.mk ⟨cs.map Dat.int,(((0+i:Nat):Int) % ((cs.length:Nat):Int)).toNat,_,rfl,?_,rfl,?_⟩)⟩
  ·rw [List.length_map]
   unfold ixN
   rw [if_pos hm.1,if_pos (by omega)]
  ·refine ⟨cs.set (((0+i:Nat):Int) % ((cs.length:Nat):Int)).toNat (at' cs (((0+i:Nat):Int) % ((cs.length:Nat):Int))*7+ns.getD i 0),.sh (.int ((0+i:Nat):Int)),.sh (.int (ns.getD i 0)),?_,by rw [List.length_set];exact lc⟩
   rw [List.map_set]
   rfl
 ·rintro ρ ⟨cs,c3,c4,rfl,lc⟩
  refine Ws.R (We.w rfl (WR.slot ?_ rfl))
  exact ⟨cs,rfl,by omega⟩
noncomputable def b9 (a b:Int):Nat→List (Int→Int)→Int
 | _,[]=>0
 | i,f::r=>if f a=f b then b9 a b (i+1) r else (i:Int)+1
theorem d9 (a b:Int):∀ (gs:List (Int→Int)) (i:Nat),(b9 a b i gs=0∧∀ f∈gs,f a=f b)∨(∃ j f,gs[j]?=some f∧b9 a b i gs=((i+j:Nat):Int)+1∧f a≠f b∧∀ (j':Nat) f',j'<j→gs[j']?=some f'→f' a=f' b)
 | [],i=>.inl ⟨rfl,fun f h=>by cases h⟩
 | f::gs,i=>by
  by_cases h:f a=f b
  ·have e:b9 a b i (f::gs)=b9 a b (i+1) gs:=by simp [b9,h]
   rw [e]
   rcases d9 a b gs (i+1) with ⟨h1,h2⟩ | ⟨j,g,h1,h2,h3,h4⟩
   ·refine .inl ⟨h1,fun g hg=>?_⟩
    rcases List.mem_cons.mp hg with rfl | hg
    ·exact h
    ·exact h2 g hg
   ·refine .inr ⟨j+1,g,h1,by rw [h2];omega,h3,fun j' f' hj hf=>?_⟩
    cases j' with
    | zero=>cases hf;exact h
    | succ j'=>exact h4 j' f' (by omega) hf
  ·exact .inr ⟨0,f,rfl,by simp [b9,h],h,fun j' f' hj=>by omega⟩
noncomputable def zO (gs:List (Int→Int)) (t:Tie):List (Int→Int):=
 if 0<b9 t.a t.b 0 gs then gs.set (b9 t.a t.b 0 gs-1).toNat (mgf (gs.getD (b9 t.a t.b 0 gs-1).toNat fun x=>x) t.a t.b) else gs
theorem ja.num {k:Nat} {gs:List (Int→Int)} {r:List Tie} {ms:List Int} (h:ja k gs r ms) (t:Tie):i8 k r ms t (b9 t.a t.b 0 gs):=by
 obtain ⟨hl,ht⟩:=h
 rcases d9 t.a t.b gs 0 with ⟨h1,h2⟩ | ⟨j,f,h1,h2,h3,h4⟩
 ·refine .inl ⟨h1,fun j j1 j2=>?_⟩
  have hj:(j-1).toNat<gs.length:=by omega
  have:=(ht (j-1).toNat _ (List.getElem?_eq_getElem hj) t.a t.b).mp (h2 _ (List.getElem_mem hj))
  rw [show (((j-1).toNat:Nat):Int)+1=j by omega] at this
  exact this
 ·have hj:j<gs.length:=(List.getElem?_eq_some_iff.mp h1).1
  rw [h2]
  refine .inr ⟨by omega,by omega,fun c=>h3 ((ht j f h1 t.a t.b).mpr (by rw [show ((0+j:Nat):Int)+1=(j:Int)+1 by omega] at c;exact c)),fun i i1 i2=>?_⟩
  have hi:(i-1).toNat<gs.length:=by omega
  have:=(ht (i-1).toNat _ (List.getElem?_eq_getElem hi) t.a t.b).mp (h4 (i-1).toNat _ (by omega) (List.getElem?_eq_getElem hi))
  rw [show (((i-1).toNat:Nat):Int)+1=i by omega] at this
  exact this
theorem ja.step {k:Nat} {gs:List (Int→Int)} {r:List Tie} {ms:List Int} (h:ja k gs r ms) (t:Tie):ja k (zO gs t) (t::r) (b9 t.a t.b 0 gs::ms):=by
 obtain ⟨hl,ht⟩:=h
 unfold zO
 rcases d9 t.a t.b gs 0 with ⟨h1,h2⟩ | ⟨j,f,h1,h2,h3,h4⟩
 ·rw [h1]
  refine ⟨by simpa using hl,fun i g hg=>?_⟩
  rw [cW,if_neg (by omega)]
  exact ht i g (by simpa using hg)
 ·have hj:j<gs.length:=(List.getElem?_eq_some_iff.mp h1).1
  have e:b9 t.a t.b 0 gs=(j:Int)+1:=by rw [h2];omega
  have e2:((j:Int)+1-1).toNat=j:=by omega
  rw [e,if_pos (by omega),e2]
  have eg:(gs.getD j fun x=>x)=f:=by rw [List.getD_eq_getElem?_getD,h1];rfl
  rw [eg]
  refine ⟨by rw [List.length_set];exact hl,fun i g hg=>?_⟩
  rw [cW]
  by_cases q:j=i
  ·subst q
   rw [List.getElem?_set_self hj] at hg
   cases hg
   rw [if_pos rfl]
   exact tells_mgf (ht j f h1) t t.a t.b (.inl ⟨rfl,rfl⟩)
  ·rw [List.getElem?_set_ne q] at hg
   rw [if_neg (by omega)]
   exact ht i g hg
noncomputable def keep (r:List Tie) (ms:List Int):List Tie:=((r.zip ms).filter fun p=>decide (0<p.2)).map (·.1)
theorem gU (t:Tie) (m:Int) (r:List Tie) (ms:List Int):keep (t::r) (m::ms)=if 0<m then t::keep r ms else keep r ms:=by
 unfold keep
 rw [List.zip_cons_cons,List.filter_cons]
 by_cases h:0<m<;>simp [h]
noncomputable def zE (x:Tie×Int):Dat:=.tup [aO x.1,.int x.2]
theorem rN:∀ (r:List Tie) (ms:List Int),eT (r.map aO) (ms.map Dat.int)=(r.zip ms).map zE
 | [],_=>by simp [eT]
 | _::_,[]=>by simp [eT]
 | t::r,m::ms=>by rw [List.map_cons,List.map_cons,eT,rN r ms,List.zip_cons_cons,List.map_cons];rfl
theorem We.FO (r:List Tie) (ms:List Int) (p:Tie×Int→Bool) {it:FI} {k:Nat} {t:FT} {ρ ρ1:Env} {Q:Val→Env→Prop} (q:Q (.new (aM (((r.zip ms).filter p).map (·.1)))) ρ1) (hit:it ρ=some (eT (r.map aO) (ms.map Dat.int),ρ1)) (hk:ρ1.length=k) (hk0:k≠0) (hl:r.length≤SZ)
  (ht:∀ x:Tie×Int,Wt t (ρ1++[.sh (aO x.1),.sh (.int x.2)]) fun c ρ'=>c=p x∧ρ'=ρ1++[.sh (aO x.1),.sh (.int x.2)]):We (bO it 2 (bT [k,k+1]) t (eV k)) ρ Q:=by
 have b:∀ (x:Tie×Int) (c1 c2:Cell),bT [k,k+1] (zE x) (ρ1++[c1,c2])=some (ρ1++[.sh (aO x.1),.sh (.int x.2)]):=fun x c1 c2=>by
  show sets [k,k+1] [aO x.1,.int x.2] _=_
  rw [sets,if_neg hk0,sets,if_neg (by omega),sets]
  rw [List.set_append_right _ _ (by omega),List.set_append_right _ _ (by omega)]
  subst hk
  rw [Nat.sub_self,show ρ1.length+1-ρ1.length=1 by omega]
  rfl
 refine We.D4 zE (r.zip ms) p (fun x=>x.1) aO (fun x=>(ρ1++[Cell.sh (aO x.1),Cell.sh (.int x.2)]:Env)) (own:=2) (bd:=bT [k,k+1]) (Q:=Q) q (by rw [hit,rN]) (fun x=>b x .un .un) (fun x y=>b x (.sh (aO y.1)) (.sh (.int y.2))) (fun x=>List.take_left) (by rw [List.length_zip];omega) (fun x _=>ht x) (fun x _ _=>?_)
 refine We.v (d:=aO x.1) ?_ (Wk.val ⟨rfl,rfl⟩)
 rw [List.getElem?_append_right (by omega),hk,Nat.sub_self]
 rfl
noncomputable def nX (n k:Nat) (r:List Tie):Dat:=.tup [.int (n:Nat),.int (k:Nat),aM r]
theorem tZ {ρ ρ1:Env} {it:FI} {k:Nat} (r:List Tie) (ms:List Int) {Q:Val→Env→Prop} (q:Q (.new (aM (keep r ms))) ρ1) (hit:it ρ=some (eT (r.map aO) (ms.map Dat.int),ρ1)) (hk:ρ1.length=k) (hk0:k≠0) (hl:r.length≤SZ):We (bO it 2 (bT [k,k+1]) (tV (e2 gGt (eV (k+1)) (eC (.int 0)))) (eV k)) ρ Q:=by
 refine We.FO r ms (fun p=>decide (0<p.2)) q hit hk hk0 hl fun x=>?_
 refine Wt.V (We.e2 (We.v (d:=.int x.2) ?_ (We.c (Wg2.gt (Wb.mk ⟨rfl,rfl⟩) rfl rfl))))
 rw [List.getElem?_append_right (by omega),hk]
 simp
theorem t7 (n k:Nat) (hn:n≤10) (hk6:k≤6) (r:List Tie) (ms:List Int) (hr:Ends n r) (hl:r.length≤1000) (ha:aW k r ms):rH [.int (n:Nat),aM r,.int (k:Nat)]=some (.val (nX n k (keep r ms))):=by
 obtain ⟨ms',el,al⟩:=gB n k hn hk6 r hr hl
 rw [al.uniq ha] at el
 apply Wr.eq
 unfold rH
 (refine Dm.Wr.fn ?_ rfl rfl;dsimp only [List.map,List.replicate,List.cons_append,List.nil_append])
 refine Ws.seq (Ws.A (We.F (Was.cons (We.v rfl (Was.cons (We.v rfl (Was.cons (We.v rfl (Was.nil (WF.box el ?_ rfl rfl rfl rfl)))))))) ) (by decide))
 refine WA.new ?_ (by first | (dsimp only [List.set];first | done | rfl) | rfl)
 refine Ws.R (We.T (Was.cons (We.v rfl (Was.cons (We.v rfl (Was.cons (tZ (ρ1:=[.sh (.int (n:Nat)),.sh (aM r),.sh (.int (k:Nat)),.sh (.lst (ms.map Dat.int))]) r ms (k:=4) ?_ ?_ rfl (by decide) (Nat.le_trans hl (by decide)))))))))
 ·exact Was.nil (WT.mk rfl rfl rfl (Nat.le_of_ble_eq_true rfl))
 ·rfl
theorem nY:∀ (r:List Tie) (ms:List Int) (j:Int),1≤j→lay (keep r ms) (ms.filter fun m=>decide (0<m)) j=lay r ms j∨r.length≠ms.length
 | [],[],_,_=>.inl rfl
 | [],_::_,_,_=>.inr (by simp)
 | _::_,[],_,_=>.inr (by simp)
 | t::r,m::ms,j,hj=>by
  rcases nY r ms j hj with ih | ih
  ·left
   rw [gU,cW]
   by_cases h:0<m
   ·rw [if_pos h,List.filter_cons_of_pos (by simpa using h),cW,ih]
   ·rw [if_neg h,List.filter_cons_of_neg (by simpa using h),ih,if_neg (by omega)]
  ·right
   simpa using ih
theorem nZ {k:Int}:∀ {r:List Tie} {ms:List Int},aW k r ms→aW k (keep r ms) (ms.filter fun m=>decide (0<m))
 | [],[],_=>trivial
 | t::r,m::ms,h=>by
  have ih:=nZ h.1
  rw [gU]
  by_cases q:0<m
  ·rw [if_pos q,List.filter_cons_of_pos (by simpa using q)]
   refine ⟨ih,?_⟩
   have e:∀ j,1≤j→lay (keep r ms) (ms.filter fun m=>decide (0<m)) j=lay r ms j:=fun j hj=>by
    rcases nY r ms j hj with z | z
    ·exact z
    ·exact absurd h.1.len.symm z
   rcases h.2 with ⟨h0,_⟩ | ⟨h1,h2,h3,h4⟩
   ·omega
   ·exact .inr ⟨h1,h2,by rw [e m h1];exact h3,fun j j1 j2=>by rw [e j j1];exact h4 j j1 j2⟩
  ·rw [if_neg q,List.filter_cons_of_neg (by simpa using q)]
   exact ih
 | [],_::_,h=>h.elim
 | _::_,[],h=>h.elim
theorem jc:∀ (r:List Tie) (ms:List Int),(keep r ms).Sublist r
 | [],ms=>by unfold keep;simp
 | _::_,[]=>by unfold keep;simp
 | t::r,m::ms=>by
  rw [gU]
  split
  ·exact (jc r ms).cons_cons t
  ·exact (jc r ms).cons t
theorem yN {t u:Tie} (h1:t.m=u.m) (h2:t.a=u.a) (h3:t.b=u.b):t=u:=by
 cases t;cases u;simp only at h1 h2 h3;rw [h1,h2,h3]
instance:DecidableEq Tie:=fun t u=>if h:t.m=u.m∧t.a=u.a∧t.b=u.b then .isTrue (yN h.1 h.2.1 h.2.2) else .isFalse fun e=>h (by rw [e];exact ⟨rfl,rfl,rfl⟩)
theorem jd (n i:Int) (h0:0≤i) (h1:i<n):lY [.int n,.int i]=some (.val (.bl true)):=by
 apply Wr.eq
 unfold lY
 (refine Dm.Wr.fn ?_ rfl rfl;dsimp only [List.map,List.replicate,List.cons_append,List.nil_append])
 refine Ws.R (We.F (Was.cons (We.v rfl (Was.cons (We.c (Was.cons (We.e2 (We.v rfl (We.c (Wg2.sub ?_ rfl rfl))))))))))
 exact Was.nil (WF.val (cD i 0 (n-1) h0 (by omega)) rfl rfl rfl)
theorem kQ (m:Int) (h0:0≤m) (h1:m≤Z30):p9 [.int m]=some (.val (.bl true)):=by
 apply Wr.eq
 unfold p9
 (refine Dm.Wr.fn ?_ rfl rfl;dsimp only [List.map,List.replicate,List.cons_append,List.nil_append])
 refine Ws.R (We.F (Was.cons (We.v rfl (Was.cons (We.c (Was.cons (We.e2 (We.c (We.c (Wg2.pow (z:=Z30) ?_ rfl rfl (by decide) (by decide)))))))))))
 exact Was.nil (WF.val (cD m 0 Z30 h0 h1) rfl rfl rfl)
theorem t8 (n:Int) (t:Tie) (m0:0≤t.m) (m1:t.m≤Z30) (a0:0≤t.a) (a1:t.a<n) (b0:0≤t.b) (b1:t.b<n):lZ [.int n,aO t]=some (.val (.bl true)):=by
 apply Wr.eq
 unfold lZ aO
 (refine Dm.Wr.fn ?_ rfl rfl;dsimp only [List.map,List.replicate,List.cons_append,List.nil_append])
 ((with_reducible refine Dm.Ws.seq ?_);(with_reducible refine Dm.Ws.If ?_);(with_reducible refine Dm.Wt.Or ?_);(with_reducible refine Dm.Wt.Not ?_);(with_reducible refine Dm.Wt.V ?_);(with_reducible refine Dm.We.e1 ?_);((with_reducible apply Dm.We.v);(focus rfl));(refine Dm.Wg1.mk ?_ rfl rfl);(refine Dm.Wb.mk ?_))
 refine Wif.no rfl ?_
 ((with_reducible refine Dm.Wt.V ?_);(with_reducible refine Dm.We.e2 ?_);(with_reducible refine Dm.We.B ?_);(with_reducible refine Dm.Was.cons ?_);((with_reducible apply Dm.We.v);(focus rfl));(with_reducible refine Dm.Was.nil ?_);(refine Dm.WB.iZ ?_ rfl);(with_reducible refine Dm.We.c ?_);(refine Dm.Wg2.ne ?_ rfl rfl);(refine Dm.Wb.mk ?_))
 refine Wif.no rfl ?_
 ((with_reducible refine Dm.Ws.nx ?_);(with_reducible refine Dm.Ws.R ?_);(with_reducible refine Dm.We.And ?_);(with_reducible refine Dm.We.F ?_);(with_reducible refine Dm.Was.cons ?_);(with_reducible refine Dm.We.e2 ?_);((with_reducible apply Dm.We.v);(focus rfl));(with_reducible refine Dm.We.c ?_);(refine Dm.Wg2.ix ?_ rfl rfl rfl);(with_reducible refine Dm.Was.nil ?_))
 refine WF.val (kQ t.m m0 m1) ?_ rfl rfl
 ((refine Dm.Wb.mk ?_);(with_reducible refine Dm.Wif.t ?_);(with_reducible refine Dm.We.And ?_);(with_reducible refine Dm.We.F ?_);(with_reducible refine Dm.Was.cons ?_);((with_reducible apply Dm.We.v);(focus rfl));(with_reducible refine Dm.Was.cons ?_);(with_reducible refine Dm.We.e2 ?_);((with_reducible apply Dm.We.v);(focus rfl));(with_reducible refine Dm.We.c ?_);(refine Dm.Wg2.ix ?_ rfl rfl rfl);(with_reducible refine Dm.Was.nil ?_))
 refine WF.val (jd n t.a a0 a1) ?_ rfl rfl
 ((refine Dm.Wb.mk ?_);(with_reducible refine Dm.Wif.t ?_);(with_reducible refine Dm.We.F ?_);(with_reducible refine Dm.Was.cons ?_);((with_reducible apply Dm.We.v);(focus rfl));(with_reducible refine Dm.Was.cons ?_);(with_reducible refine Dm.We.e2 ?_);((with_reducible apply Dm.We.v);(focus rfl));(with_reducible refine Dm.We.c ?_);(refine Dm.Wg2.ix ?_ rfl rfl rfl);(with_reducible refine Dm.Was.nil ?_))
 refine WF.val (jd n t.b b0 b1) ?_ rfl rfl
 ((refine Dm.WR.val ?_))
 rfl
theorem t9 (n:Int) (t:Tie) (m0:0≤t.m) (m1:t.m≤Z30) (a0:0≤t.a) (ab:t.a≤t.b) (b1:t.b<n):l6 [.int n,aO t]=some (.val (.bl true)):=by
 apply Wr.eq
 unfold l6
 (refine Dm.Wr.fn ?_ rfl rfl;dsimp only [List.map,List.replicate,List.cons_append,List.nil_append])
 ((with_reducible refine Dm.Ws.R ?_);(with_reducible refine Dm.We.And ?_);(with_reducible refine Dm.We.F ?_);(with_reducible refine Dm.Was.cons ?_);((with_reducible apply Dm.We.v);(focus rfl));(with_reducible refine Dm.Was.cons ?_);((with_reducible apply Dm.We.v);(focus rfl));(with_reducible refine Dm.Was.nil ?_))
 refine WF.val (t8 n t m0 m1 a0 (by omega) (by omega) b1) ?_ rfl rfl
 ((refine Dm.Wb.mk ?_);(with_reducible refine Dm.Wif.t ?_);(with_reducible refine Dm.We.e2 ?_);(with_reducible refine Dm.We.e2 ?_);((with_reducible apply Dm.We.v);(focus rfl));(with_reducible refine Dm.We.c ?_);(refine Dm.Wg2.ix ?_ rfl rfl rfl);(with_reducible refine Dm.We.e2 ?_);((with_reducible apply Dm.We.v);(focus rfl));(with_reducible refine Dm.We.c ?_);(refine Dm.Wg2.ix ?_ rfl rfl rfl);(refine Dm.Wg2.le ?_ rfl rfl);(refine Dm.WR.val ?_))
 exact congrArg (fun b=>RV.val (Dat.bl b)) (decide_eq_true ab)
noncomputable def l3 (t:Tie):List Int:=[t.m,t.a,t.b]
theorem rO (r:List Tie):aM r=.lst ((r.map l3).map tN):=by
 unfold aM
 rw [List.map_map]
 rfl
theorem kR:∀ (nss:List (List Int)),(∀ ns∈nss,ns≠[])→iR (nss.map tN)=some nss
 | [],_=>rfl
 | ns::nss,h=>by
  rw [List.map_cons]
  unfold tN
  rw [iR,p8]
  dsimp only
  have:ns.isEmpty=false:=by
   cases ns with
   | nil=>exact absurd rfl (h [] List.mem_cons_self)
   | cons _ _=>rfl
  rw [this]
  simp only [Bool.false_eq_true,if_false]
  have ih:=kR nss fun x hx=>h x (List.mem_cons_of_mem _ hx)
  unfold tN at ih
  rw [ih]
  rfl
noncomputable abbrev BK (D:List Tie):Prop:=D.Pairwise fun t u=>t.m<u.m
theorem l9 (n:Nat):ups 1 n=(List.range n).map fun i:Nat=>Dat.int (1+(i:Int)):=rfl
theorem dB (n:Int) (h1:1≤n) (h2:n≤10):lX [.int n]=some (.val (.bl true)):=by
 apply Wr.eq
 unfold lX
 (refine Dm.Wr.fn ?_ rfl rfl;dsimp only [List.map,List.replicate,List.cons_append,List.nil_append])
 ((with_reducible refine Dm.Ws.R ?_);(with_reducible refine Dm.We.F ?_);(with_reducible refine Dm.Was.cons ?_);((with_reducible apply Dm.We.v);(focus rfl));(with_reducible refine Dm.Was.cons ?_);(with_reducible refine Dm.We.c ?_);(with_reducible refine Dm.Was.cons ?_);(with_reducible refine Dm.We.c ?_);(with_reducible refine Dm.Was.nil ?_))
 refine WF.val (cD n 1 10 h1 h2) ?_ rfl rfl
 ((refine Dm.WR.val ?_))
 rfl
theorem bV (n:Int) (h1:1≤n) (h2:n≤6):gS [.int n]=some (.val (.bl true)):=by
 apply Wr.eq
 unfold gS
 (refine Dm.Wr.fn ?_ rfl rfl;dsimp only [List.map,List.replicate,List.cons_append,List.nil_append])
 ((with_reducible refine Dm.Ws.R ?_);(with_reducible refine Dm.We.F ?_);(with_reducible refine Dm.Was.cons ?_);((with_reducible apply Dm.We.v);(focus rfl));(with_reducible refine Dm.Was.cons ?_);(with_reducible refine Dm.We.c ?_);(with_reducible refine Dm.Was.cons ?_);(with_reducible refine Dm.We.c ?_);(with_reducible refine Dm.Was.nil ?_))
 refine WF.val (cD n 1 6 h1 h2) ?_ rfl rfl
 ((refine Dm.WR.val ?_))
 rfl
theorem t_ (D:List Tie) (h:BK D) (hl:D.length≤75):tS [.lst ((D.map (·.m)).map Dat.int)]=some (.val (.bl true)):=by
 have sz:1000≤SZ:=by decide
 apply Wr.eq
 unfold tS
 (refine Dm.Wr.fn ?_ rfl rfl;dsimp only [List.map,List.replicate,List.cons_append,List.nil_append])
 refine Ws.R (We.B (Was.cons ?_))
 have hit:iR2 (eC (.int 1)) (eB bQ [eV 0]) [.sh (.lst ((D.map (·.m)).map Dat.int))]=some ((List.range ((D.length:Int)-1).toNat).map (fun i:Nat=>Dat.int (1+(i:Int))),[.sh (.lst ((D.map (·.m)).map Dat.int))]):=by
  refine Wi.get ?_
  ((with_reducible refine Dm.Wi.R2 ?_);(with_reducible refine Dm.We.c ?_);(refine Dm.aL.mk ?_);(with_reducible refine Dm.We.B ?_);(with_reducible refine Dm.Was.cons ?_);((with_reducible apply Dm.We.v);(focus rfl));(with_reducible refine Dm.Was.nil ?_);(refine Dm.WB.ff (enc:=Dm.Dat.int) ?_ rfl);(refine Dm.aL.mk ?_))
  refine ⟨⟨?_,rfl⟩,?_⟩
  ·rw [l9,List.length_map]
  ·rw [List.length_map];unfold BIG;omega
 refine We.Map (fun i:Nat=>Dat.int (1+(i:Int))) (List.range ((D.length:Int)-1).toNat) (fun _=>true) Dat.bl ?_ hit rfl (by decide) (by simp;omega) (fun i hi=>?_)
 ·refine Was.nil (WB.all (fun b=>b) (xs:=(List.range ((D.length:Int)-1).toNat).map fun _=>true) ?_ rfl)
  exact WR.val (congrArg (fun b=>RV.val (Dat.bl b)) (by simp))
 ·have hi':=List.mem_range.mp hi
  ((with_reducible refine Dm.We.e2 ?_);(with_reducible refine Dm.We.e2 ?_);((with_reducible apply Dm.We.v);(focus rfl));(with_reducible refine Dm.We.e2 ?_);((with_reducible apply Dm.We.v);(focus rfl));(with_reducible refine Dm.We.c ?_);(refine Dm.Wg2.sub ?_ rfl rfl))
  refine Wg2.ixL (enc:=Dat.int) (xs:=D.map (·.m)) (i:=1+(i:Int)-1) (by omega) (by rw [List.length_map];omega) ?_ rfl rfl
  ((with_reducible refine Dm.We.e2 ?_);((with_reducible apply Dm.We.v);(focus rfl));((with_reducible apply Dm.We.v);(focus rfl)))
  refine Wg2.ixL (enc:=Dat.int) (xs:=D.map (·.m)) (i:=1+(i:Int)) (by omega) (by rw [List.length_map];omega) ?_ rfl rfl
  ((refine Dm.Wg2.lt ?_ rfl rfl);(refine Dm.Wk.val ?_))
  have lt:=List.pairwise_iff_getElem.mp h (1+(i:Int)-1).toNat (1+(i:Int)).toNat (by omega) (by omega) (by omega)
  refine ⟨congrArg Dat.bl (decide_eq_true ?_),rfl⟩
  rw [List.getElem_map,List.getElem_map]
  exact lt
structure Rcd (n:Nat) (r:List Tie):Prop where
 ok:∀ t∈r,0≤t.m∧t.m≤Z30∧0≤t.a∧t.a≤t.b∧t.b<n
 up:BK r
 len:r.length≤60
theorem Rcd.sub {n:Nat} {r q:List Tie} (h:Rcd n r) (s:q.Sublist r):Rcd n q:=⟨fun t ht=>h.ok t (s.subset ht),h.up.sublist s,Nat.le_trans s.length_le h.len⟩
theorem Rcd.ends {n:Nat} {r:List Tie} (h:Rcd n r):Ends n r:=fun t ht=>by
 obtain ⟨h1,h2,h3,h4,h5⟩:=h.ok t ht
 exact ⟨h3,by omega,by omega,h5⟩
theorem l_ (n:Nat) (n1:1≤n) (n10:n≤10) (r:List Tie) (h:Rcd n r):cV [.int (n:Nat),aM r]=some (.val (.bl true)):=by
 have sz:1000≤SZ:=by decide
 have hl:=h.len
 apply Wr.eq
 unfold cV
 (refine Dm.Wr.fn ?_ rfl rfl;dsimp only [List.map,List.replicate,List.cons_append,List.nil_append])
 ((with_reducible refine Dm.Ws.seq ?_);(with_reducible refine Dm.Ws.If ?_);(with_reducible refine Dm.Wt.Or ?_);(with_reducible refine Dm.Wt.Not ?_);(with_reducible refine Dm.Wt.V ?_);(with_reducible refine Dm.We.F ?_);(with_reducible refine Dm.Was.cons ?_);((with_reducible apply Dm.We.v);(focus rfl));(with_reducible refine Dm.Was.nil ?_))
 refine WF.val (dB n (by omega) (by omega)) ?_ rfl rfl
 ((refine Dm.Wb.mk ?_))
 refine Wif.no rfl ?_
 ((with_reducible refine Dm.Wt.Or ?_);(with_reducible refine Dm.Wt.Not ?_);(with_reducible refine Dm.Wt.V ?_);(with_reducible refine Dm.We.e1 ?_);((with_reducible apply Dm.We.v);(focus rfl));(refine Dm.Wg1.mk ?_ rfl rfl);(refine Dm.Wb.mk ?_))
 refine Wif.no rfl ?_
 ((with_reducible refine Dm.Wt.V ?_);(with_reducible refine Dm.We.e2 ?_);(with_reducible refine Dm.We.B ?_);(with_reducible refine Dm.Was.cons ?_);((with_reducible apply Dm.We.v);(focus rfl));(with_reducible refine Dm.Was.nil ?_);(refine Dm.WB.len ?_ rfl);(with_reducible refine Dm.We.c ?_);(refine Dm.Wg2.gt ?_ rfl rfl);(refine Dm.Wb.mk ?_))
 refine Wif.no (decide_eq_false (by rw [List.length_map];omega)) ?_
 ((with_reducible refine Dm.Ws.nx ?_);(with_reducible refine Dm.Ws.seq ?_);(with_reducible refine Dm.Ws.If ?_);(with_reducible refine Dm.Wt.Not ?_);(with_reducible refine Dm.Wt.V ?_);(with_reducible refine Dm.We.B ?_);(with_reducible refine Dm.Was.cons ?_))
 refine We.lW aO r (fun _=>true) Dat.bl ?_ rfl rfl rfl (by decide) (by omega) (fun t ht=>?_)
 rotate_left
 ·obtain ⟨h1,h2,h3,h4,h5⟩:=h.ok t ht
  ((with_reducible refine Dm.We.F ?_);(with_reducible refine Dm.Was.cons ?_);((with_reducible apply Dm.We.v);(focus rfl));(with_reducible refine Dm.Was.cons ?_);((with_reducible apply Dm.We.v);(focus rfl));(with_reducible refine Dm.Was.nil ?_))
  refine WF.val (t9 n t h1 h2 h3 h4 h5) ?_ rfl rfl
  ((refine Dm.Wk.val ?_))
  exact ⟨rfl,rfl⟩
 ((with_reducible refine Dm.Was.nil ?_))
 refine WB.all (fun b=>b) (xs:=r.map fun _=>true) ?_ rfl
 ((refine Dm.Wb.mk ?_))
 refine Wif.no (by simp) ?_
 ((with_reducible refine Dm.Ws.nx ?_);(with_reducible refine Dm.Ws.R ?_);(with_reducible refine Dm.We.F ?_);(with_reducible refine Dm.Was.cons ?_))
 refine We.lW aO r (·.m) Dat.int ?_ rfl rfl rfl (by decide) (by omega) (fun t ht=>?_)
 rotate_left
 ·((with_reducible refine Dm.We.e2 ?_);((with_reducible apply Dm.We.v);(focus rfl));(with_reducible refine Dm.We.c ?_);(refine Dm.Wg2.ix ?_ rfl rfl rfl);(refine Dm.Wk.val ?_))
  exact ⟨rfl,rfl⟩
 ((with_reducible refine Dm.Was.nil ?_))
 refine WF.val (t_ r h.up (by omega)) ?_ rfl rfl
 ((refine Dm.WR.val ?_))
 rfl
structure Net (n k:Nat) (N:List Tie):Prop where
 rc:Rcd n N
 num:∃ ms,aW k N ms∧(0:Int)∉ms
theorem ua (n k:Nat) (n1:1≤n) (n10:n≤10) (k1:1≤k) (k6:k≤6) (N:List Tie) (h:Net n k N):bE [nX n k N]=some (.val (.bl true)):=by
 have hl:=h.rc.len
 obtain ⟨ms,el,al⟩:=jb n k n10 k1 k6 N h.rc.ends (by omega)
 obtain ⟨ms',al',h0⟩:=h.num
 rw [al'.uniq al] at h0
 apply Wr.eq
 unfold bE nX
 (refine Dm.Wr.fn ?_ rfl rfl;dsimp only [List.map,List.replicate,List.cons_append,List.nil_append])
 ((with_reducible refine Dm.Ws.seq ?_);(with_reducible refine Dm.Ws.If ?_);(with_reducible refine Dm.Wt.Or ?_);(with_reducible refine Dm.Wt.Not ?_);(with_reducible refine Dm.Wt.V ?_);(with_reducible refine Dm.We.e1 ?_);((with_reducible apply Dm.We.v);(focus rfl));(refine Dm.Wg1.mk ?_ rfl rfl);(refine Dm.Wb.mk ?_))
 refine Wif.no rfl ?_
 ((with_reducible refine Dm.Wt.V ?_);(with_reducible refine Dm.We.e2 ?_);(with_reducible refine Dm.We.B ?_);(with_reducible refine Dm.Was.cons ?_);((with_reducible apply Dm.We.v);(focus rfl));(with_reducible refine Dm.Was.nil ?_);(refine Dm.WB.iZ ?_ rfl);(with_reducible refine Dm.We.c ?_);(refine Dm.Wg2.ne ?_ rfl rfl);(refine Dm.Wb.mk ?_))
 refine Wif.no rfl ?_
 ((with_reducible refine Dm.Ws.nx ?_);(with_reducible refine Dm.Ws.seq ?_);(with_reducible refine Dm.Ws.If ?_);(with_reducible refine Dm.Wt.Or ?_);(with_reducible refine Dm.Wt.Not ?_);(with_reducible refine Dm.Wt.V ?_);(with_reducible refine Dm.We.F ?_);(with_reducible refine Dm.Was.cons ?_);(with_reducible refine Dm.We.e2 ?_);((with_reducible apply Dm.We.v);(focus rfl));(with_reducible refine Dm.We.c ?_);(refine Dm.Wg2.ix ?_ rfl rfl rfl);(with_reducible refine Dm.Was.nil ?_))
 refine WF.val (bV k (by omega) (by omega)) ?_ rfl rfl
 ((refine Dm.Wb.mk ?_))
 refine Wif.no rfl ?_
 ((with_reducible refine Dm.Wt.Not ?_);(with_reducible refine Dm.Wt.V ?_);(with_reducible refine Dm.We.F ?_);(with_reducible refine Dm.Was.cons ?_);(with_reducible refine Dm.We.e2 ?_);((with_reducible apply Dm.We.v);(focus rfl));(with_reducible refine Dm.We.c ?_);(refine Dm.Wg2.ix ?_ rfl rfl rfl);(with_reducible refine Dm.Was.cons ?_);(with_reducible refine Dm.We.e2 ?_);((with_reducible apply Dm.We.v);(focus rfl));(with_reducible refine Dm.We.c ?_);(refine Dm.Wg2.ix ?_ rfl rfl rfl);(with_reducible refine Dm.Was.nil ?_))
 refine WF.val (l_ n n1 n10 N h.rc) ?_ rfl rfl
 ((refine Dm.Wb.mk ?_))
 refine Wif.no rfl ?_
 ((with_reducible refine Dm.Ws.nx ?_);(with_reducible refine Dm.Ws.R ?_);(with_reducible refine Dm.We.e2 ?_);(with_reducible refine Dm.We.c ?_);(with_reducible refine Dm.We.F ?_);(with_reducible refine Dm.Was.cons ?_);(with_reducible refine Dm.We.e2 ?_);((with_reducible apply Dm.We.v);(focus rfl));(with_reducible refine Dm.We.c ?_);(refine Dm.Wg2.ix ?_ rfl rfl rfl);(with_reducible refine Dm.Was.cons ?_);(with_reducible refine Dm.We.e2 ?_);((with_reducible apply Dm.We.v);(focus rfl));(with_reducible refine Dm.We.c ?_);(refine Dm.Wg2.ix ?_ rfl rfl rfl);(with_reducible refine Dm.Was.cons ?_);(with_reducible refine Dm.We.e2 ?_);((with_reducible apply Dm.We.v);(focus rfl));(with_reducible refine Dm.We.c ?_);(refine Dm.Wg2.ix ?_ rfl rfl rfl);(with_reducible refine Dm.Was.nil ?_))
 refine WF.box el ?_ rfl rfl rfl (by first | (dsimp only [List.set];first | done | rfl) | rfl)
 skip
 refine Wg2.BG (xs:=ms) ?_ rfl rfl
 ((refine Dm.WR.val ?_))
 exact congrArg (fun b=>RV.val (Dat.bl b)) (by simp [h0])
theorem qd (k:Nat):∀ r:List Tie,∃ (gs:List (Int→Int)) (ms:List Int),ja k gs r ms∧aW k r ms
 | []=>⟨_,[],BJ k,trivial⟩
 | t::r=>by
  obtain ⟨gs,ms,h1,h2⟩:=qd k r
  exact ⟨_,_,h1.step t,h2,h1.num t⟩
noncomputable def nums (k:Nat) (r:List Tie):List Int:=Classical.choose (Classical.choose_spec (qd k r))
theorem cJ (k:Nat) (r:List Tie):aW k r (nums k r):=(Classical.choose_spec (Classical.choose_spec (qd k r))).2
noncomputable def NN (k:Nat) (r:List Tie):List Tie:=keep r (nums k r)
theorem D9 {k:Nat} {r:List Tie} {ms:List Int} (h:aW k r ms):keep r ms=NN k r:=by
 unfold NN
 rw [h.uniq (cJ k r)]
theorem BL (k:Nat) (r:List Tie):(NN k r).Sublist r:=jc _ _
theorem Rcd.of {n:Nat} {r:List Tie} (g:Good n 0 r) (hl:r.length≤60) (hm:∀ t∈r,t.m≤Z30):Rcd n r:=⟨fun t ht=>by
 obtain ⟨h1,h2,h3⟩:=g.mem t ht
 exact ⟨g.lo t ht,hm t ht,h1,h2,h3⟩,by
 have go:∀ (r:List Tie) (lo:Int),Good n lo r→BK r:=fun r=>by
  induction r with
  | nil=>exact fun _ _=>.nil
  | cons t r ih=>
   intro lo h
   obtain ⟨_,_,_,_,h5⟩:=h
   exact .cons (fun u hu=>by have:=h5.lo u hu;omega) (ih _ h5)
 exact go r 0 g,hl⟩
theorem cX (i lo hi:Int) (h:¬ (lo≤i∧i≤hi)):gy [.int i,.int lo,.int hi]=some (.val (.bl false)):=by
 apply Wr.eq
 unfold gy
 (refine Dm.Wr.fn ?_ rfl rfl;dsimp only [List.map,List.replicate,List.cons_append,List.nil_append])
 refine Ws.R (We.And (We.F (Was.cons (We.v rfl (Was.nil (WF.val (nW i) (Wb.mk (Wif.t ?_)) rfl rfl))))))
 have e1:gLe (.int lo) (.int i)=some (.val (.bl (decide (lo≤i)))):=rfl
 have e2:gLe (.int i) (.int hi)=some (.val (.bl (decide (i≤hi)))):=rfl
 have e:bR gLe gLe (eV 1) (eV 0) (eV 2) [.sh (.int i),.sh (.int lo),.sh (.int hi)]=some (.val (.bl false),[.sh (.int i),.sh (.int lo),.sh (.int hi)]):=by
  unfold bR
  simp only [eV,List.getElem?_cons_zero,List.getElem?_cons_succ,pk,e1,e2,RV.bB]
  by_cases q:lo≤i
  ·rw [decide_eq_true q,decide_eq_false fun z=>h ⟨q,z⟩]
  ·rw [decide_eq_false q]
 exact ⟨_,_,e,rfl⟩
theorem gC (i lo hi:Int):gy [.int i,.int lo,.int hi]=some (.val (.bl (decide (lo≤i∧i≤hi)))):=by
 by_cases q:lo≤i∧i≤hi
 ·rw [decide_eq_true q];exact cD i lo hi q.1 q.2
 ·rw [decide_eq_false q];exact cX i lo hi q
theorem rP (n i:Int):lY [.int n,.int i]=some (.val (.bl (decide (0≤i∧i<n)))):=by
 apply Wr.eq
 unfold lY
 (refine Dm.Wr.fn ?_ rfl rfl;dsimp only [List.map,List.replicate,List.cons_append,List.nil_append])
 refine Ws.R (We.F (Was.cons (We.v rfl (Was.cons (We.c (Was.cons (We.e2 (We.v rfl (We.c (Wg2.sub ?_ rfl rfl))))))))))
 refine Was.nil (WF.val (gC i 0 (n-1)) (WR.val (congrArg (fun b=>RV.val (Dat.bl b)) (decide_eq_decide.mpr (by omega)))) rfl rfl)
theorem we (m:Int):p9 [.int m]=some (.val (.bl (decide (0≤m∧m≤Z30)))):=by
 apply Wr.eq
 unfold p9
 (refine Dm.Wr.fn ?_ rfl rfl;dsimp only [List.map,List.replicate,List.cons_append,List.nil_append])
 refine Ws.R (We.F (Was.cons (We.v rfl (Was.cons (We.c (Was.cons (We.e2 (We.c (We.c (Wg2.pow (z:=Z30) ?_ rfl rfl (by decide) (by decide)))))))))))
 exact Was.nil (WF.val (gC m 0 Z30) rfl rfl rfl)
theorem wg (n:Int):lX [.int n]=some (.val (.bl (decide (1≤n∧n≤10)))):=by
 apply Wr.eq
 unfold lX
 (refine Dm.Wr.fn ?_ rfl rfl;dsimp only [List.map,List.replicate,List.cons_append,List.nil_append])
 exact Ws.R (We.F (Was.cons (We.v rfl (Was.cons (We.c (Was.cons (We.c (Was.nil (WF.val (gC n 1 10) rfl rfl rfl)))))))))
theorem wj (n:Int):gS [.int n]=some (.val (.bl (decide (1≤n∧n≤6)))):=by
 apply Wr.eq
 unfold gS
 (refine Dm.Wr.fn ?_ rfl rfl;dsimp only [List.map,List.replicate,List.cons_append,List.nil_append])
 exact Ws.R (We.F (Was.cons (We.v rfl (Was.cons (We.c (Was.cons (We.c (Was.nil (WF.val (gC n 1 6) rfl rfl rfl)))))))))
noncomputable abbrev TOk (n:Int) (t:Tie):Prop:=(0≤t.m∧t.m≤Z30)∧0≤t.a∧t.a≤t.b∧t.b<n
noncomputable abbrev TE (n:Int) (t:Tie):Prop:=(0≤t.m∧t.m≤Z30)∧(0≤t.a∧t.a<n)∧0≤t.b∧t.b<n
theorem wk (n:Int) (t:Tie):lZ [.int n,aO t]=some (.val (.bl (decide (TE n t)))):=by
 apply Wr.eq
 unfold lZ aO
 (refine Dm.Wr.fn ?_ rfl rfl;dsimp only [List.map,List.replicate,List.cons_append,List.nil_append])
 refine Ws.seq (Ws.If (Wt.Or (Wt.Not (Wt.V (We.e1 (We.v rfl (Wg1.mk (v:=.val (.bl true)) (Wb.mk (Wif.f ?_)) rfl rfl)))))))
 refine Wt.V (We.e2 (We.B (Was.cons (We.v rfl (Was.nil (WB.iZ ?_ rfl))))))
 refine We.c (Wg2.ne (Wb.mk (Wif.no rfl (Ws.nx ?_))) rfl rfl)
 refine Ws.R (We.And (We.F (Was.cons (We.e2 (We.v rfl (We.c (Wg2.ix (v:=.int t.m) ?_ rfl rfl rfl)))))))
 refine Was.nil (WF.val (we t.m) (Wb.mk ?_) rfl rfl)
 by_cases q1:0≤t.m∧t.m≤Z30
 ·rw [decide_eq_true q1]
  refine Wif.t ?_
  refine We.And (We.F (Was.cons (We.v rfl (Was.cons (We.e2 (We.v rfl (We.c (Wg2.ix (v:=.int t.a) ?_ rfl rfl rfl))))))))
  refine Was.nil (WF.val (rP n t.a) (Wb.mk ?_) rfl rfl)
  by_cases q2:0≤t.a∧t.a<n
  ·rw [decide_eq_true q2]
   refine Wif.t ?_
   refine We.F (Was.cons (We.v rfl (Was.cons (We.e2 (We.v rfl (We.c (Wg2.ix (v:=.int t.b) ?_ rfl rfl rfl)))))))
   refine Was.nil (WF.val (rP n t.b) (WR.val (congrArg (fun b=>RV.val (Dat.bl b)) (decide_eq_decide.mpr ?_))) rfl rfl)
   exact ⟨fun h=>⟨q1,q2,h⟩,fun h=>h.2.2⟩
  ·rw [decide_eq_false q2]
   exact Wif.f (WR.val (congrArg (fun b=>RV.val (Dat.bl b)) (decide_eq_false fun h=>q2 h.2.1).symm))
 ·rw [decide_eq_false q1]
  exact Wif.f (WR.val (congrArg (fun b=>RV.val (Dat.bl b)) (decide_eq_false fun h=>q1 h.1).symm))
theorem D_ (n:Int) (t:Tie):l6 [.int n,aO t]=some (.val (.bl (decide (TOk n t)))):=by
 apply Wr.eq
 unfold l6
 (refine Dm.Wr.fn ?_ rfl rfl;dsimp only [List.map,List.replicate,List.cons_append,List.nil_append])
 refine Ws.R (We.And (We.F (Was.cons (We.v rfl (Was.cons (We.v rfl (Was.nil (WF.val (wk n t) (Wb.mk ?_) rfl rfl))))))))
 by_cases q:TE n t
 ·rw [decide_eq_true q]
  refine Wif.t (We.e2 (We.e2 (We.v rfl (We.c (Wg2.ix (v:=.int t.a) ?_ rfl rfl rfl)))))
  refine We.e2 (We.v rfl (We.c (Wg2.ix (v:=.int t.b) ?_ rfl rfl rfl)))
  refine Wg2.le (WR.val (congrArg (fun b=>RV.val (Dat.bl b)) (decide_eq_decide.mpr ?_))) rfl rfl
  obtain ⟨h1,h2,h3⟩:=q
  exact ⟨fun h=>⟨h1,h2.1,h,h3.2⟩,fun h=>h.2.2.1⟩
 ·rw [decide_eq_false q]
  refine Wif.f (WR.val (congrArg (fun b=>RV.val (Dat.bl b)) (decide_eq_false fun h=>q ?_).symm))
  obtain ⟨h1,h2,h3,h4⟩:=h
  exact ⟨h1,⟨h2,by omega⟩,by omega,h4⟩
noncomputable def upB (r:List Tie):Bool:=(List.range ((r.length:Int)-1).toNat).all fun i=>decide ((r.getD i ⟨0,0,0⟩).m<(r.getD (i+1) ⟨0,0,0⟩).m)
theorem mh (r:List Tie) {i:Nat} (h:i<r.length):(r.getD i ⟨0,0,0⟩)=r[i]:=by
 rw [List.getD_eq_getElem?_getD,List.getElem?_eq_getElem h];rfl
theorem wm (r:List Tie) (hl:r.length≤75):tS [.lst ((r.map (·.m)).map Dat.int)]=some (.val (.bl (upB r))):=by
 have sz:1000≤SZ:=by decide
 apply Wr.eq
 unfold tS
 (refine Dm.Wr.fn ?_ rfl rfl;dsimp only [List.map,List.replicate,List.cons_append,List.nil_append])
 refine Ws.R (We.B (Was.cons ?_))
 have hit:iR2 (eC (.int 1)) (eB bQ [eV 0]) [.sh (.lst ((r.map (·.m)).map Dat.int))]=some ((List.range ((r.length:Int)-1).toNat).map (fun i:Nat=>Dat.int (1+(i:Int))),[.sh (.lst ((r.map (·.m)).map Dat.int))]):=by
  refine Wi.get (Wi.R2 (We.c (aL.mk (We.B (Was.cons (We.v rfl (Was.nil (WB.ff (enc:=Dat.int) (aL.mk ?_) rfl))))))))
  refine ⟨⟨?_,rfl⟩,?_⟩
  ·rw [l9,List.length_map]
  ·rw [List.length_map];unfold BIG;omega
 refine We.Map (fun i:Nat=>Dat.int (1+(i:Int))) (List.range ((r.length:Int)-1).toNat) (fun i=>decide ((r.getD i ⟨0,0,0⟩).m<(r.getD (i+1) ⟨0,0,0⟩).m)) Dat.bl ?_ hit rfl (by decide) (by simp;omega) (fun i hi=>?_)
 ·refine Was.nil (WB.all (fun b=>b) (xs:=(List.range ((r.length:Int)-1).toNat).map fun i=>decide ((r.getD i ⟨0,0,0⟩).m<(r.getD (i+1) ⟨0,0,0⟩).m)) ?_ (by rw [List.map_map];rfl))
  refine WR.val (congrArg (fun b=>RV.val (Dat.bl b)) ?_)
  unfold upB
  rw [List.all_map]
  rfl
 ·have hi':=List.mem_range.mp hi
  refine We.e2 (We.e2 (We.v rfl (We.e2 (We.v rfl (We.c (Wg2.sub ?_ rfl rfl))))))
  refine Wg2.ixL (enc:=Dat.int) (xs:=r.map (·.m)) (i:=1+(i:Int)-1) (by omega) (by rw [List.length_map];omega) ?_ rfl rfl
  refine We.e2 (We.v rfl (We.v rfl ?_))
  refine Wg2.ixL (enc:=Dat.int) (xs:=r.map (·.m)) (i:=1+(i:Int)) (by omega) (by rw [List.length_map];omega) ?_ rfl rfl
  refine Wg2.lt (Wk.val ⟨congrArg Dat.bl (decide_eq_decide.mpr ?_),rfl⟩) rfl rfl
  rw [List.getElem_map,List.getElem_map,mh r (by omega),mh r (by omega)]
  have e1:(1+(i:Int)-1).toNat=i:=by omega
  have e2:(1+(i:Int)).toNat=i+1:=by omega
  simp only [e1,e2]
theorem wo (n:Int) (r:List Tie) (hl:r.length≤60):cV [.int n,aM r]=some (.val (.bl (decide (1≤n∧n≤10)&&(r.all fun t=>decide (TOk n t))&&upB r))):=by
 have sz:1000≤SZ:=by decide
 apply Wr.eq
 unfold cV
 (refine Dm.Wr.fn ?_ rfl rfl;dsimp only [List.map,List.replicate,List.cons_append,List.nil_append])
 refine Ws.seq (Ws.If (Wt.Or (Wt.Not (Wt.V (We.F (Was.cons (We.v rfl (Was.nil (WF.val (wg n) (Wb.mk ?_) rfl rfl)))))))))
 by_cases q1:1≤n∧n≤10
 ·rw [decide_eq_true q1]
  refine Wif.f (Wt.Or (Wt.Not (Wt.V (We.e1 (We.v rfl (Wg1.mk (v:=.val (.bl true)) (Wb.mk (Wif.f ?_)) rfl rfl))))))
  refine Wt.V (We.e2 (We.B (Was.cons (We.v rfl (Was.nil (WB.ff (enc:=aO) (xs:=r) ?_ rfl))))))
  refine We.c (Wg2.gt (Wb.mk (Wif.no (decide_eq_false (by omega)) (Ws.nx ?_))) rfl rfl)
  refine Ws.seq (Ws.If (Wt.Not (Wt.V (We.B (Was.cons ?_)))))
  refine We.lW aO r (fun t=>decide (TOk n t)) Dat.bl ?_ rfl rfl rfl (by decide) (by omega) (fun t ht=>?_)
  rotate_left
  ·exact We.F (Was.cons (We.v rfl (Was.cons (We.v rfl (Was.nil (WF.val (D_ n t) (Wk.val ⟨rfl,rfl⟩) rfl rfl))))))
  refine Was.nil (WB.all (fun b=>b) (xs:=r.map fun t=>decide (TOk n t)) ?_ (by rw [List.map_map];rfl))
  have e:((r.map fun t=>decide (TOk n t)).all fun b=>b)=r.all fun t=>decide (TOk n t):=by rw [List.all_map];rfl
  rw [e]
  refine Wb.mk ?_
  cases q2:r.all fun t=>decide (TOk n t) with
  | false=>exact Wif.t (Ws.R (We.c rfl))
  | true=>
   refine Wif.f (Ws.nx (Ws.R (We.F (Was.cons ?_))))
   refine We.lW aO r (·.m) Dat.int ?_ rfl rfl rfl (by decide) (by omega) (fun t ht=>?_)
   rotate_left
   ·exact We.e2 (We.v rfl (We.c (Wg2.ix (v:=.int t.m) (Wk.val ⟨rfl,rfl⟩) rfl rfl rfl)))
   exact Was.nil (WF.val (wm r (by omega)) rfl rfl rfl)
 ·rw [decide_eq_false q1]
  exact Wif.t (Wif.t (Ws.R (We.c rfl)))
noncomputable def judge (n k:Int) (r:List Tie):Bool:=decide (1≤k∧k≤6)&&(decide (1≤n∧n≤10)&&(r.all fun t=>decide (TOk n t))&&upB r)&&decide ((0:Int)∉nums k.toNat r)
noncomputable def gW (n k:Int) (r:List Tie):Dat:=.tup [.int n,.int k,aM r]
theorem rQ {n:Nat} {r:List Tie} (h:(r.all fun t=>decide (TOk n t))=true):Ends n r:=fun t ht=>by
 have:=of_decide_eq_true (List.all_eq_true.mp h t ht)
 obtain ⟨h1,h2,h3,h4⟩:=this
 exact ⟨h2,by omega,by omega,h4⟩
theorem n5 (n k:Int) (r:List Tie) (hl:r.length≤60):bE [gW n k r]=some (.val (.bl (judge n k r))):=by
 apply Wr.eq
 unfold bE gW
 (refine Dm.Wr.fn ?_ rfl rfl;dsimp only [List.map,List.replicate,List.cons_append,List.nil_append])
 refine Ws.seq (Ws.If (Wt.Or (Wt.Not (Wt.V (We.e1 (We.v rfl (Wg1.mk (v:=.val (.bl true)) (Wb.mk (Wif.f ?_)) rfl rfl)))))))
 refine Wt.V (We.e2 (We.B (Was.cons (We.v rfl (Was.nil (WB.iZ ?_ rfl))))))
 refine We.c (Wg2.ne (Wb.mk ?_) rfl rfl)
 refine Wif.no rfl (Ws.nx ?_)
 refine Ws.seq (Ws.If (Wt.Or (Wt.Not (Wt.V (We.F (Was.cons (We.e2 (We.v rfl (We.c (Wg2.ix (v:=.int k) ?_ rfl rfl rfl))))))))))
 refine Was.nil (WF.val (wj k) (Wb.mk ?_) rfl rfl)
 unfold judge
 by_cases q1:1≤k∧k≤6
 ·rw [decide_eq_true q1]
  refine Wif.f (Wt.Not (Wt.V (We.F (Was.cons (We.e2 (We.v rfl (We.c (Wg2.ix (v:=.int n) ?_ rfl rfl rfl))))))))
  refine Was.cons (We.e2 (We.v rfl (We.c (Wg2.ix (v:=aM r) ?_ rfl rfl rfl))))
  refine Was.nil (WF.val (wo n r hl) (Wb.mk ?_) rfl rfl)
  cases q2:(decide (1≤n∧n≤10)&&(r.all fun t=>decide (TOk n t))&&upB r) with
  | false=>exact Wif.t (Ws.R (We.c rfl))
  | true=>
   refine Wif.f ?_
   rw [Bool.and_eq_true,Bool.and_eq_true,decide_eq_true_eq] at q2
   obtain ⟨⟨q3,q4⟩,q5⟩:=q2
   obtain ⟨N,rfl⟩:∃ N:Nat,n=(N:Nat):=⟨n.toNat,by omega⟩
   obtain ⟨K,rfl⟩:∃ K:Nat,k=(K:Nat):=⟨k.toNat,by omega⟩
   obtain ⟨ms,el,al⟩:=jb N K (by omega) (by omega) (by omega) r (rQ q4) (by omega)
   rw [al.uniq (cJ K r)] at el
   refine Ws.nx (Ws.R (We.e2 (We.c (We.F (Was.cons (We.e2 (We.v rfl (We.c (Wg2.ix (v:=.int N) ?_ rfl rfl rfl)))))))))
   refine Was.cons (We.e2 (We.v rfl (We.c (Wg2.ix (v:=aM r) ?_ rfl rfl rfl))))
   refine Was.cons (We.e2 (We.v rfl (We.c (Wg2.ix (v:=.int K) ?_ rfl rfl rfl))))
   refine Was.nil (WF.box el ?_ rfl rfl rfl rfl)
   refine Wg2.BG (xs:=nums K r) ?_ rfl rfl
   refine WR.val (congrArg (fun b=>RV.val (Dat.bl b)) ?_)
   rw [Int.toNat_natCast]
   simp
 ·rw [decide_eq_false q1]
  exact Wif.t (Wif.t (Ws.R (We.c rfl)))
theorem dD (i:Int):nU [.int i]=some (.val (.bl true)):=rfl
theorem mj {lo i hi:Int} {a b c:FE} {ρ:Env} {Q:Val→Env→Prop} (ha:∀ Q:Val→Env→Prop,Q (.val (.int lo)) ρ→We a ρ Q) (hb:∀ Q:Val→Env→Prop,Q (.val (.int i)) ρ→We b ρ Q) (hc:∀ Q:Val→Env→Prop,Q (.val (.int hi)) ρ→We c ρ Q) (q:Q (.val (.bl (decide (lo≤i∧i≤hi)))) ρ):We (bR gLe gLe a b c) ρ Q:=by
 have ea:a ρ=some (.val (.int lo),ρ):=We.get (ha _ ⟨rfl,rfl⟩)
 have eb:b ρ=some (.val (.int i),ρ):=We.get (hb _ ⟨rfl,rfl⟩)
 have ec:c ρ=some (.val (.int hi),ρ):=We.get (hc _ ⟨rfl,rfl⟩)
 have e1:gLe (.int lo) (.int i)=some (.val (.bl (decide (lo≤i)))):=rfl
 have e2:gLe (.int i) (.int hi)=some (.val (.bl (decide (i≤hi)))):=rfl
 refine ⟨_,_,?_,q⟩
 unfold bR
 simp only [ea,eb,ec,pk,e1,e2,RV.bB]
 by_cases h1:lo≤i
 ·rw [decide_eq_true h1]
  dsimp only
  by_cases h2:i≤hi
  ·have z:decide (lo≤i∧i≤hi)=true:=decide_eq_true ⟨h1,h2⟩
   rw [decide_eq_true h2,z]
  ·have z:decide (lo≤i∧i≤hi)=false:=decide_eq_false fun h=>h2 h.2
   rw [decide_eq_false h2,z]
 ·have z:decide (lo≤i∧i≤hi)=false:=decide_eq_false fun h=>h1 h.1
  rw [decide_eq_false h1,z]
theorem uc (n:Int) (t:Tie):rJ [.int n,aO t]=some (.val (.bl (decide (TOk n t)))):=by
 apply Wr.eq
 unfold rJ aO
 (refine Dm.Wr.fn ?_ rfl rfl;dsimp only [List.map,List.replicate,List.cons_append,List.nil_append])
 refine Ws.seq (Ws.If (Wt.Or (Wt.Not (Wt.V (We.e1 (We.v rfl (Wg1.mk (v:=.val (.bl true)) (Wb.mk (Wif.f ?_)) rfl rfl)))))))
 refine Wt.Or (Wt.V (We.e2 (We.B (Was.cons (We.v rfl (Was.nil (WB.iZ ?_ rfl)))))))
 refine We.c (Wg2.ne (Wb.mk (Wif.no rfl ?_)) rfl rfl)
 refine Wt.Not (Wt.V (We.B (Was.cons ?_)))
 refine We.lW Dat.int [t.m,t.a,t.b] (fun _=>true) Dat.bl ?_ rfl rfl rfl (by decide) (by exact Nat.le_of_ble_eq_true rfl) (fun x hx=>?_)
 rotate_left
 ·exact We.F (Was.cons (We.v rfl (Was.nil (WF.val (dD x) (Wk.val ⟨rfl,rfl⟩) rfl rfl))))
 refine Was.nil (WB.all (fun b=>b) (xs:=[true,true,true]) ?_ rfl)
 refine Wb.mk (Wif.no rfl (Ws.nx ?_))
 refine Ws.R (We.And (mj (lo:=0) (i:=t.m) (hi:=Z30) (fun Q q=>We.c q) (fun Q q=>We.e2 (We.v rfl (We.c (Wg2.ix q rfl rfl rfl)))) (fun Q q=>We.e2 (We.c (We.c (Wg2.pow (z:=Z30) q rfl rfl (by decide) (by decide))))) (Wb.mk ?_)))
 by_cases q1:0≤t.m∧t.m≤Z30
 ·rw [decide_eq_true q1]
  refine Wif.t (We.And (We.e2 (We.c (We.e2 (We.v rfl (We.c (Wg2.ix (v:=.int t.a) ?_ rfl rfl rfl)))))))
  refine Wg2.le (Wb.mk ?_) rfl rfl
  by_cases q2:0≤t.a
  ·rw [decide_eq_true q2]
   refine Wif.t (We.And (We.e2 (We.e2 (We.v rfl (We.c (Wg2.ix (v:=.int t.a) ?_ rfl rfl rfl))))))
   refine We.e2 (We.v rfl (We.c (Wg2.ix (v:=.int t.b) ?_ rfl rfl rfl)))
   refine Wg2.le (Wb.mk ?_) rfl rfl
   by_cases q3:t.a≤t.b
   ·rw [decide_eq_true q3]
    refine Wif.t (We.e2 (We.e2 (We.v rfl (We.c (Wg2.ix (v:=.int t.b) ?_ rfl rfl rfl)))))
    refine We.v rfl (Wg2.lt (WR.val (congrArg (fun b=>RV.val (Dat.bl b)) (decide_eq_decide.mpr ?_))) rfl rfl)
    exact ⟨fun h=>⟨q1,q2,q3,h⟩,fun h=>h.2.2.2⟩
   ·rw [decide_eq_false q3]
    exact Wif.f (WR.val (congrArg (fun b=>RV.val (Dat.bl b)) (decide_eq_false (p:=TOk n t) fun h=>q3 h.2.2.1).symm))
  ·rw [decide_eq_false q2]
   exact Wif.f (WR.val (congrArg (fun b=>RV.val (Dat.bl b)) (decide_eq_false (p:=TOk n t) fun h=>q2 h.2.1).symm))
 ·rw [decide_eq_false q1]
  exact Wif.f (WR.val (congrArg (fun b=>RV.val (Dat.bl b)) (decide_eq_false (p:=TOk n t) fun h=>q1 h.1).symm))
theorem ud (n k:Int) (r:List Tie) (hl:r.length≤60):rK [gW n k r]=some (.val (.bl (judge n k r))):=by
 have sz:1000≤SZ:=by decide
 apply Wr.eq
 unfold rK gW
 (refine Dm.Wr.fn ?_ rfl rfl;dsimp only [List.map,List.replicate,List.cons_append,List.nil_append])
 refine Ws.seq (Ws.If (Wt.Or (Wt.Not (Wt.V (We.e1 (We.v rfl (Wg1.mk (v:=.val (.bl true)) (Wb.mk (Wif.f ?_)) rfl rfl)))))))
 refine Wt.Or (Wt.V (We.e2 (We.B (Was.cons (We.v rfl (Was.nil (WB.iZ ?_ rfl)))))))
 refine We.c (Wg2.ne (Wb.mk (Wif.no rfl ?_)) rfl rfl)
 refine Wt.Or (Wt.Not (Wt.V (We.F (Was.cons (We.e2 (We.v rfl (We.c (Wg2.ix (v:=.int n) ?_ rfl rfl rfl))))))))
 refine Was.nil (WF.val (dD n) (Wb.mk (Wif.f ?_)) rfl rfl)
 refine Wt.Not (Wt.V (We.F (Was.cons (We.e2 (We.v rfl (We.c (Wg2.ix (v:=.int k) ?_ rfl rfl rfl)))))))
 refine Was.nil (WF.val (dD k) (Wb.mk (Wif.f (Ws.nx ?_))) rfl rfl)
 refine Ws.seq (Ws.U (We.v rfl (Wk.val ⟨_,_,rfl,rfl,?_⟩)))
 refine Ws.seq (Ws.If (Wt.Or (Wt.Not (Wt.V (mj (lo:=1) (i:=n) (hi:=10) (fun Q q=>We.c q) (fun Q q=>We.v rfl q) (fun Q q=>We.c q) (Wb.mk ?_))))))
 unfold judge
 by_cases q1:1≤n∧n≤10
 ·rw [decide_eq_true q1]
  refine Wif.f (Wt.Or (Wt.Not (Wt.V (mj (lo:=1) (i:=k) (hi:=6) (fun Q q=>We.c q) (fun Q q=>We.v rfl q) (fun Q q=>We.c q) (Wb.mk ?_)))))
  by_cases q2:1≤k∧k≤6
  ·rw [decide_eq_true q2]
   refine Wif.f (Wt.Or (Wt.Not (Wt.V (We.e1 (We.v rfl (Wg1.mk (v:=.val (.bl true)) (Wb.mk (Wif.f ?_)) rfl rfl))))))
   refine Wt.V (We.e2 (We.B (Was.cons (We.v rfl (Was.nil (WB.ff (enc:=aO) (xs:=r) ?_ rfl))))))
   refine We.c (Wg2.gt (Wb.mk (Wif.no (decide_eq_false (by omega)) (Ws.nx ?_))) rfl rfl)
   refine Ws.seq (Ws.If (Wt.Not (Wt.V (We.B (Was.cons ?_)))))
   refine We.lW aO r (fun t=>decide (TOk n t)) Dat.bl ?_ rfl rfl rfl (by decide) (by omega) (fun t ht=>?_)
   rotate_left
   ·exact We.F (Was.cons (We.v rfl (Was.cons (We.v rfl (Was.nil (WF.val (uc n t) (Wk.val ⟨rfl,rfl⟩) rfl rfl))))))
   refine Was.nil (WB.all (fun b=>b) (xs:=r.map fun t=>decide (TOk n t)) ?_ rfl)
   have e:((r.map fun t=>decide (TOk n t)).all fun b=>b)=r.all fun t=>decide (TOk n t):=by rw [List.all_map];rfl
   rw [e]
   refine Wb.mk ?_
   cases q3:r.all fun t=>decide (TOk n t) with
   | false=>exact Wif.t (Ws.R (We.c rfl))
   | true=>
    refine Wif.f (Ws.nx (Ws.seq (Ws.If (Wt.Not (Wt.V (We.B (Was.cons ?_)))))))
    have hit:iR2 (eC (.int 1)) (eB bQ [eV 3]) [.sh (.tup [.int n,.int k,aM r]),.sh (.int n),.sh (.int k),.sh (aM r)]=some ((List.range ((r.length:Int)-1).toNat).map (fun i:Nat=>Dat.int (1+(i:Int))),[.sh (.tup [.int n,.int k,aM r]),.sh (.int n),.sh (.int k),.sh (aM r)]):=by
     refine Wi.get (Wi.R2 (We.c (aL.mk (We.B (Was.cons (We.v rfl (Was.nil (WB.ff (enc:=aO) (xs:=r) (aL.mk ?_) rfl))))))))
     refine ⟨⟨?_,rfl⟩,?_⟩
     ·rw [l9]
     ·unfold BIG;omega
    refine We.Map (fun i:Nat=>Dat.int (1+(i:Int))) (List.range ((r.length:Int)-1).toNat) (fun i=>decide ((r.getD i ⟨0,0,0⟩).m<(r.getD (i+1) ⟨0,0,0⟩).m)) Dat.bl ?_ hit rfl (by decide) (by simp;omega) (fun i hi=>?_)
    ·refine Was.nil (WB.all (fun b=>b) (xs:=(List.range ((r.length:Int)-1).toNat).map fun i=>decide ((r.getD i ⟨0,0,0⟩).m<(r.getD (i+1) ⟨0,0,0⟩).m)) ?_ rfl)
     have e:(((List.range ((r.length:Int)-1).toNat).map fun i=>decide ((r.getD i ⟨0,0,0⟩).m<(r.getD (i+1) ⟨0,0,0⟩).m)).all fun b=>b)=upB r:=by
      unfold upB
      rw [List.all_map]
      rfl
     rw [e]
     refine Wb.mk ?_
     cases q4:upB r with
     | false=>exact Wif.t (Ws.R (We.c rfl))
     | true=>
      refine Wif.f (Ws.nx ?_)
      obtain ⟨N,rfl⟩:∃ N:Nat,n=(N:Nat):=⟨n.toNat,by omega⟩
      obtain ⟨K,rfl⟩:∃ K:Nat,k=(K:Nat):=⟨k.toNat,by omega⟩
      obtain ⟨ms,el,al⟩:=gB N K (by omega) (by omega) r (rQ q3) (by omega)
      rw [al.uniq (cJ K r)] at el
      refine Ws.R (We.e2 (We.c (We.F (Was.cons (We.v rfl (Was.cons (We.v rfl (Was.cons (We.v rfl (Was.nil (WF.box el ?_ rfl rfl rfl rfl)))))))))))
      refine Wg2.BG (xs:=nums K r) ?_ rfl rfl
      refine WR.val (congrArg (fun b=>RV.val (Dat.bl b)) ?_)
      rw [Int.toNat_natCast]
      simp
    ·have hi':=List.mem_range.mp hi
     refine We.e2 (We.e2 (We.e2 (We.v rfl (We.e2 (We.v rfl (We.c (Wg2.sub ?_ rfl rfl)))))))
     refine Wg2.ixL (enc:=aO) (xs:=r) (i:=1+(i:Int)-1) (by omega) (by omega) ?_ rfl rfl
     refine We.c (Wg2.ix (v:=.int (r[(1+(i:Int)-1).toNat]'(by omega)).m) ?_ rfl rfl rfl)
     refine We.e2 (We.e2 (We.v rfl (We.v rfl ?_)))
     refine Wg2.ixL (enc:=aO) (xs:=r) (i:=1+(i:Int)) (by omega) (by omega) ?_ rfl rfl
     refine We.c (Wg2.ix (v:=.int (r[(1+(i:Int)).toNat]'(by omega)).m) ?_ rfl rfl rfl)
     refine Wg2.lt (Wk.val ⟨congrArg Dat.bl (decide_eq_decide.mpr ?_),rfl⟩) rfl rfl
     rw [mh r (by omega),mh r (by omega)]
     have e1:(1+(i:Int)-1).toNat=i:=by omega
     have e2:(1+(i:Int)).toNat=i+1:=by omega
     simp only [e1,e2]
  ·rw [decide_eq_false q2]
   exact Wif.t (Wif.t (Ws.R (We.c rfl)))
 ·rw [decide_eq_false q1]
  refine Wif.t (Wif.t (Ws.R (We.c (congrArg (fun b=>RV.val (Dat.bl b)) ?_))))
  rw [Bool.false_and,Bool.false_and,Bool.and_false,Bool.false_and]
noncomputable def Tb (c:Int) (t:Tie):Prop:=(-c≤t.m∧t.m≤c)∧(-c≤t.a∧t.a≤c)∧-c≤t.b∧t.b≤c
theorem Tb.up {c e:Int} {t:Tie} (h:Tb c t) (q:c≤e):Tb e t:=by
 obtain ⟨⟨h1,h2⟩,⟨h3,h4⟩,h5,h6⟩:=h
 exact ⟨⟨by omega,by omega⟩,⟨by omega,by omega⟩,by omega,by omega⟩
theorem n6 {b:Nat} {d:Dat} (h:aB (b+4) d) (n:Nat) (n1:1≤n) (n10:n≤100) (r:List Tie) {c:Int} (c0:100≤c) (hb:∀ t∈r,Tb c t) (hl:r.length≤60) :
  ∃ (x y:Int) (d':Dat),d8 [d,.int (n:Nat),aM r]=some (.val (.tup [.int x,.int y]),d')∧((-c≤x∧x≤c)∧-c≤y∧y≤c)∧aB b d':=by
 suffices hh:WrM (d8 [d,.int (n:Nat),aM r]) fun v d'=>∃ x y:Int,v=.val (.tup [.int x,.int y])∧((-c≤x∧x≤c)∧-c≤y∧y≤c)∧aB b d' by
  obtain ⟨v,d',h1,x,y,rfl,h2⟩:=hh
  exact ⟨x,y,d',h1,h2⟩
 unfold d8
 refine WrM.fn ?_ rfl rfl
 dsimp only [List.map,List.replicate,List.cons_append,List.nil_append]
 refine Ws.seq (Ws.A (We.tk (We.v rfl (aL.mk (bz h (fun x d1 ρ3 e x0 x1 hp=>?_) rfl (by omega) (ie (by omega))))) rfl) (by decide))
 subst e
 refine WA.val ?_ (by first | (dsimp only [List.set];first | done | rfl) | rfl)
 refine Ws.seq (Ws.A (We.tk (We.v rfl (aL.mk (bz hp (fun y d2 ρ3 e y0 y1 hp=>?_) rfl (by omega) (ie (by omega))))) rfl) (by decide))
 subst e
 refine WA.val ?_ (by first | (dsimp only [List.set];first | done | rfl) | rfl)
 refine Ws.cut (fun ρ=>∃ (x y:Int) (d':Dat) (c5:Cell),((-c≤x∧x≤c)∧-c≤y∧y≤c)∧aB b d'∧ρ=[.ow d',.sh (.int (n:Nat)),.sh (aM r),.sh (.int x),.sh (.int y),c5]) ?_ ?_
 ·refine Ws.If (Wt.And (Wt.V (We.e2 (We.v rfl (We.L (Was.nil (WT.mk ⟨_,_,_,rfl,rfl,l7 r,Wb.mk ?_⟩ rfl rfl (by decide))))))))
  refine ⟨fun g=>?_,fun g=>Wif.f (Ws.nx ⟨x,y,d2,_,⟨⟨by omega,by omega⟩,by omega,by omega⟩,hp.down 2,rfl⟩)⟩
  have l0:0<r.length:=by
   cases r with
   | nil=>cases g
   | cons t r=>simp
  refine Wt.V (We.e2 (We.tk (We.c (aL.mk (bz hp (fun z d3 ρ3 e z0 z1 hp=>?_) rfl (by decide) (by decide)))) rfl))
  subst e
  refine We.c (Wg2.eq (Wb.mk ⟨fun g2=>?_,fun g2=>Ws.nx ⟨x,y,d3,_,⟨⟨by omega,by omega⟩,by omega,by omega⟩,hp.down 1,rfl⟩⟩) rfl rfl)
  refine Ws.U (We.e2 (We.v rfl (We.tk (We.B (Was.cons (We.v rfl (Was.nil (WB.ff (enc:=aO) (xs:=r) (aL.mk (bz hp (fun i d4 ρ3 e i0 i1 hp=>?_) rfl (by omega) (ie (by omega)))) rfl))))) rfl)))
  subst e
  have hi:i.toNat<r.length:=by omega
  have ei:i=((i.toNat:Nat):Int):=by omega
  rw [ei]
  refine Wg2.ix ?_ rfl rfl (l8 r (List.getElem?_eq_getElem hi))
  refine Wk.val ⟨_,_,rfl,rfl,?_⟩
  exact ⟨_,_,d4,_,(hb _ (List.getElem_mem hi)).2,hp,rfl⟩
 ·rintro ρ ⟨x,y,d',c5,g,hp,rfl⟩
  refine Ws.R (We.T (Was.cons (We.B (Was.cons (We.v rfl (Was.cons (We.v rfl (Was.nil (WB.min2 ?_ rfl)))))))))
  refine Was.cons (We.B (Was.cons (We.v rfl (Was.cons (We.v rfl (Was.nil (WB.max2 ?_ rfl)))))))
  refine Was.nil (WT.mk ?_ rfl rfl (by exact Nat.le_of_ble_eq_true rfl))
  refine ⟨_,rfl,_,_,rfl,?_,hp⟩
  obtain ⟨⟨g1,g2⟩,g3,g4⟩:=g
  constructor
  ·split<;>exact ⟨by omega,by omega⟩
  ·split<;>exact ⟨by omega,by omega⟩
theorem yO {b:Nat} {d:Dat} (h:aB (b+8) d) (n:Nat) (n1:1≤n) (n10:n≤100) (r:List Tie) {e:Int} (c0:100≤e) (hb:∀ t∈r,Tb e t) (hl:r.length≤60) :
  ∃ (c:Tie) (d':Dat),kN [d,.int (n:Nat),aM r]=some (.val (aO c),d')∧Tb (e+200) c∧aB b d':=by
 suffices hh:WrM (kN [d,.int (n:Nat),aM r]) fun v d'=>∃ c:Tie,v=.val (aO c)∧Tb (e+200) c∧aB b d' by
  obtain ⟨v,d',h1,r,rfl,h2⟩:=hh
  exact ⟨r,d',h1,h2⟩
 unfold kN
 refine WrM.fn ?_ rfl rfl
 dsimp only [List.map,List.replicate,List.cons_append,List.nil_append]
 refine Ws.seq (Ws.A (We.lW aO r (·.m) Dat.int (d:=aM r) ?_ rfl rfl rfl (by decide) (sz (Nat.le_trans hl (by decide))) fun t _=>We.e2 (We.v rfl (We.c (Wg2.ix (v:=.int t.m) (Wk.val ⟨rfl,rfl⟩) rfl rfl rfl)))) (by decide))
 refine WA.new ?_ (by first | (dsimp only [List.set];first | done | rfl) | rfl)
 refine Ws.seq (Ws.A (We.tk (We.c (aL.mk (bz h (fun x d1 ρ3 ee x0 x1 hp=>?_) rfl (by decide) (by decide)))) rfl) (by decide))
 subst ee
 refine WA.val ?_ (by first | (dsimp only [List.set];first | done | rfl) | rfl)
 have lm:(r.map (·.m)).length=r.length:=by rw [List.length_map]
 refine Ws.cut (fun ρ=>∃ (x:Int) (d:Dat),ρ=[.ow d,.sh (.int (n:Nat)),.sh (aM r),.ow (.lst ((r.map (·.m)).map Dat.int)),.sh (.int x),.un,.un,.un]∧(-e≤x∧x≤e+2)∧aB (b+4) d) ?_ ?_
 ·refine Ws.If (Wt.And (Wt.V (We.e2 (We.w rfl (We.L (Was.nil (WT.mk (Wg2.neI (N:=r.map (·.m)) (M:=[]) (Wb.mk ?_) rfl rfl) rfl rfl (by decide))))))))
  refine ⟨fun g=>?_,fun g=>Wif.f (Ws.nx ⟨_,_,rfl,⟨by omega,by omega⟩,hp.down 3⟩)⟩
  have l0:0<(r.map (·.m)).length:=by
   refine List.length_pos_iff.mpr fun z=>?_
   rw [z] at g
   cases g
  refine Wt.V (We.e2 (We.tk (We.c (aL.mk (bz hp (fun z d3 ρ3 ee z0 z1 hp=>?_) rfl (by decide) (by decide)))) rfl))
  subst ee
  refine We.c (Wg2.gt (Wb.mk ⟨fun g2=>?_,fun g2=>Ws.nx ⟨_,_,rfl,⟨by omega,by omega⟩,hp.down 2⟩⟩) rfl rfl)
  refine Ws.A (We.e2 (We.e2 (We.w rfl (We.tk (We.B (Was.cons (We.w rfl (Was.nil (WB.ff (enc:=Dat.int) (xs:=r.map (·.m)) (aL.mk (bz hp (fun i d4 ρ3 ee i0 i1 hp=>?_) rfl (by omega) (ie (by omega)))) rfl))))) rfl)))) (by decide)
  subst ee
  refine zN i0 i1 ?_ rfl rfl
  refine We.tk (We.c (aL.mk (bz hp (fun y d5 ρ3 ee y0 y1 hp=>?_) rfl (by decide) (by decide)))) rfl
  subst ee
  refine Wg2.add (WA.val ⟨_,_,rfl,?_,hp⟩ (by first | (dsimp only [List.set];first | done | rfl) | rfl)) rfl rfl
  have hm:at' (r.map (·.m)) i∈r.map (·.m):=by
   unfold at'
   rw [List.getD_eq_getElem?_getD,List.getElem?_eq_getElem (by omega)]
   exact List.getElem_mem _
  obtain ⟨t,ht,et⟩:=List.mem_map.mp hm
  have:=(hb t ht).1
  rw [← et]
  exact ⟨by omega,by omega⟩
 rintro ρ ⟨x,d,rfl,xb,hp⟩
 refine Ws.seq (Ws.For (Wi.R1 (We.e2 (We.B (Was.cons (We.w rfl (Was.nil (WB.ff (enc:=Dat.int) (xs:=r.map (·.m)) ?_ rfl))))))))
 refine We.c (Wg2.add (aL.mk ⟨?_,by unfold BIG;omega,by unfold BIG;omega⟩) rfl rfl)
 refine Ws.inv (fun i:Nat=>Dat.int (0+(i:Nat))) _ _ (List.range ((((r.map (·.m)).length:Nat):Int)+1).toNat) _ _ _ _ _ (fun p q ρ=>∃ (y:Int) (c5:Cell),ρ=[.ow d,.sh (.int (n:Nat)),.sh (aM r),.ow (.lst ((r.map (·.m)).map Dat.int)),.sh (.int y),c5,.un,.un]∧-e≤y∧y≤e+2+p.length) ⟨x,_,rfl,xb.1,by simp;omega⟩ ?_ ?_
 ·rintro p i q ρ _ ⟨y,c5,rfl,y0,y1⟩
  refine Dm.cj rfl (by first | (dsimp only [List.set];first | done | rfl) | rfl) ?_
  unfold vU
  refine Ws.A (We.e2 (We.v rfl (We.B (Was.cons (We.e2 (We.v rfl (We.w rfl (Wg2.inL (xs:=r.map (·.m)) ?_ rfl rfl)))))))) (by decide)
  refine Was.nil (WB.int ?_ rfl)
  refine Wg2.add (WA.val ⟨_,_,rfl,?_⟩ (by first | (dsimp only [List.set];first | done | rfl) | rfl)) rfl rfl
  rw [List.length_append,List.length_singleton]
  have:b2i (decide (y∈r.map (·.m)))=0∨b2i (decide (y∈r.map (·.m)))=1:=by cases decide (y∈r.map (·.m))<;>simp [b2i]
  omega
 ·rintro ρ ⟨y,c5,rfl,y0,y1⟩
  rw [List.length_range] at y1
  obtain ⟨u,v,d3,ee,huv,hd3⟩:=n6 (b:=b) hp n n1 n10 r c0 hb (by omega)
  refine Ws.seq (Ws.U (We.Fm (Was.cons (We.v rfl (Was.cons (We.v rfl (Was.nil (WFm.any ee ?_ rfl rfl (by first | (dsimp only [List.set];first | done | rfl) | rfl))))))) rfl))
  refine Wk.val ⟨_,_,rfl,rfl,?_⟩
  refine Ws.R (We.T (Was.cons (We.v rfl (Was.cons (We.v rfl (Was.cons (We.v rfl (Was.nil (WT.mk ?_ rfl rfl (by exact Nat.le_of_ble_eq_true rfl))))))))))
  refine ⟨_,rfl,⟨y,u,v⟩,rfl,⟨⟨?_,?_⟩,⟨?_,?_⟩,?_,?_⟩,hd3⟩<;>dsimp only<;>omega
theorem Wg2.yP {X Y:List Tie} {o p:Option Dat} {K:RV→Prop} (k:K (.new (aM (X++Y)))) (ho:o=some (aM X)) (hp:p=some (aM Y)) (h:X.length+Y.length≤1000):Wg2 aX o p K:=by
 unfold aM at k ho hp
 rw [List.map_append] at k
 exact Wg2.D3 k ho hp (by rw [List.length_map,List.length_map];exact Nat.le_trans h (by decide))
theorem rR:∀ (L:List (List Int)) (r:List Tie),(∀ x∈L,x∈r.map l3)→∃ q:List Tie,L=q.map l3∧∀ t∈q,t∈r
 | [],r,_=>⟨[],rfl,fun t h=>by cases h⟩
 | x::L,r,h=>by
  obtain ⟨q,e,hq⟩:=rR L r fun y hy=>h y (List.mem_cons_of_mem _ hy)
  obtain ⟨t,tr,ht⟩:=List.mem_map.mp (h x List.mem_cons_self)
  refine ⟨t::q,by rw [List.map_cons,ht,e],fun u hu=>?_⟩
  rcases List.mem_cons.mp hu with rfl | hu
  ·exact tr
  ·exact hq u hu
theorem wu (r:List Tie) (hl:r.length≤63) {o:Option (List Dat)} {K:RV→Prop} (k:∀ q:List Tie,q.length=r.length→(∀ t∈q,t∈r)→K (.new (aM q))) (ho:o=some [aM r]):WB dw o K:=by
 obtain ⟨q,e,hq⟩:=rR (kJ lx (r.map l3)) r fun x hx=>(di lx _).mem_iff.mp hx
 have lq:q.length=r.length:=by
  have:=(di lx (r.map l3)).length_eq
  rw [e,List.length_map,List.length_map] at this
  exact this
 refine ⟨_,_,ho,?_,k q lq hq⟩
 rw [rO]
 unfold dw
 dsimp only
 rw [kR _ fun ns hn=>by obtain ⟨t,_,rfl⟩:=List.mem_map.mp hn;exact List.cons_ne_nil _ _]
 dsimp only
 rw [if_pos (by rw [List.length_map];exact hl),e,← rO]
noncomputable abbrev spE (d:Dat) (n k:Int) (r made:List Tie) (pl:Nat) (turn at_:Int) (c9 c10:Cell):Env:=[.ow d,.sh (gW n k r),.sh (.int n),.sh (.int k),.sh (aM r),.sh (.int (pl:Nat)),.ow (aM made),.sh (.int turn),.sh (.int at_),c9,c10]
noncomputable def spI (c:Int) (b:Nat) (n k:Int) (r:List Tie) (pl:Nat) (turn at_:Int) (p:Prop) (m:Nat) (ρ:Env):Prop:=∃ (d:Dat) (made:List Tie) (c9 c10:Cell),ρ=spE d n k r made pl turn at_ c9 c10∧aB b d∧(p→made=r)∧made.length≤r.length+m∧∀ t∈made,Tb (c+200) t
theorem gD {α:Type} (xs:List α) (lo hi:Option Int):(dM xs lo hi).length≤xs.length:=by
 unfold dM
 rw [List.length_take,List.length_drop]
 omega
theorem cY {α:Type} {xs:List α} {lo hi:Option Int} {x:α} (h:x∈dM xs lo hi):x∈xs:=List.mem_of_mem_drop (List.mem_of_mem_take h)
theorem n8 {α:Type} (xs:List α) (a c:Int) (a0:0≤a) (c0:0≤c) (h:a≤c+1):(dM xs none (some a)).length+(dM xs (some c) none).length≤xs.length+(a-c).toNat:=by
 have e1:sIx xs.length xs.length (some a)=min a.toNat xs.length:=by unfold sIx;dsimp only;rw [if_neg (by omega)];omega
 have e2:sIx xs.length 0 (some c)=min c.toNat xs.length:=by unfold sIx;dsimp only;rw [if_neg (by omega)];omega
 unfold dM
 rw [List.length_take,List.length_take,List.length_drop,List.length_drop,e1,e2]
 have e3:sIx xs.length 0 none=0:=rfl
 have e4:sIx xs.length xs.length none=xs.length:=rfl
 rw [e3,e4]
 omega
section
variable {c:Int} {b:Nat} {n k:Int} {r:List Tie} {pl:Nat} {turn at_:Int} {ρ:Env} {R:RV→Env→Prop} {B C:Env→Prop}
theorem sp0 (c0:100≤c) (rb:∀ t∈r,Tb c t) (p1:1≤pl) (p2:pl≤100) (lr:r.length≤50) (h:spI c (b+8) n k r pl turn at_ True 0 ρ) :
  Ws (sIf (tV (e2 gEq (eV 7) (eC (.int 0)))) (sA 6 (eB dw [(e2 aX (eV 6) (bf [(eFm kN 0 [(eV 5),(eV 6)])]))])) sNx) ρ (spI c b n k r pl turn at_ (turn≠0) 1) R B C:=by
 obtain ⟨d,made,c9,c10,rfl,hp,hm,hl,hb⟩:=h
 refine Ws.If (Wt.V (We.e2 (We.v rfl (We.c (Wg2.eq (Wb.mk ⟨fun g=>?_,fun g=>Ws.nx ⟨_,_,_,_,rfl,hp.down 8,fun _=>hm trivial,by omega,hb⟩⟩) rfl rfl)))))
 have mr:=hm trivial
 obtain ⟨nt,d',e,hnt,hp'⟩:=yO (b:=b) hp pl p1 p2 made c0 (mr▸rb) (by omega)
 refine Ws.A (We.B (Was.cons (We.e2 (We.w rfl (We.L (Was.cons (We.Fm (Was.cons (We.v rfl (Was.cons (We.w rfl (Was.nil (WFm.flat e ?_ rfl rfl rfl rfl hp'.plain (by first | (dsimp only [List.set];first | done | rfl) | rfl))))))) rfl))))))) (by decide)
 refine Was.nil (WT.mk ?_ rfl rfl (by exact Nat.le_of_ble_eq_true rfl))
 refine Wg2.yP (X:=made) (Y:=[nt]) ?_ rfl rfl (by simp;omega)
 refine Was.nil (wu (made++[nt]) (by rw [List.length_append,List.length_singleton];omega) (fun q lq hq=>?_) rfl)
 refine WA.new ?_ (by first | (dsimp only [List.set];first | done | rfl) | rfl)
 refine ⟨_,q,_,_,rfl,hp',fun z=>absurd (of_decide_eq_true g) z,?_,fun t ht=>?_⟩
 ·rw [lq,List.length_append,List.length_singleton]
  omega
 ·rcases List.mem_append.mp (hq t ht) with h | h
  ·exact hb t h
  ·rw [List.mem_singleton.mp h];exact hnt
theorem sp1 (at0:0≤at_) (lr:r.length≤50) (h:spI c b n k r pl turn at_ (turn≠0) 1 ρ) :
  Ws (sIf (tV (e2 gEq (eV 7) (eC (.int 1)))) (sA 6 (e2 aX (eSl (eV 6) none (some (eV 8))) (eSl (eV 6) (some (e2 aX (eV 8) (eC (.int 1)))) none))) sNx) ρ (spI c b n k r pl turn at_ (2≤turn) 1) R B C:=by
 obtain ⟨d,made,c9,c10,rfl,hp,hm,hl,hb⟩:=h
 refine Ws.If (Wt.V (We.e2 (We.v rfl (We.c (Wg2.eq (Wb.mk ⟨fun g=>?_,fun g=>Ws.nx ⟨_,_,_,_,rfl,hp,fun z=>hm (by omega),by omega,hb⟩⟩) rfl rfl)))))
 refine Ws.A (We.e2 (We.Sl (We.w rfl (Wp.none (Wp.some (We.v rfl (aL.mk (Wsl.A (enc:=aO) (xs:=made) ?_ rfl)))))))) (by decide)
 refine We.Sl (We.w rfl (Wp.some (We.e2 (We.v rfl (We.c (Wg2.add (aL.mk (Wp.none (Wsl.A (enc:=aO) (xs:=made) ?_ rfl))) rfl rfl))))))
 have l1:=gD made none (some at_)
 have l2:=gD made (some (at_+1)) none
 refine Wg2.yP (X:=dM made none (some at_)) (Y:=dM made (some (at_+1)) none) ?_ rfl rfl (by omega)
 refine WA.new ⟨_,_,_,_,rfl,hp,fun z=>?_,?_,fun t ht=>(List.mem_append.mp ht).elim (fun h=>hb t (cY h)) fun h=>hb t (cY h)⟩ (by first | (dsimp only [List.set];first | done | rfl) | rfl)
 ·have:=of_decide_eq_true g
  omega
 ·rw [List.length_append]
  have:=n8 made at_ (at_+1) at0 (by omega) (by omega)
  omega
theorem sp2 (c0:100≤c) (rb:∀ t∈r,Tb c t) (p1:1≤pl) (p2:pl≤100) (at0:0≤at_) (at1:at_<r.length∨r=[]) (lr:r.length≤50) (h:spI c (b+4) n k r pl turn at_ (2≤turn) 1 ρ) :
  Ws (sIf (fZ (tV (e2 gEq (eV 7) (eC (.int 2)))) (tV (e2 gNe (eV 6) (bf [])))) (az (sU [9,10] (eFm d8 0 [(eV 5),(eV 6)]))
  (gG 6 (eV 8) (aT [(e2 gIx (e2 gIx (eV 6) (eV 8)) (eC (.int 0))),(eV 9),(eV 10)]))) sNx) ρ (spI c b n k r pl turn at_ (3≤turn) 1) R B C:=by
 obtain ⟨d,made,c9,c10,rfl,hp,hm,hl,hb⟩:=h
 have stay:spI c b n k r pl turn at_ (3≤turn) 1 (spE d n k r made pl turn at_ c9 c10):=⟨_,_,_,_,rfl,hp.down 4,fun z=>hm (by omega),hl,hb⟩
 refine Ws.If (Wt.And (Wt.V (We.e2 (We.v rfl (We.c (Wg2.eq (Wb.mk ⟨fun g=>?_,fun g=>Wif.f (Ws.nx stay)⟩) rfl rfl))))))
 have g2:=of_decide_eq_true g
 have hr:=hm (by omega)
 subst hr
 refine Wt.V (We.e2 (We.w rfl (We.L (Was.nil (WT.mk ⟨_,_,_,rfl,rfl,l7 made,Wb.mk ⟨fun g=>?_,fun g=>Ws.nx stay⟩⟩ rfl rfl (by decide))))))
 have l0:made≠[]:=fun z=>by rw [z] at g;cases g
 have la:at_<made.length:=at1.resolve_right l0
 obtain ⟨u,v,d3,ee,huv,hd3⟩:=n6 (b:=b) hp pl p1 p2 made c0 rb (by omega)
 refine Ws.seq (Ws.U (We.Fm (Was.cons (We.v rfl (Was.cons (We.w rfl (Was.nil (WFm.flat ee ?_ rfl rfl rfl rfl hd3.plain (by first | (dsimp only [List.set];first | done | rfl) | rfl))))))) rfl))
 refine Wk.val ⟨_,_,rfl,rfl,?_⟩
 have ei:at_=((at_.toNat:Nat):Int):=by omega
 have hi:at_.toNat<made.length:=by omega
 refine Ws.Set (We.T (Was.cons (We.e2 (We.e2 (We.w rfl (We.v rfl ?_))))))
 have ex:=l8 made (List.getElem?_eq_getElem hi)
 rw [← ei] at ex
 refine Wg2.ix (v:=aO made[at_.toNat]) ?_ rfl rfl ex
 refine We.c (Wg2.ix (v:=.int made[at_.toNat].m) ?_ rfl rfl rfl)
 refine Was.cons (We.v rfl (Was.cons (We.v rfl (Was.nil (WT.mk ?_ rfl rfl (by exact Nat.le_of_ble_eq_true rfl))))))
 refine Wk.val ⟨⟨_,rfl⟩,We.v rfl (aL.mk ⟨made.map aO,at_.toNat,_,rfl,?_,rfl,?_⟩)⟩
 ·rw [List.length_map]
  unfold ixN
  rw [if_pos at0,if_pos la]
 ·refine ⟨_,made.set at_.toNat ⟨made[at_.toNat].m,u,v⟩,.sh (.int u),.sh (.int v),?_,hd3,fun z=>by omega,by rw [List.length_set];omega,fun t ht=>?_⟩
  rotate_left
  ·rcases List.mem_or_eq_of_mem_set ht with h | h
   ·exact hb t h
   ·have:=(hb _ (List.getElem_mem hi)).1
    rw [h]
    exact ⟨this,⟨by dsimp only;omega,by dsimp only;omega⟩,by dsimp only;omega,by dsimp only;omega⟩
  unfold spE aM
  rw [List.map_set]
  rfl
theorem sp3 (at0:0≤at_) (lr:r.length≤50) (h:spI c b n k r pl turn at_ (3≤turn) 1 ρ) :
  Ws (sIf (tV (e2 gEq (eV 7) (eC (.int 3)))) (sA 6 (e2 aX (eSl (eV 6) none (some (e2 aX (eV 8) (eC (.int 1))))) (eSl (eV 6) (some (eV 8)) none))) sNx) ρ (spI c b n k r pl turn at_ (4≤turn) 2) R B C:=by
 obtain ⟨d,made,c9,c10,rfl,hp,hm,hl,hb⟩:=h
 refine Ws.If (Wt.V (We.e2 (We.v rfl (We.c (Wg2.eq (Wb.mk ⟨fun g=>?_,fun g=>Ws.nx ⟨_,_,_,_,rfl,hp,fun z=>hm (by omega),by omega,hb⟩⟩) rfl rfl)))))
 refine Ws.A (We.e2 (We.Sl (We.w rfl (Wp.none (Wp.some (We.e2 (We.v rfl (We.c (Wg2.add (aL.mk (Wsl.A (enc:=aO) (xs:=made) ?_ rfl)) rfl rfl))))))))) (by decide)
 refine We.Sl (We.w rfl (Wp.some (We.v rfl (aL.mk (Wp.none (Wsl.A (enc:=aO) (xs:=made) ?_ rfl))))))
 have l:=n8 made (at_+1) at_ (by omega) at0 (by omega)
 refine Wg2.yP (X:=dM made none (some (at_+1))) (Y:=dM made (some at_) none) ?_ rfl rfl (by omega)
 refine WA.new ⟨_,_,_,_,rfl,hp,fun z=>?_,?_,fun t ht=>(List.mem_append.mp ht).elim (fun h=>hb t (cY h)) fun h=>hb t (cY h)⟩ (by first | (dsimp only [List.set];first | done | rfl) | rfl)
 ·have:=of_decide_eq_true g
  omega
 ·rw [List.length_append]
  omega
theorem sp4 (at0:0≤at_) (lr:r.length≤50) (h:spI c b n k r pl turn at_ (4≤turn) 2 ρ) :
  Ws (sIf (tV (e2 gEq (eV 7) (eC (.int 4)))) (p6 6 (some (eV 8)) (some (e2 aX (eV 8) (eC (.int 2)))) (e1 e_ (eSl (eV 6) (some (eV 8)) (some (e2 aX (eV 8) (eC (.int 2))))))) sNx) ρ (spI c b n k r pl turn at_ False 2) R B C:=by
 obtain ⟨d,made,c9,c10,rfl,hp,hm,hl,hb⟩:=h
 refine Ws.If (Wt.V (We.e2 (We.v rfl (We.c (Wg2.eq (Wb.mk ⟨fun g=>?_,fun g=>Ws.nx ⟨_,_,_,_,rfl,hp,fun z=>z.elim,hl,hb⟩⟩) rfl rfl)))))
 refine Ws.SlA (We.e1 (We.Sl (We.w rfl (Wp.some (We.v rfl (aL.mk (Wp.some (We.e2 (We.v rfl (We.c (Wg2.add (aL.mk (Wsl.A (enc:=aO) (xs:=made) ?_ rfl)) rfl rfl))))))))))) 
 refine Wg1.mk (v:=.new (.lst (((dM made (some at_) (some (at_+2))).reverse).map aO))) ?_ rfl (by rw [List.map_reverse];rfl)
 refine Wk.new ⟨_,rfl,⟨_,rfl⟩,?_⟩
 refine Wp.some (We.v rfl (aL.mk (Wp.some (We.e2 (We.v rfl (We.c (Wg2.add (aL.mk ⟨made.map aO,_,rfl,?_,rfl,?_⟩) rfl rfl)))))))
 ·have:=gD made (some at_) (some (at_+2))
  rw [List.length_map,List.length_map,List.length_reverse]
  exact sz (by omega)
 ·refine ⟨d,made.take (sIx made.length 0 (some at_))++(dM made (some at_) (some (at_+2))).reverse++made.drop (max (sIx made.length 0 (some at_)) (sIx made.length made.length (some (at_+2)))),c9,c10,?_,hp,fun z=>z.elim,?_,fun t ht=>hb t ?_⟩
  rotate_right
  ·rcases List.mem_append.mp ht with h | h
   ·rcases List.mem_append.mp h with h | h
    ·exact List.mem_of_mem_take h
    ·exact cY (List.mem_reverse.mp h)
   ·exact List.mem_of_mem_drop h
  ·unfold spE aM
   rw [List.length_map,List.map_append,List.map_append,List.map_take,List.map_drop]
   rfl
  ·rw [List.length_append,List.length_append,List.length_reverse]
   unfold dM
   rw [List.length_take,List.length_take,List.length_drop,List.length_drop]
   omega
end
theorem gX {b:Nat} {d:Dat} (h:aB (b+14) d) (n k:Int) (nb:n≤50) (r:List Tie) (lr:r.length≤50) {c:Int} (c0:100≤c) (rb:∀ t∈r,Tb c t) (kb:-c≤k∧k≤c) :
  ∃ (n' k':Int) (q:List Tie) (d':Dat),i6 [d,gW n k r]=some (.val (gW n' k' q),d')∧(n-1≤n'∧n'≤n+1∧(-c≤k'∧k'≤c)∧q.length≤r.length+2∧∀ t∈q,Tb (c+200) t)∧aB b d':=by
 suffices hh:WrM (i6 [d,gW n k r]) fun v d'=>∃ (n' k':Int) (q:List Tie),v=.val (gW n' k' q)∧(n-1≤n'∧n'≤n+1∧(-c≤k'∧k'≤c)∧q.length≤r.length+2∧∀ t∈q,Tb (c+200) t)∧aB b d' by
  obtain ⟨v,d',h1,n',k',q,rfl,h2⟩:=hh
  exact ⟨n',k',q,d',h1,h2⟩
 unfold i6
 refine WrM.fn ?_ rfl rfl
 dsimp only [List.map,List.replicate,List.cons_append,List.nil_append]
 refine Ws.seq (Ws.U (We.v rfl (Wk.val ⟨_,_,rfl,rfl,?_⟩)))
 refine Ws.seq (Ws.A (We.B (Was.cons (We.c (Was.cons (We.v rfl (Was.nil (WB.max2 (WA.val ?_ (by first | (dsimp only [List.set];first | done | rfl) | rfl)) rfl))))))) (by decide))
 have pb:1≤(if n>1 then n else 1)∧(if n>1 then n else 1)≤50:=by split<;>omega
 generalize (if n>1 then n else 1)=pl0 at pb ⊢
 obtain ⟨pl,rfl⟩:∃ pl:Nat,pl0=(pl:Nat):=⟨pl0.toNat,by omega⟩
 refine Ws.seq (Ws.A (We.B (Was.cons (We.v rfl (Was.nil (WB.list (xs:=r.map aO) (WA.new ?_ (by first | (dsimp only [List.set];first | done | rfl) | rfl)) rfl))))) (by decide))
 refine Ws.seq (Ws.A (We.tk (We.c (aL.mk (bz h (fun turn d1 ρ3 e t0 t1 hp=>?_) rfl (by decide) (by decide)))) rfl) (by decide))
 subst e
 refine WA.val ?_ (by first | (dsimp only [List.set];first | done | rfl) | rfl)
 refine Ws.seq (Ws.A (We.tk (We.B (Was.cons (We.c (Was.cons (We.B (Was.cons (We.w rfl (Was.nil (WB.ff (enc:=aO) (xs:=r) ?_ rfl))))))))) rfl) (by decide))
 refine Was.nil (WB.max2 (aL.mk (bz hp (fun at_ d2 ρ3 e a0 a1 hp=>?_) rfl ?_ ?_)) rfl)
 rotate_left
 ·split<;>omega
 ·exact ie (by split<;>omega)
 subst e
 refine WA.val ?_ (by first | (dsimp only [List.set];first | done | rfl) | rfl)
 have at1:at_<r.length∨r=[]:=by
  cases r with
  | nil=>exact .inr rfl
  | cons t r=>
   refine .inl ?_
   rw [List.length_cons] at a1 ⊢
   split at a1<;>omega
 refine Ws.seq (Ws.mono (sp0 (b:=b+4) (r:=r) (n:=n) (k:=k) c0 rb (by omega) (by omega) lr ⟨d2,r,_,_,rfl,hp,fun _=>rfl,by omega,fun t ht=>(rb t ht).up (by omega)⟩) fun ρ h=>?_)
 refine Ws.seq (Ws.mono (sp1 a0 lr h) fun ρ h=>?_)
 refine Ws.seq (Ws.mono (sp2 (b:=b) c0 rb (by omega) (by omega) a0 at1 lr h) fun ρ h=>?_)
 refine Ws.seq (Ws.mono (sp3 a0 lr h) fun ρ h=>?_)
 refine Ws.seq (Ws.mono (sp4 a0 lr h) fun ρ h=>?_)
 obtain ⟨d,made,c9,c10,rfl,hp,_,hl,hb⟩:=h
 refine Ws.seq (Ws.If (Wt.V (We.e2 (We.v rfl (We.c (Wg2.gt (Wb.mk ⟨fun g=>?_,fun g=>Ws.nx ?_⟩) rfl rfl))))))
 ·refine Ws.R (We.T (Was.cons (We.v rfl (Was.cons (We.B (Was.cons (We.c (Was.cons (We.B ?_)))))))))
  refine Was.cons (We.c (Was.cons (We.e2 (We.e2 (We.v rfl (We.e2 (We.c (We.v rfl (Wg2.mul ?_ rfl rfl (.inl (by decide)))))))))))
  refine Wg2.add (We.c (Wg2.sub (Was.nil (WB.min2 (Was.nil (WB.max2 ?_ rfl)) rfl)) rfl rfl)) rfl rfl
  refine Was.cons (We.w rfl (Was.nil (WT.mk ⟨_,rfl,_,_,made,rfl,⟨by omega,by omega,?_,hl,hb⟩,hp⟩ rfl rfl (by exact Nat.le_of_ble_eq_true rfl))))
  constructor<;>split<;>(try split)<;>omega
 ·refine Ws.R (We.T (Was.cons (We.e2 (We.e2 (We.v rfl (We.B (Was.cons (We.e2 (We.v rfl (We.c (Wg2.eq (Was.nil (WB.int ?_ rfl)) rfl rfl))))))))))) 
  refine Wg2.add (We.B (Was.cons (We.e2 (We.v rfl (We.c (Wg2.eq (Was.nil (WB.int (Wg2.sub ?_ rfl rfl) rfl)) rfl rfl)))))) rfl rfl
  refine Was.cons (We.v rfl (Was.cons (We.w rfl (Was.nil (WT.mk ⟨_,rfl,_,_,made,rfl,⟨?_,?_,kb,hl,hb⟩,hp⟩ rfl rfl (by exact Nat.le_of_ble_eq_true rfl))))))
  ·have q1:b2i (decide (turn=5))=0∨b2i (decide (turn=5))=1:=by cases decide (turn=5)<;>simp [b2i]
   have q2:b2i (decide (turn=6))=0∨b2i (decide (turn=6))=1:=by cases decide (turn=6)<;>simp [b2i]
   omega
  ·have q1:b2i (decide (turn=5))=0∨b2i (decide (turn=5))=1:=by cases decide (turn=5)<;>simp [b2i]
   have q2:b2i (decide (turn=6))=0∨b2i (decide (turn=6))=1:=by cases decide (turn=6)<;>simp [b2i]
   omega
theorem je {n:Nat} {i:Int} (h:i.natAbs<10 ^ 100):gO n (.int i)=true:=by
 cases n<;>exact decide_eq_true h
noncomputable abbrev Z40:Int:=10000000000000000000000000000000000000000
theorem small (i:Int) (h0:-Z40≤i) (h:i≤Z40):i.natAbs<10 ^ 100:=Nat.lt_of_le_of_lt (show i.natAbs≤10000000000000000000000000000000000000000 by unfold Z40 at h h0;omega) (by decide)
theorem rS (d:Nat):∀ {r:List Tie},(∀ t∈r,Tb Z40 t)→bu (d+1) (r.map aO)=true
 | [],_=>rfl
 | t::r,h=>by
  obtain ⟨h1,h2,h3⟩:=h t List.mem_cons_self
  have a:bu d [.int t.m,.int t.a,.int t.b]=true:=by
   unfold bu bu bu bu
   rw [je (small _ h1.1 h1.2),je (small _ h2.1 h2.2),je (small _ h3.1 h3.2)]
   rfl
  rw [List.map_cons]
  unfold bu
  rw [rS d fun u hu=>h u (List.mem_cons_of_mem _ hu),Bool.and_true]
  exact a
theorem rT:∀ r:List Tie,h_ (r.map aO)=4*r.length
 | []=>rfl
 | t::r=>by
  rw [List.map_cons]
  unfold h_
  rw [rT r,List.length_cons]
  show 4+_=_
  omega
theorem BN {n k:Int} (hn:-Z40≤n∧n≤Z40) (hk:-Z40≤k∧k≤Z40) {r:List Tie} (h:∀ t∈r,Tb Z40 t):gO 8 (gW n k r)=true:=by
 show bu 7 [.int n,.int k,aM r]=true
 unfold bu bu bu bu
 rw [je (small _ hn.1 hn.2),je (small _ hk.1 hk.2)]
 show (true&&(true&&(bu 6 (r.map aO)&&true)))=true
 rw [rS 5 h]
 rfl
theorem BO (n k:Int) (r:List Tie):j_ (gW n k r)=4+4*r.length:=by
 show 1+(1+(1+((1+h_ (r.map aO))+0)))=_
 rw [rT]
 omega
theorem yQ {d:Dat} (h:gO 8 d=true):gEq (.str (shw d)) (.str (shw d))=some (.val (.bl true)):=by
 have a:okD 8 (.str (shw d))=true:=by
  unfold okD
  rw [List.all_eq_true]
  exact fun c hc=>decide_eq_true (kL 8 d h c hc)
 unfold gEq
 rw [a]
 simp [eqD]
theorem jf {n k:Int} {r:List Tie} (hn:-Z40≤n∧n≤Z40) (hk:-Z40≤k∧k≤Z40) (h:∀ t∈r,Tb Z40 t) (hl:r.length≤60):kO [gW n k r]=some (.val (.bl true)):=by
 have h1:=BN hn hk h
 have h2:j_ (gW n k r)≤900:=by rw [BO];omega
 apply Wr.eq
 unfold kO
 (refine Dm.Wr.fn ?_ rfl rfl;dsimp only [List.map,List.replicate,List.cons_append,List.nil_append])
 refine Ws.seq (Ws.A (We.B (Was.cons (We.v rfl (Was.nil (WB.D6 h1 h2 (WA.val ?_ (by first | (dsimp only [List.set];first | done | rfl) | rfl)) rfl))))) (by decide))
 refine Ws.seq (Ws.A (We.F (Was.cons (We.v rfl (Was.nil (WF.val (n5 n k r hl) (WA.val ?_ (by first | (dsimp only [List.set];first | done | rfl) | rfl)) rfl rfl))))) (by decide))
 refine Ws.R (We.And (We.e1 (We.v rfl (Wg1.mk (v:=.val (.bl true)) (Wb.mk (Wif.t ?_)) rfl rfl))))
 refine We.And (We.e2 (We.v rfl (We.F (Was.cons (We.v rfl (Was.nil (WF.val (ud n k r hl) ?_ rfl rfl)))))))
 refine ⟨_,_,_,rfl,rfl,(show gEq (.bl (judge n k r)) (.bl (judge n k r))=some (.val (.bl true)) by cases judge n k r<;>rfl),Wb.mk (Wif.t ?_)⟩
 refine We.e2 (We.B (Was.cons (We.v rfl (Was.nil (WB.D6 h1 h2 ?_ rfl)))))
 exact We.v rfl ⟨_,_,_,rfl,rfl,yQ h1,rfl⟩
theorem d_ (d:Dat) (h:eS isT d=some (.val (.bl false))):bE [d]=some (.val (.bl false)):=by
 apply Wr.eq
 unfold bE
 (refine Dm.Wr.fn ?_ rfl rfl;dsimp only [List.map,List.replicate,List.cons_append,List.nil_append])
 refine Ws.seq (Ws.If (Wt.Or (Wt.Not (Wt.V (We.e1 (We.v rfl (Wg1.mk (v:=.val (.bl false)) (Wb.mk (Wif.t (Wif.t ?_))) rfl h)))))))
 exact Ws.R (We.c rfl)
theorem mq (ds:List Dat) (h:ds.length≠3) (hl:ds.length<100):bE [.tup ds]=some (.val (.bl false)):=by
 apply Wr.eq
 unfold bE
 (refine Dm.Wr.fn ?_ rfl rfl;dsimp only [List.map,List.replicate,List.cons_append,List.nil_append])
 refine Ws.seq (Ws.If (Wt.Or (Wt.Not (Wt.V (We.e1 (We.v rfl (Wg1.mk (v:=.val (.bl true)) (Wb.mk (Wif.f ?_)) rfl rfl)))))))
 refine Wt.V (We.e2 (We.B (Was.cons (We.v rfl (Was.nil (WB.iZ ?_ rfl))))))
 refine We.c (Wg2.ne (Wb.mk ?_) rfl rfl)
 rw [decide_eq_false (by omega)]
 exact Wif.t (Ws.R (We.c rfl))
theorem ir (a b c:Dat) (h:gS [b]=some (.val (.bl false))):bE [.tup [a,b,c]]=some (.val (.bl false)):=by
 apply Wr.eq
 unfold bE
 (refine Dm.Wr.fn ?_ rfl rfl;dsimp only [List.map,List.replicate,List.cons_append,List.nil_append])
 refine Ws.seq (Ws.If (Wt.Or (Wt.Not (Wt.V (We.e1 (We.v rfl (Wg1.mk (v:=.val (.bl true)) (Wb.mk (Wif.f ?_)) rfl rfl)))))))
 refine Wt.V (We.e2 (We.B (Was.cons (We.v rfl (Was.nil (WB.iZ ?_ rfl))))))
 refine We.c (Wg2.ne (Wb.mk ?_) rfl rfl)
 refine Wif.no rfl (Ws.nx ?_)
 refine Ws.seq (Ws.If (Wt.Or (Wt.Not (Wt.V (We.F (Was.cons (We.e2 (We.v rfl (We.c (Wg2.ix (v:=b) ?_ rfl rfl rfl))))))))))
 refine Was.nil (WF.val h (Wb.mk (Wif.t (Wif.t ?_))) rfl rfl)
 exact Ws.R (We.c rfl)
theorem cz (a b c:Dat) (hb:gS [b]=some (.val (.bl true))) (h:cV [a,c]=some (.val (.bl false))):bE [.tup [a,b,c]]=some (.val (.bl false)):=by
 apply Wr.eq
 unfold bE
 (refine Dm.Wr.fn ?_ rfl rfl;dsimp only [List.map,List.replicate,List.cons_append,List.nil_append])
 refine Ws.seq (Ws.If (Wt.Or (Wt.Not (Wt.V (We.e1 (We.v rfl (Wg1.mk (v:=.val (.bl true)) (Wb.mk (Wif.f ?_)) rfl rfl)))))))
 refine Wt.V (We.e2 (We.B (Was.cons (We.v rfl (Was.nil (WB.iZ ?_ rfl))))))
 refine We.c (Wg2.ne (Wb.mk ?_) rfl rfl)
 refine Wif.no rfl (Ws.nx ?_)
 refine Ws.seq (Ws.If (Wt.Or (Wt.Not (Wt.V (We.F (Was.cons (We.e2 (We.v rfl (We.c (Wg2.ix (v:=b) ?_ rfl rfl rfl))))))))))
 refine Was.nil (WF.val hb (Wb.mk (Wif.f ?_)) rfl rfl)
 refine Wt.Not (Wt.V (We.F (Was.cons (We.e2 (We.v rfl (We.c (Wg2.ix (v:=a) ?_ rfl rfl rfl)))))))
 refine Was.cons (We.e2 (We.v rfl (We.c (Wg2.ix (v:=c) ?_ rfl rfl rfl))))
 refine Was.nil (WF.val h (Wb.mk (Wif.t ?_)) rfl rfl)
 exact Ws.R (We.c rfl)
theorem dF (a c:Dat) (h:lX [a]=some (.val (.bl false))):cV [a,c]=some (.val (.bl false)):=by
 apply Wr.eq
 unfold cV
 (refine Dm.Wr.fn ?_ rfl rfl;dsimp only [List.map,List.replicate,List.cons_append,List.nil_append])
 refine Ws.seq (Ws.If (Wt.Or (Wt.Not (Wt.V (We.F (Was.cons (We.v rfl (Was.nil (WF.val h (Wb.mk (Wif.t (Wif.t ?_))) rfl rfl)))))))))
 exact Ws.R (We.c rfl)
theorem jh (n:Nat) (n1:1≤n) (n10:n≤10) (c:Dat) (h:eS isL c=some (.val (.bl false))):cV [.int n,c]=some (.val (.bl false)):=by
 apply Wr.eq
 unfold cV
 (refine Dm.Wr.fn ?_ rfl rfl;dsimp only [List.map,List.replicate,List.cons_append,List.nil_append])
 refine Ws.seq (Ws.If (Wt.Or (Wt.Not (Wt.V (We.F (Was.cons (We.v rfl (Was.nil (WF.val (dB n (by omega) (by omega)) (Wb.mk (Wif.f ?_)) rfl rfl)))))))))
 refine Wt.Or (Wt.Not (Wt.V (We.e1 (We.v rfl (Wg1.mk (v:=.val (.bl false)) (Wb.mk (Wif.t (Wif.t ?_))) rfl h)))))
 exact Ws.R (We.c rfl)
theorem rV (n:Nat) (n1:1≤n) (n10:n≤10) (t:Dat) (h:l6 [.int n,t]=some (.val (.bl false))):cV [.int n,.lst [t]]=some (.val (.bl false)):=by
 apply Wr.eq
 unfold cV
 (refine Dm.Wr.fn ?_ rfl rfl;dsimp only [List.map,List.replicate,List.cons_append,List.nil_append])
 refine Ws.seq (Ws.If (Wt.Or (Wt.Not (Wt.V (We.F (Was.cons (We.v rfl (Was.nil (WF.val (dB n (by omega) (by omega)) (Wb.mk (Wif.f ?_)) rfl rfl)))))))))
 refine Wt.Or (Wt.Not (Wt.V (We.e1 (We.v rfl (Wg1.mk (v:=.val (.bl true)) (Wb.mk (Wif.f ?_)) rfl rfl)))))
 refine Wt.V (We.e2 (We.B (Was.cons (We.v rfl (Was.nil (WB.len ?_ rfl))))))
 refine We.c (Wg2.gt (Wb.mk (Wif.no rfl ?_)) rfl rfl)
 refine Ws.nx (Ws.seq (Ws.If (Wt.Not (Wt.V (We.B (Was.cons ?_))))))
 refine We.lW id [t] (fun _=>false) Dat.bl ?_ rfl rfl rfl (by decide) (by exact Nat.le_of_ble_eq_true rfl) fun u hu=>?_
 ·refine Was.nil (WB.all (fun _=>false) (xs:=[t]) ?_ rfl)
  exact Wb.mk (Wif.t (Ws.R (We.c rfl)))
 ·rw [List.mem_singleton.mp hu]
  exact We.F (Was.cons (We.v rfl (Was.cons (We.v rfl (Was.nil (WF.val h (Wk.val ⟨rfl,rfl⟩) rfl rfl))))))
theorem ue {k:Nat} (k1:1≤k) {t:Tie} (h:t.a=t.b) {r:List Tie} {ms:List Int} (al:aW k (t::r) ms):(0:Int)∈ms:=by
 cases ms with
 | nil=>cases al
 | cons m ms=>
  have h1:i8 k r ms t m:=al.2
  rcases h1 with ⟨e,_⟩ | ⟨_,_,nc,_⟩
  ·rw [e];exact List.mem_cons_self
  ·rw [h] at nc
   exact absurd (Con.refl _) nc
theorem eH (d:Dat) (h:gy [d,.int 1,.int 6]=some (.val (.bl false))):gS [d]=some (.val (.bl false)):=by
 apply Wr.eq
 unfold gS
 (refine Dm.Wr.fn ?_ rfl rfl;dsimp only [List.map,List.replicate,List.cons_append,List.nil_append])
 exact Ws.R (We.F (Was.cons (We.v rfl (Was.cons (We.c (Was.cons (We.c (Was.nil (WF.val h rfl rfl rfl)))))))))
theorem eN (d:Dat) (h:gy [d,.int 1,.int 10]=some (.val (.bl false))):lX [d]=some (.val (.bl false)):=by
 apply Wr.eq
 unfold lX
 (refine Dm.Wr.fn ?_ rfl rfl;dsimp only [List.map,List.replicate,List.cons_append,List.nil_append])
 exact Ws.R (We.F (Was.cons (We.v rfl (Was.cons (We.c (Was.cons (We.c (Was.nil (WF.val h rfl rfl rfl)))))))))
theorem cA (d:Dat) (lo hi:Int) (h:vM [d]=some (.val (.bl false))):gy [d,.int lo,.int hi]=some (.val (.bl false)):=by
 apply Wr.eq
 unfold gy
 (refine Dm.Wr.fn ?_ rfl rfl;dsimp only [List.map,List.replicate,List.cons_append,List.nil_append])
 exact Ws.R (We.And (We.F (Was.cons (We.v rfl (Was.nil (WF.val h (Wb.mk (Wif.f rfl)) rfl rfl))))))
theorem ji (n:Int) (t:Dat) (h:lZ [.int n,t]=some (.val (.bl false))):l6 [.int n,t]=some (.val (.bl false)):=by
 apply Wr.eq
 unfold l6
 (refine Dm.Wr.fn ?_ rfl rfl;dsimp only [List.map,List.replicate,List.cons_append,List.nil_append])
 exact Ws.R (We.And (We.F (Was.cons (We.v rfl (Was.cons (We.v rfl (Was.nil (WF.val h (Wb.mk (Wif.f rfl)) rfl rfl))))))))
noncomputable def uf (n k:Nat) (K:List Tie):List Dat:=
 [.non,.int 5,.str [51,32,50,32,110,111,110,101],.lst [.int n,.int k,aM K],.tup [.int n,.int k],.tup [.int n,.int k,aM K,.int 0],.tup [.int 0,.int k,.lst []],.tup [.int 11,.int k,.lst []],.tup [.bl true,.int 1,.lst []]] ++
 [.tup [.int n,.int 0,.lst []],.tup [.int n,.int 7,.lst []],.tup [.int n,.bl true,.lst []],.tup [.int n,.int k,.tup (K.map aO)],.tup [.int n,.int k,.non],.tup [.int n,.int k,.lst [.tup [.int 5,.int 0,.int n]]]] ++
 [.tup [.int n,.int k,.lst [.tup [.int 5,.int 0,.int 0]]],.tup [.int n,.int k,.lst [.lst [.int 5,.int 0,.int 0]]],.tup [.int n,.int k,.lst [.tup [.int 7,.int 0,.int 0],.tup [.int 5,.int 0,.int 0]]],.tup [.str [51],.int 2,.lst []],.tup [.int n,.str [50],.lst []]] ++
 [.tup [.int n,.int k,.dct [] []],.tup [.int n,.int k,.lst [.tup [.int 5,.int (-1),.int 0]]],.tup [.int n,.int k,.lst [.tup [.int (-1),.int 0,.int 0]]],.tup [.int n,.int k,.lst [.tup [.int (Z30+1),.int 0,.int 0]]],.dct [] [],.tup []]
noncomputable def qe (n:Nat):List Dat:=[.tup [.bl true,.int 0,.int ((n:Int)-1)],.tup [.int 5,.bl false,.int ((n:Int)-1)],.tup [.int 5,.int 0,.str [49]],.tup [.int 5,.int 0,.non],.tup [.str [53],.int 0,.int ((n:Int)-1)],.tup [.int 5,.tup [.int 0],.int ((n:Int)-1)]]
theorem yR (n k:Nat) (n1:1≤n) (n10:n≤10) (k1:1≤k) (k6:k≤6) (K:List Tie):∀ d∈uf n k K,bE [d]=some (.val (.bl false)):=by
 have ly:=bV k (by omega) (by omega)
 have l2:=bV 2 (by omega) (by omega)
 have l1:=bV 1 (by omega) (by omega)
 have nt:∀ r:List Tie,r.length≤60→judge n k r=false→bE [.tup [.int n,.int k,aM r]]=some (.val (.bl false)):=fun r hl h=>by
  have:=n5 n k r hl
  rw [h] at this
  exact this
 have jt:∀ r:List Tie,(r.all fun t=>decide (TOk n t))=false→judge n k r=false:=fun r h=>by unfold judge;rw [h];simp
 intro d hd
 unfold uf at hd
 simp only [List.cons_append,List.nil_append,List.mem_cons,List.not_mem_nil,or_false] at hd
 rcases hd with rfl | rfl | rfl | rfl | rfl | rfl | rfl | rfl | rfl | rfl | rfl | rfl | rfl | rfl | rfl | rfl | rfl | rfl | rfl | rfl | rfl | rfl | rfl | rfl | rfl | rfl
 ·exact d_ _ rfl
 ·exact d_ _ rfl
 ·exact d_ _ rfl
 ·exact d_ _ rfl
 ·exact mq [.int n,.int k] (by simp) (by simp)
 ·exact mq [.int n,.int k,aM K,.int 0] (by simp) (by simp)
 ·exact cz _ _ _ ly (dF _ _ (eN _ (cX 0 1 10 (by decide))))
 ·exact cz _ _ _ ly (dF _ _ (eN _ (cX 11 1 10 (by decide))))
 ·exact cz _ _ _ l1 (dF _ _ (eN _ (cA _ _ _ rfl)))
 ·exact ir _ _ _ (eH _ (cX 0 1 6 (by decide)))
 ·exact ir _ _ _ (eH _ (cX 7 1 6 (by decide)))
 ·exact ir _ _ _ (eH _ (cA _ _ _ rfl))
 ·exact cz _ _ _ ly (jh n n1 n10 _ rfl)
 ·exact cz _ _ _ ly (jh n n1 n10 _ rfl)
 ·exact nt [⟨5,0,n⟩] (by simp) (jt _ (by simp [TOk]))
 ·refine nt [⟨5,0,0⟩] (by decide) ?_
  unfold judge
  have:(0:Int)∈nums k [⟨5,0,0⟩]:=ue k1 rfl (cJ k [⟨5,0,0⟩])
  rw [Int.toNat_natCast]
  simp [this]
 ·exact cz _ _ _ ly (rV n n1 n10 _ (ji _ _ rfl))
 ·refine nt [⟨7,0,0⟩,⟨5,0,0⟩] (by decide) ?_
  have:upB [⟨7,0,0⟩,⟨5,0,0⟩]=false:=by decide
  unfold judge
  rw [this]
  simp
 ·exact cz _ _ _ l2 (dF _ _ (eN _ (cA _ _ _ rfl)))
 ·exact ir _ _ _ (eH _ (cA _ _ _ rfl))
 ·exact cz _ _ _ ly (jh n n1 n10 _ rfl)
 ·exact nt [⟨5,-1,0⟩] (by decide) (jt _ (by simp [TOk]))
 ·exact nt [⟨-1,0,0⟩] (by decide) (jt _ (by simp [TOk]))
 ·refine nt [⟨Z30+1,0,0⟩] (by decide) (jt _ ?_)
  rw [List.all_cons,decide_eq_false (p:=TOk n ⟨Z30+1,0,0⟩) fun h=>by have:=h.1.2;dsimp only at this;omega]
  rfl
 ·exact d_ _ rfl
 ·exact mq [] (by decide) (by decide)
theorem yS (n k:Nat) (n1:1≤n) (n10:n≤10) (k1:1≤k) (k6:k≤6):∀ t∈qe n,bE [.tup [.int n,.int k,.lst [t]]]=some (.val (.bl false)):=by
 have ly:=bV k (by omega) (by omega)
 intro t ht
 refine cz _ _ _ ly (rV n n1 n10 _ (ji _ _ ?_))
 unfold qe at ht
 simp only [List.mem_cons,List.not_mem_nil,or_false] at ht
 have p0:=jd n 0 (by decide) (by omega)
 have m5:=kQ 5 (by decide) (by decide)
 have go:∀ (a b c:Dat) (x y z:Bool),(x&&y&&z)=false→p9 [a]=some (.val (.bl x))→(x=true→lY [.int n,b]=some (.val (.bl y)))→(x=true→y=true→lY [.int n,c]=some (.val (.bl z)))→lZ [.int n,.tup [a,b,c]]=some (.val (.bl false)):=fun a b c x y z h h1 h2 h3=>by
  apply Wr.eq
  unfold lZ
  (refine Dm.Wr.fn ?_ rfl rfl;dsimp only [List.map,List.replicate,List.cons_append,List.nil_append])
  refine Ws.seq (Ws.If (Wt.Or (Wt.Not (Wt.V (We.e1 (We.v rfl (Wg1.mk (v:=.val (.bl true)) (Wb.mk (Wif.f ?_)) rfl rfl)))))))
  refine Wt.V (We.e2 (We.B (Was.cons (We.v rfl (Was.nil (WB.iZ ?_ rfl))))))
  refine We.c (Wg2.ne (Wb.mk (Wif.no rfl ?_)) rfl rfl)
  refine Ws.nx (Ws.R (We.And (We.F (Was.cons (We.e2 (We.v rfl (We.c (Wg2.ix (v:=a) ?_ rfl rfl rfl))))))))
  refine Was.nil (WF.val h1 (Wb.mk ?_) rfl rfl)
  cases x with
  | false=>exact Wif.f rfl
  | true=>
   refine Wif.t (We.And (We.F (Was.cons (We.v rfl (Was.cons (We.e2 (We.v rfl (We.c (Wg2.ix (v:=b) ?_ rfl rfl rfl)))))))))
   refine Was.nil (WF.val (h2 rfl) (Wb.mk ?_) rfl rfl)
   cases y with
   | false=>exact Wif.f rfl
   | true=>
    refine Wif.t (We.F (Was.cons (We.v rfl (Was.cons (We.e2 (We.v rfl (We.c (Wg2.ix (v:=c) ?_ rfl rfl rfl))))))))
    have hz:z=false:=h
    subst hz
    exact Was.nil (WF.val (h3 rfl rfl) rfl rfl rfl)
 rcases ht with rfl | rfl | rfl | rfl | rfl | rfl
 ·exact go _ _ _ false false false rfl rfl (fun h=>by cases h) (fun h=>by cases h)
 ·exact go _ _ _ true false false rfl m5 (fun _=>rfl) (fun _ h=>by cases h)
 ·exact go _ _ _ true true false rfl m5 (fun _=>p0) (fun _ _=>rfl)
 ·exact go _ _ _ true true false rfl m5 (fun _=>p0) (fun _ _=>rfl)
 ·exact go _ _ _ false false false rfl rfl (fun h=>by cases h) (fun h=>by cases h)
 ·exact go _ _ _ true false false rfl m5 (fun _=>rfl) (fun _ h=>by cases h)
theorem BP {b:Nat} {d:Dat} (h:aB (b+1) d) (n k:Nat) (n1:1≤n) (n10:n≤10) (k1:1≤k) (k6:k≤6) (K:List Tie) (lK:K.length≤60) :
  ∃ (v d':Dat),nV [d,nX n k K]=some (.val v,d')∧bE [v]=some (.val (.bl false))∧aB b d':=by
 suffices hh:WrM (nV [d,nX n k K]) fun v d'=>∃ u,v=.val u∧bE [u]=some (.val (.bl false))∧aB b d' by
  obtain ⟨v,d',h1,u,rfl,h2⟩:=hh
  exact ⟨u,d',h1,h2⟩
 unfold nV
 refine WrM.fn ?_ rfl rfl
 dsimp only [List.map,List.replicate,List.cons_append,List.nil_append]
 unfold nX
 refine Ws.seq (Ws.U (We.v rfl (Wk.val ⟨_,_,rfl,rfl,?_⟩)))
 refine Ws.seq (Ws.A ⟨_,_,rfl,WA.new ?_ (by first | (dsimp only [List.set];first | done | rfl) | rfl)⟩ (by decide))
 refine Ws.seq (Ws.A ⟨_,_,rfl,WA.new ?_ (by first | (dsimp only [List.set];first | done | rfl) | rfl)⟩ (by decide))
 refine Ws.seq (Ws.A ⟨_,_,rfl,WA.new ?_ (by first | (dsimp only [List.set];first | done | rfl) | rfl)⟩ (by decide))
 refine Ws.seq (Ws.A ⟨_,_,rfl,WA.new ?_ (by first | (dsimp only [List.set];first | done | rfl) | rfl)⟩ (by decide))
 show Ws _ [_,_,_,_,_,.ow (.lst (uf n k K)),_] _ _ _ _
 have n1':=yR n k n1 n10 k1 k6 K
 have hL:(uf n k K).length=26:=by unfold uf;simp
 generalize uf n k K=L at n1' hL ⊢
 refine Ws.seq (Ws.For (Wi.S ⟨_,_,rfl,Wk.new ⟨_,rfl,?_⟩⟩))
 refine Ws.inv (fun x:Dat=>x) _ _ (qe n) _ _ _ _ _ (fun p q ρ=>∃ c6:Cell,ρ=[.ow d,.sh (.tup [.int n,.int k,aM K]),.sh (.int n),.sh (.int k),.sh (aM K),.ow (.lst (L++p.map fun t=>.tup [.int n,.int k,.lst [t]])),c6]) ⟨_,by rw [List.map_nil,List.append_nil]⟩ ?_ ?_
 ·rintro p i q ρ e ⟨c6,rfl⟩
  refine Dm.cj rfl (by first | (dsimp only [List.set];first | done | rfl) | rfl) ?_
  unfold vV
  have lp:p.length≤6:=by
   have:=congrArg List.length e
   rw [List.length_append,List.length_cons] at this
   have h6:(qe n).length=6:=rfl
   omega
  refine Ws.App (We.T (Was.cons (We.v rfl (Was.cons (We.v rfl (Was.cons (We.L (Was.cons (We.v rfl (Was.nil (WT.mk ?_ rfl rfl (by exact Nat.le_of_ble_eq_true rfl)))))))))))) rfl
  refine Was.nil (WT.mk ?_ rfl rfl (by exact Nat.le_of_ble_eq_true rfl))
  refine Wk.val (lV (ds:=L++p.map fun t=>.tup [.int n,.int k,.lst [t]]) ?_ rfl rfl ?_)
  ·exact ⟨_,by rw [List.map_append,← List.append_assoc];rfl⟩
  ·rw [List.length_append,List.length_map,hL]
   unfold SZ
   omega
 ·rintro ρ ⟨c6,rfl⟩
  have all:∀ d∈L++(qe n).map fun t=>.tup [.int n,.int k,.lst [t]],bE [d]=some (.val (.bl false)):=fun d hd=>by
   rcases List.mem_append.mp hd with hd | hd
   ·exact n1' d hd
   ·obtain ⟨t,ht,rfl⟩:=List.mem_map.mp hd
    exact yS n k n1 n10 k1 k6 t ht
  have hL2:(L++(qe n).map fun t=>Dat.tup [.int n,.int k,.lst [t]]).length=32:=by
   rw [List.length_append,List.length_map,hL];rfl
  generalize (L++(qe n).map fun t=>Dat.tup [.int n,.int k,.lst [t]])=M at all hL2 ⊢
  refine Ws.R (We.e2 (We.w rfl (We.tk (We.B (Was.cons (We.w rfl (Was.nil (WB.len ?_ rfl))))) rfl)))
  refine aL.mk (bz h (fun x d1 ρ3 e x0 x1 hp=>?_) rfl (by omega) (ie (by omega)))
  subst e
  have hi:x.toNat<M.length:=by omega
  have hd:gIx (.lst M) (.int x)=some (.val M[x.toNat]):=by
   unfold gIx
   dsimp only
   have:=Dm.eG id M x x0 (by omega)
   rw [List.map_id] at this
   rw [this]
   rfl
  refine Wg2.ix ?_ rfl rfl hd
  exact WR.val ⟨_,rfl,_,rfl,all _ (List.getElem_mem hi),hp⟩
theorem yT {b:Nat} {d:Dat} (h:aB (b+1) d):∃ (m:Int) (d':Dat),nS [d]=some (.val (.int m),d')∧(0≤m∧m≤40)∧aB b d':=by
 suffices hh:WrM (nS [d]) fun v d'=>∃ m:Int,v=.val (.int m)∧(0≤m∧m≤40)∧aB b d' by
  obtain ⟨v,d',h1,m,rfl,h2⟩:=hh
  exact ⟨m,d',h1,h2⟩
 unfold nS
 refine WrM.fn ?_ rfl rfl
 dsimp only [List.map,List.replicate,List.cons_append,List.nil_append]
 refine Ws.R (We.e2 ⟨_,_,rfl,We.tk (We.c (aL.mk (bz h (fun x d1 ρ3 e x0 x1 hp=>?_) rfl (by decide) (by decide)))) rfl⟩)
 subst e
 have:x=0∨x=1∨x=2∨x=3∨x=4∨x=5∨x=6∨x=7:=by omega
 rcases this with rfl | rfl | rfl | rfl | rfl | rfl | rfl | rfl<;>exact Wg2.ix (WR.val ⟨_,rfl,_,rfl,by decide,hp⟩) rfl rfl rfl
theorem mw {b:Nat} {d:Dat} (h:aB (b+407) d):∃ (n k:Nat) (r:List Tie) (d':Dat),nT [d]=some (.val (nX n k (NN k r)),d')∧((1≤n∧n≤10)∧(1≤k∧k≤6)∧Rcd n r∧r.length≤40)∧aB b d':=by
 suffices hh:WrM (nT [d]) fun v d'=>∃ (n k:Nat) (r:List Tie),v=.val (nX n k (NN k r))∧((1≤n∧n≤10)∧(1≤k∧k≤6)∧Rcd n r∧r.length≤40)∧aB b d' by
  obtain ⟨v,d',h1,n,k,r,rfl,h2⟩:=hh
  exact ⟨n,k,r,d',h1,h2⟩
 obtain ⟨n,d1,e1,⟨n1,n10⟩,p1⟩:=tW (b:=b+405) h
 obtain ⟨k,d2,e2,⟨k1,k6⟩,p2⟩:=v7 (b:=b+403) p1
 obtain ⟨m,d3,e3,⟨m0,m40⟩,p3⟩:=yT (b:=b+402) p2
 obtain ⟨r,d4,e4,⟨hr,hl,hm⟩,p4⟩:=v8 (b:=b) p3 n n1 n10 m m0 m40
 have rc:Rcd n r:=Rcd.of hr (by omega) fun t ht=>by have:=hm t ht;unfold Z30;unfold Z27 at this;omega
 have eL:=t7 n k n10 k6 r _ rc.ends (by omega) (cJ k r)
 rw [D9 (cJ k r)] at eL
 unfold nT
 refine WrM.fn ?_ rfl rfl
 dsimp only [List.map,List.replicate,List.cons_append,List.nil_append]
 refine Ws.seq (Ws.A (We.Fm (Was.nil (WFm.any e1 (WA.val ?_ (by first | (dsimp only [List.set];first | done | rfl) | rfl)) rfl rfl (by first | (dsimp only [List.set];first | done | rfl) | rfl))) rfl) (by decide))
 refine Ws.seq (Ws.A (We.Fm (Was.nil (WFm.any e2 (WA.val ?_ (by first | (dsimp only [List.set];first | done | rfl) | rfl)) rfl rfl (by first | (dsimp only [List.set];first | done | rfl) | rfl))) rfl) (by decide))
 refine Ws.R (We.F (Was.cons (We.v rfl (Was.cons (We.Fm (Was.cons (We.v rfl (Was.cons (We.Fm (Was.nil (WFm.any e3 ?_ rfl rfl (by first | (dsimp only [List.set];first | done | rfl) | rfl))) rfl)))) rfl)))))
 refine Was.nil (WFm.any e4 ?_ rfl rfl (by first | (dsimp only [List.set];first | done | rfl) | rfl))
 refine Was.cons (We.v rfl (Was.nil (WF.box eL ?_ rfl rfl rfl (by first | (dsimp only [List.set];first | done | rfl) | rfl))))
 exact WR.val ⟨_,rfl,n,k,r,rfl,⟨⟨n1,n10⟩,⟨k1,k6⟩,rc,hl⟩,p4⟩
theorem yU (ns:Dat) (y:Int) (c2 c3:Cell) {N:Env→Prop} {R:RV→Env→Prop} {B C:Env→Prop} (nx:∀ c2 c3,N [.sh ns,.sh (.int y),c2,c3]):Ws qc [.sh ns,.sh (.int y),c2,c3] N R B C:=by
 obtain ⟨d0,e0,b0,p0⟩:=wc y
 obtain ⟨n,k,r,d1,e1,⟨⟨n1,n10⟩,⟨k1,k6⟩,hr,hl⟩,p1⟩:=mw (b:=999593) p0
 have sub:=BL k r
 have hN:Net n k (NN k r):=⟨hr.sub sub,_,nZ (cJ k r),by simp⟩
 have lN:(NN k r).length≤40:=Nat.le_trans sub.length_le hl
 have bN:∀ t∈NN k r,Tb Z30 t:=fun t ht=>by
  obtain ⟨h1,h2,h3,h4,h5⟩:=hN.rc.ok t ht
  have z:(10:Int)≤Z30:=by decide
  exact ⟨⟨by omega,h2⟩,⟨by omega,by omega⟩,by omega,by omega⟩
 have z30:(100:Int)≤Z30:=by decide
 have kb:-Z30≤((k:Nat):Int)∧((k:Nat):Int)≤Z30:=⟨by omega,by omega⟩
 obtain ⟨n2,k2,q2,d2,e2,⟨a1,a2,a3,a4,a5⟩,p2⟩:=gX (b:=999579) p1 n k (by omega) (NN k r) (by omega) z30 bN kb
 obtain ⟨n3,k3,q3,d3,e3,⟨b1,b2,b3,b4,b5⟩,p3⟩:=gX (b:=999565) p2 n k (by omega) (NN k r) (by omega) z30 bN kb
 obtain ⟨n4,k4,q4,d4,e4,⟨g1,g2,g3,g4,g5⟩,p4⟩:=gX (b:=999551) p3 n3 k3 (by omega) q3 (by omega) (c:=Z30+200) (by omega) b5 ⟨by omega,by omega⟩
 obtain ⟨v5,d5,e5,no5,p5⟩:=BP (b:=999550) p4 n k n1 n10 k1 k6 (NN k r) (by omega)
 have zz:Z30+400≤Z40:=by decide
 have r1:=jf (n:=n2) (k:=k2) (r:=q2) ⟨by omega,by omega⟩ ⟨by omega,by omega⟩ (fun t ht=>(a5 t ht).up (by omega)) (by omega)
 have r3:=jf (n:=n4) (k:=k4) (r:=q4) ⟨by omega,by omega⟩ ⟨by omega,by omega⟩ (fun t ht=>(g5 t ht).up (by omega)) (by omega)
 have lc:=gD (NN k r) none (some 2)
 have r2:=jf (n:=n) (k:=k) (r:=dM (NN k r) none (some 2)++[⟨Z30,0,(n:Int)-1⟩]) ⟨by omega,by omega⟩ ⟨by omega,by omega⟩ (fun t ht=>by
  rcases List.mem_append.mp ht with h | h
  ·exact (bN t (cY h)).up (by omega)
  ·rw [List.mem_singleton.mp h]
   refine ⟨⟨?_,?_⟩,⟨?_,?_⟩,?_,?_⟩<;>dsimp only<;>omega) (by rw [List.length_append,List.length_singleton];omega)
 unfold qc
 refine Ws.seq (Ws.A (We.F (Was.cons (We.v rfl (Was.nil (WF.box e0 (WA.new ?_ (by first | (dsimp only [List.set];first | done | rfl) | rfl)) rfl b0 rfl rfl))))) (by decide))
 refine Ws.seq (Ws.A (We.Fm (Was.nil (WFm.any e1 (WA.val ?_ (by first | (dsimp only [List.set];first | done | rfl) | rfl)) rfl rfl (by first | (dsimp only [List.set];first | done | rfl) | rfl))) rfl) (by decide))
 refine Ws.seq (Ws.If (Wt.Or (Wt.V (We.e2 (We.F (Was.cons (We.v rfl (Was.nil (WF.val (ua n k n1 n10 k1 k6 _ hN) ?_ rfl rfl)))))))))
 refine We.c (Wg2.p7 (i:=true) (j:=true) (Wb.mk (Wif.f ?_)) rfl rfl)
 refine Wt.Not (Wt.V (We.F (Was.cons (We.Fm (Was.cons (We.v rfl (Was.nil (WFm.any e2 ?_ rfl rfl (by first | (dsimp only [List.set];first | done | rfl) | rfl))))) rfl))))
 refine Was.nil (WF.val r1 (Wb.mk (Wif.f (Ws.nx ?_))) rfl rfl)
 refine Ws.seq (Ws.If (Wt.Not (Wt.V (We.F (Was.cons (We.T (Was.cons (We.e2 (We.v rfl (We.c (Wg2.ix (v:=.int n) ?_ rfl rfl rfl)))))))))))
 refine Was.cons (We.e2 (We.v rfl (We.c (Wg2.ix (v:=.int k) ?_ rfl rfl rfl))))
 refine Was.cons (We.e2 (We.Sl (We.e2 (We.v rfl (We.c (Wg2.ix (v:=aM (NN k r)) (Wp.none (Wp.some (We.c (aL.mk (Wsl.A (enc:=aO) (xs:=NN k r) ?_ rfl))))) rfl rfl rfl))))))
 refine We.L (Was.cons (We.T (Was.cons (We.e2 (We.c (We.c (Wg2.pow (z:=Z30) ?_ rfl rfl (by decide) (by decide))))))))
 refine Was.cons (We.c (Was.cons (We.e2 (We.e2 (We.v rfl (We.c (Wg2.ix (v:=.int n) (We.c (Wg2.sub ?_ rfl rfl)) rfl rfl rfl)))))))
 refine Was.nil (WT.mk (Was.nil (WT.mk ?_ rfl rfl (by exact Nat.le_of_ble_eq_true rfl))) rfl rfl (by exact Nat.le_of_ble_eq_true rfl))
 refine Wg2.yP (X:=dM (NN k r) none (some 2)) (Y:=[⟨Z30,0,(n:Int)-1⟩]) ?_ rfl rfl (by simp;omega)
 refine Was.nil (WT.mk ?_ rfl rfl (by exact Nat.le_of_ble_eq_true rfl))
 refine Was.nil (WF.val r2 (Wb.mk (Wif.f (Ws.nx ?_))) rfl rfl)
 refine Ws.If (Wt.Or (Wt.Not (Wt.V (We.F (Was.cons (We.Fm (Was.cons (We.Fm (Was.cons (We.v rfl (Was.nil (WFm.any e3 ?_ rfl rfl (by first | (dsimp only [List.set];first | done | rfl) | rfl))))) rfl)) rfl))))))
 refine Was.nil (WFm.any e4 ?_ rfl rfl (by first | (dsimp only [List.set];first | done | rfl) | rfl))
 refine Was.nil (WF.val r3 (Wb.mk (Wif.f ?_)) rfl rfl)
 refine Wt.V (We.e2 (We.F (Was.cons (We.Fm (Was.cons (We.v rfl (Was.nil (WFm.any e5 ?_ rfl rfl (by first | (dsimp only [List.set];first | done | rfl) | rfl))))) rfl))))
 refine Was.nil (WF.val no5 (We.c (Wg2.p7 (i:=false) (j:=false) (Wb.mk (Wif.f (Ws.nx (nx _ _)))) rfl rfl)) rfl rfl)
theorem math (ns:List Int) (h:ns.length≤63):i7 [.lst (ns.map Dat.int)]=some (.val (.bl true)):=by
 obtain ⟨cs,ec,lc⟩:=tY ns h
 apply Wr.eq
 unfold i7
 (refine Dm.Wr.fn ?_ rfl rfl;dsimp only [List.map,List.replicate,List.cons_append,List.nil_append])
 refine Ws.seq (Ws.For (Wi.S (We.F (Was.cons (We.v rfl (Was.cons (We.c (Was.nil (WF.box ec ?_ rfl rfl rfl rfl)))))))))
 refine Wk.new ⟨_,rfl,?_⟩
 refine Ws.inv Dat.int _ _ cs _ _ _ _ _ (fun p q ρ=>∃ c1 c2 c3:Cell,ρ=[.sh (.lst (ns.map Dat.int)),c1,c2,c3]) ⟨_,_,_,rfl⟩ ?_ ?_
 ·rintro p i q ρ e ⟨c1,c2,c3,rfl⟩
  refine Dm.cj rfl (by first | (dsimp only [List.set];first | done | rfl) | rfl) ?_
  exact yU _ _ _ _ fun c2 c3=>⟨_,_,_,rfl⟩
 ·rintro ρ ⟨c1,c2,c3,rfl⟩
  exact Ws.R (We.c rfl)
end P
set_option maxHeartbeats 4000000
namespace Q
open PySem L2 Br Dm P
noncomputable def top (i:Nat):Stmt:=PySem.Challenge.pw_sinceply_k18_nets_known.main.body.getD i (.Pass ⟨0,0,0,0⟩)
structure Txt (mg:Str→Option Value) (K:PySem.W.Frag) (base:Heap) (qf qg qh qi qj qk ql qm qo qp jj jl jm jn jo jq jr ju jv jx jy jz jA jB jC jD jE jF jG jH jI jJ jK jL jM:Addr) (jN jO jP jQ jR jS jT jU jV jW fk fm fq fu fy fB fC fD fE fF fG fH fJ fK fL fM fN fO fP fQ fR fS fT fU gY:FuncData):Prop where
 zP:mg "abs" = none
 n9:mg "all" = none
 qq:mg "bool" = none
 ia:mg "enumerate" = none
 kT:mg "int" = none
 aP:mg "isinstance" = none
 bY:mg "len" = none
 fV:mg "list" = none
 n_:mg "max" = none
 wz:mg "min" = none
 bW:mg "range" = none
 fW:mg "reversed" = none
 wA:mg "sorted" = none
 zQ:mg "str" = none
 gE:mg "tuple" = none
 Ea:mg "zip" = none
 jX:∃ t,mg "MOST_TIES" = some (.int 60 t)
 FP:mg "is_whole" = some (.ref qf)
 yV:mg "is_within" = some (.ref qg)
 FQ:mg "is_places" = some (.ref qh)
 Eb:mg "is_place" = some (.ref qi)
 Ec:mg "is_layers" = some (.ref qj)
 FU:mg "is_moment" = some (.ref qk)
 FW:mg "is_tie_either_way" = some (.ref ql)
 FY:mg "is_tie" = some (.ref qm)
 FZ:mg "is_rising" = some (.ref qo)
 F0:mg "look_at_layers" = some (.ref qp)
 Ed:mg "merged" = some (.ref jj)
 Ef:mg "least_layer" = some (.ref jl)
 Eg:mg "layered" = some (.ref jm)
 Eh:mg "is_record" = some (.ref jn)
 wB:mg "is_net" = some (.ref jo)
 Ei:mg "_law_folded" = some (.ref jq)
 Ej:mg "_law_begun" = some (.ref jr)
 bK:mg "_law_take" = some (.ref ju)
 Ek:mg "_law_wide" = some (.ref jv)
 El:mg "_law_places" = some (.ref jx)
 Em:mg "_law_depth" = some (.ref jy)
 wC:mg "_law_ends" = some (.ref jz)
 Eo:mg "_law_drawn_ties" = some (.ref jA)
 Ep:mg "_law_most" = some (.ref jB)
 zR:mg "_law_layers_of" = some (.ref jC)
 Er:mg "_law_net_of" = some (.ref jD)
 Es:mg "_law_drawn_net" = some (.ref jE)
 Et:mg "_law_new_tie" = some (.ref jF)
 wD:mg "_law_whole" = some (.ref jG)
 Eu:mg "_law_is_tie" = some (.ref jH)
 Ew:mg "_law_is_net" = some (.ref jI)
 Ex:mg "_law_odd_net" = some (.ref jJ)
 wF:mg "_law_spoilt" = some (.ref jK)
 wG:mg "_law_right" = some (.ref jL)
 F4:mg "law" = some (.ref jM)
 Ey:Fun K "is_whole" "is_whole" (top 4) qf jN
 BQ:Binds K jN ["thing"] []
 wH:Fun K "is_within" "is_within" (top 5) qg jO
 ug:Binds K jO ["thing","low","high"] []
 Ez:Fun K "is_places" "is_places" (top 6) qh jP
 BR:Fun K "is_place" "is_place" (top 7) qi jQ
 BS:Fun K "is_layers" "is_layers" (top 8) qj jR
 EA:Fun K "is_moment" "is_moment" (top 9) qk jS
 yW:Binds K jQ ["n","thing"] []
 BU:Binds K jS ["thing"] []
 EB:Fun K "is_tie_either_way" "is_tie_either_way" (top 10) ql jT
 BV:Binds K jT ["n","thing"] []
 EC:Fun K "is_tie" "is_tie" (top 11) qm jU
 ED:Fun K "is_rising" "is_rising" (top 12) qo jV
 yX:Binds K jR ["thing"] []
 EE:Fun K "look_at_layers" "look_at_layers" (top 13) qp jW
 zS:Fun K "merged" "merged" (top 15) jj fk
 zT:Fun K "least_layer" "least_layer" (top 18) jl fm
 BW:Binds K jW ["k"] []
 wI:Binds K fk ["groups","a","b"] []
 wJ:Binds K fm ["layers","a","b"] []
 zU:Fun K "layered" "layered" (top 17) jm fq
 BX:Binds K jP ["thing"] []
 BY:Binds K jU ["n","thing"] []
 BZ:Binds K jV ["things"] []
 zV:Fun K "is_record" "is_record" (top 21) jn fu
 wK:Binds K fq ["n","record","k"] []
 wL:Binds K fu ["n","thing"] []
 rW:Fun K "is_net" "is_net" (top 23) jo fy
 zW:Fun K "_law_folded" "_law_folded" (top 25) jq fB
 zX:Fun K "_law_begun" "_law_begun" (top 26) jr fC
 bF:Fun K "_law_take" "_law_take" (top 27) ju fD
 bC:Binds K fD ["pot","size"] []
 zY:Fun K "_law_wide" "_law_wide" (top 28) jv fE
 zZ:Fun K "_law_places" "_law_places" (top 29) jx fF
 z3:Fun K "_law_depth" "_law_depth" (top 30) jy fG
 rX:Fun K "_law_ends" "_law_ends" (top 31) jz fH
 wM:Binds K fE ["pot","size"] []
 oh:Binds K fH ["pot","n","ties"] []
 z4:Fun K "_law_drawn_ties" "_law_drawn_ties" (top 32) jA fJ
 z5:Fun K "_law_most" "_law_most" (top 33) jB fK
 wN:Fun K "_law_layers_of" "_law_layers_of" (top 34) jC fL
 rY:Binds K fL ["n","ties","k"] []
 z6:Fun K "_law_net_of" "_law_net_of" (top 35) jD fM
 wO:Binds K fF ["pot"] []
 wQ:Binds K fG ["pot"] []
 wR:Binds K fJ ["pot","n","most"] []
 wU:Binds K fK ["pot"] []
 wV:Binds K fM ["n","ties","k"] []
 z7:Fun K "_law_drawn_net" "_law_drawn_net" (top 36) jE fN
 z8:Fun K "_law_new_tie" "_law_new_tie" (top 37) jF fO
 rZ:Fun K "_law_whole" "_law_whole" (top 38) jG fP
 oj:Binds K fP ["thing"] []
 z9:Fun K "_law_is_tie" "_law_is_tie" (top 39) jH fQ
 wW:Binds K fQ ["n","thing"] []
 z_:Fun K "_law_is_net" "_law_is_net" (top 40) jI fR
 Aa:Fun K "_law_odd_net" "_law_odd_net" (top 41) jJ fS
 wX:Binds K fO ["pot","n","ties"] []
 r8:Fun K "_law_spoilt" "_law_spoilt" (top 42) jK fT
 oq:Binds K fy ["thing"] []
 wY:Binds K fR ["thing"] []
 r9:Fun K "_law_right" "_law_right" (top 43) jL fU
 wZ:Binds K fB ["cells","many"] []
 w4:Binds K fC ["cell"] []
 w6:Binds K fN ["pot"] []
 w_:Binds K fS ["pot","net"] []
 ou:Binds K fT ["pot","net"] []
 oz:Binds K fU ["thing"] []
 EF:Fun K "law" "law" (top 44) jM gY
section
variable {P':Program} {w:World} {K:PySem.W.Frag} {mg:Str→Option Value} {base:Heap} {qf qg qh qi qj qk ql qm qo qp jj jl jm jn jo jq jr ju jv jx jy jz jA jB jC jD jE jF jG jH jI jJ jK jL jM:Addr}
variable {jN jO jP jQ jR jS jT jU jV jW fk fm fq fu fy fB fC fD fE fF fG fH fJ fK fL fM fN fO fP fQ fR fS fT fU gY:FuncData}
theorem EG:aq ["thing"] ["thing"] (ai (top 4)):=fsc rfl rfl rfl rfl (by decide +kernel)
theorem EH:aq ["thing","low","high"] ["thing","low","high"] (ai (top 5)):=fsc rfl rfl rfl rfl (by decide +kernel)
theorem EI:aq ["thing"] ["thing"] (ai (top 6)):=fsc rfl rfl rfl rfl (by decide +kernel)
theorem EJ:aq ["n","thing"] ["n","thing"] (ai (top 7)):=fsc rfl rfl rfl rfl (by decide +kernel)
theorem EK:aq ["thing"] ["thing"] (ai (top 8)):=fsc rfl rfl rfl rfl (by decide +kernel)
theorem EL:aq ["thing"] ["thing"] (ai (top 9)):=fsc rfl rfl rfl rfl (by decide +kernel)
theorem EM:aq ["n","thing"] ["n","thing"] (ai (top 10)):=fsc rfl rfl rfl rfl (by decide +kernel)
theorem EN:aq ["n","thing"] ["n","thing"] (ai (top 11)):=fsc rfl rfl rfl rfl (by decide +kernel)
theorem EO:aq ["things"] ["things"] (ai (top 12)):=fsc rfl rfl rfl rfl (by decide +kernel)
theorem B0:(["things","at"]:List Str).Nodup:=by decide +kernel
theorem ER:aq ["k"] ["k"] (ai (top 13)):=fsc rfl rfl rfl rfl (by decide +kernel)
theorem B3:aq ["groups","a","b"] ["groups","a","b"] (ai (top 15)):=fsc rfl rfl rfl rfl (by decide +kernel)
theorem yY:(["groups","a","b","group"]:List Str).Nodup:=by decide +kernel
theorem qt:aq ["layers","a","b","at","groups"] ["layers","a","b"] (ai (top 18)):=fsc rfl rfl rfl rfl (by decide +kernel)
theorem fX:aq ["n","record","k","layers","numbers","moment","a","b","number"] ["n","record","k"] (ai (top 17)):=fsc rfl rfl rfl rfl (by decide +kernel)
theorem yZ:(["n","record","k","layers","numbers","moment","a","b","number","layer"]:List Str).Nodup:=by decide +kernel
theorem B4:aq ["n","thing"] ["n","thing"] (ai (top 21)):=fsc rfl rfl rfl rfl (by decide +kernel)
theorem y9:(["n","thing","tie"]:List Str).Nodup:=by decide +kernel
theorem y_:(["n","thing","tie"]:List Str).Nodup:=by decide +kernel
theorem B5:aq ["thing"] ["thing"] (ai (top 23)):=fsc rfl rfl rfl rfl (by decide +kernel)
theorem mz:aq ["cells","many","found","k","cell"] ["cells","many"] (ai (top 25)):=fsc rfl rfl rfl rfl (by decide +kernel)
theorem qu:aq ["cell","rest"] ["cell"] (ai (top 26)):=fsc rfl rfl rfl rfl (by decide +kernel)
theorem mC:aq ["pot","size","digit","mixed"] ["pot","size"] (ai (top 27)):=fsc rfl rfl rfl rfl (by decide +kernel)
theorem mD:aq ["pot","size","number","turn"] ["pot","size"] (ai (top 28)):=fsc rfl rfl rfl rfl (by decide +kernel)
theorem B6:aq ["pot"] ["pot"] (ai (top 29)):=fsc rfl rfl rfl rfl (by decide +kernel)
theorem B7:aq ["pot"] ["pot"] (ai (top 30)):=fsc rfl rfl rfl rfl (by decide +kernel)
theorem gZ:aq ["pot","n","ties","a","b","moment"] ["pot","n","ties"] (ai (top 31)):=fsc rfl rfl rfl rfl (by decide +kernel)
theorem dG:aq ["pot","n","most","moment","found","turn","step","a","b"] ["pot","n","most"] (ai (top 32)):=fsc rfl rfl rfl rfl (by decide +kernel)
theorem B8:aq ["pot"] ["pot"] (ai (top 33)):=fsc rfl rfl rfl rfl (by decide +kernel)
theorem cR:aq ["n","ties","k","labels","numbers","at","moment","a","b","layer","old","new"] ["n","ties","k"] (ai (top 34)):=fsc rfl rfl rfl rfl (by decide +kernel)
theorem za:(["n","ties","k","labels","numbers","at","moment","a","b","%9","old","new","layer"]:List Str).Nodup:=by decide +kernel
theorem zb:(["n","ties","k","labels","numbers","at","moment","a","b","layer","old","new","one"]:List Str).Nodup:=by decide +kernel
theorem xg:aq ["n","ties","k","numbers"] ["n","ties","k"] (ai (top 35)):=fsc rfl rfl rfl rfl (by decide +kernel)
theorem r_:(["n","ties","k","numbers","tie","number"]:List Str).Nodup:=by decide +kernel
theorem qv:aq ["pot","n","k"] ["pot"] (ai (top 36)):=fsc rfl rfl rfl rfl (by decide +kernel)
theorem ek:aq ["pot","n","ties","some","moment","turn","a","b"] ["pot","n","ties"] (ai (top 37)):=fsc rfl rfl rfl rfl (by decide +kernel)
theorem zc:(["pot","n","ties","some","moment","turn","a","b","tie"]:List Str).Nodup:=by decide +kernel
theorem B9:aq ["thing"] ["thing"] (ai (top 38)):=fsc rfl rfl rfl rfl (by decide +kernel)
theorem B_:aq ["n","thing"] ["n","thing"] (ai (top 39)):=fsc rfl rfl rfl rfl (by decide +kernel)
theorem zd:(["n","thing","part"]:List Str).Nodup:=by decide +kernel
theorem mE:aq ["thing","n","k","ties"] ["thing"] (ai (top 40)):=fsc rfl rfl rfl rfl (by decide +kernel)
theorem ze:(["thing","n","k","ties","tie"]:List Str).Nodup:=by decide +kernel
theorem zf:(["thing","n","k","ties","at"]:List Str).Nodup:=by decide +kernel
theorem dH:aq ["pot","net","n","k","ties","some","tie"] ["pot","net"] (ai (top 41)):=fsc rfl rfl rfl rfl (by decide +kernel)
theorem b_:aq ["pot","net","n","k","ties","places","made","turn","at","a","b"] ["pot","net"] (ai (top 42)):=fsc rfl rfl rfl rfl (by decide +kernel)
theorem qw:aq ["thing","kept","found"] ["thing"] (ai (top 43)):=fsc rfl rfl rfl rfl (by decide +kernel)
theorem mF:aq ["script","cell","pot","net"] ["script"] (ai (top 44)):=fsc rfl rfl rfl rfl (by decide +kernel)
variable (T:Txt mg K base qf qg qh qi qj qk ql qm qo qp jj jl jm jn jo jq jr ju jv jx jy jz jA jB jC jD jE jF jG jH jI jJ jK jL jM jN jO jP jQ jR jS jT jU jV jW fk fm fq fu fy fB fC fD fE fF fG fH fJ fK fL fM fN fO fP fQ fR fS fT fU gY)
include T
theorem ES :
  aY P' w K mg base CX0 1 qf jN ["thing"] (spD vM):=by
 refine T.Ey.ok EG (fun vs H Q E h=>aU h) (fun cdv A outer s H vs Q E hr h=>?_)
 exact ⟨_,(aj (s_r (dX (dY qX (by rfl) rfl T.kT rfl T.aP (d_v 0)) (iI (zC (dY iK (by rfl) rfl T.qq rfl T.aP (d_v 0))))))),cy (n:=1) (m:=0) rfl h⟩
theorem sd :
  aY P' w K mg base CX0 2 qg jO ["thing","low","high"] (spD gy):=by
 refine T.wH.ok EH (fun vs H Q E h=>aU h) (fun cdv A outer s H vs Q E hr h=>?_)
 exact ⟨_,(aj (s_r (dX (aH (ES T) (Br.hm hr) rfl T.FP T.Ey.kp T.BQ (aa (d_v 0) af)) (iI (qZ f7 gn f7 gn (d_v 1) (d_v 0) (d_v 2)))))),cy (n:=3) (m:=0) rfl h⟩
theorem ET :
  aY P' w K mg base CX0 3 qh jP ["thing"] (spD lX):=by
 refine T.Ez.ok EI (fun vs H Q E h=>aU h) (fun cdv A outer s H vs Q E hr h=>?_)
 exact ⟨_,(aj (s_r (aH (sd T) (Br.hm hr) rfl T.yV T.wH.kp T.ug (aa (d_v 0) (aa d_i (aa d_i af)))))),cy (n:=1) (m:=0) rfl h⟩
theorem Ab :
  aY P' w K mg base CX0 3 qi jQ ["n","thing"] (spD lY):=by
 refine T.BR.ok EJ (fun vs H Q E h=>aU h) (fun cdv A outer s H vs Q E hr h=>?_)
 exact ⟨_,(aj (s_r (aH (sd T) (Br.hm hr) rfl T.yV T.wH.kp T.ug (aa (d_v 1) (aa d_i (aa (cH (d_v 0) d_i) af)))))),cy (n:=2) (m:=0) rfl h⟩
theorem Ac :
  aY P' w K mg base CX0 3 qj jR ["thing"] (spD gS):=by
 refine T.BS.ok EK (fun vs H Q E h=>aU h) (fun cdv A outer s H vs Q E hr h=>?_)
 exact ⟨_,(aj (s_r (aH (sd T) (Br.hm hr) rfl T.yV T.wH.kp T.ug (aa (d_v 0) (aa d_i (aa d_i af)))))),cy (n:=1) (m:=0) rfl h⟩
theorem EU :
  aY P' w K mg base CX0 3 qk jS ["thing"] (spD p9):=by
 refine T.EA.ok EL (fun vs H Q E h=>aU h) (fun cdv A outer s H vs Q E hr h=>?_)
 exact ⟨_,(aj (s_r (aH (sd T) (Br.hm hr) rfl T.yV T.wH.kp T.ug (aa (d_v 0) (aa d_i (aa (g8 d_i d_i) af)))))),cy (n:=1) (m:=0) rfl h⟩
theorem EV :
  aY P' w K mg base CX0 4 ql jT ["n","thing"] (spD lZ):=by
 refine T.EB.ok EM (fun vs H Q E h=>aU h) (fun cdv A outer s H vs Q E hr h=>?_)
 exact ⟨_,(ah (bU (t_w (w_or (bJ (bS (dY kit_tuple (by rfl) rfl T.gE rfl T.aP (d_v 1)))) (eY (lH hr (bX rfl T.bY (aa (d_v 1) af)) d_i)))) (aj (s_r d_b)) bg)
  (aj (s_r (dX (aH (EU T) (Br.hm hr) rfl T.FU T.EA.kp T.BU (aa (aN (d_v 1) d_i) af)) (dX (aH (Ab T) (Br.hm hr) rfl T.Eb T.BR.kp T.yW (aa (d_v 0) (aa (aN (d_v 1) d_i) af))) (iI (aH (Ab T) (Br.hm hr) rfl T.Eb T.BR.kp T.yW (aa (d_v 0) (aa (aN (d_v 1) d_i) af))))))))),cy (n:=2) (m:=0) rfl h⟩
theorem EW :
  aY P' w K mg base CX0 5 qm jU ["n","thing"] (spD l6):=by
 refine T.EC.ok EN (fun vs H Q E h=>aU h) (fun cdv A outer s H vs Q E hr h=>?_)
 exact ⟨_,(aj (s_r (dX (aH (EV T) (Br.hm hr) rfl T.FW T.EB.kp T.BV (aa (d_v 0) (aa (d_v 1) af))) (iI (Bd (aN (d_v 1) d_i) (aN (d_v 1) d_i)))))),cy (n:=2) (m:=0) rfl h⟩
theorem EX :
  aY P' w K mg base CX0 1 qo jV ["things"] (spD tS):=by
 refine T.ED.ok EO (fun vs H Q E h=>aU h) (fun cdv A outer s H vs Q E hr h=>?_)
 exact ⟨_,(aj (s_r (nh rfl rfl T.n9 (aa (yr ["things"] ["at"] (c_n 1 B0 rfl rfl) (Dv rfl T.bW (aa d_i (aa (bX rfl T.bY (aa (d_v 0) af)) af))) (fun _ _ _ _ _=>cI) (fun _ _ _ _ _=>(Bc (aN (d_v 0) (cH (d_v 1) d_i)) (aN (d_v 0) (d_v 1))))) af)))),cy (n:=1) (m:=0) rfl h⟩
theorem EY :
  aY P' w K mg base CX0 4 qp jW ["k"] (spD yI):=by
 refine T.EE.ok ER (fun vs H Q E h=>aU h) (fun cdv A outer s H vs Q E hr h=>?_)
 exact ⟨_,(aj (bU (bJ (bS (aH (Ac T) (Br.hm hr) rfl T.Ec T.BS.kp T.yX (aa (d_v 0) af)))) (aj yq) bg)),cy (n:=1) (m:=0) rfl h⟩
theorem Ca :
  aY P' w K mg base CX0 1 jj fk ["groups","a","b"] (spD rG):=by
 refine T.zS.ok B3 (fun vs H Q E h=>aU h) (fun cdv A outer s H vs Q E hr h=>?_)
 exact ⟨_,(aj (s_r (nk 0 ["groups","a","b"] ["group"] (c_n 3 yY rfl rfl) (d_v 0) (fun _ _ _ _ _=>cI) (fun _ _ _ _ _=>(Fy (lG hr (d_v 3) (aN (d_v 0) (d_v 2))) (aN (d_v 0) (d_v 1)) (d_v 3)))))),cy (n:=3) (m:=0) rfl h⟩
theorem Cb :
  aY P' w K mg base CX0 1 jl fm ["layers","a","b"] (spD nI):=by
 refine T.zT.ok qt (fun vs H Q E h=>aU h) (fun cdv A outer s H vs Q E hr h=>?_)
 exact ⟨_,(ah (eZ PassesOwn.never rfl (DL rfl T.ia (d_v 0)) (g_t rfl (aF 3 qt.nd (aF 4 qt.nd cu)))
  (aj (bU (lH hr (aN (d_v 4) (d_v 1)) (aN (d_v 4) (d_v 2))) (aj (s_r (aV (d_v 3) d_i))) bg)))
  (aj (s_r d_i))),cy (n:=3) (m:=2) rfl h⟩
theorem Cc :
  aY P' w K mg base CX0 5 jm fq ["n","record","k"] (spD nJ):=by
 refine T.zU.ok fX (fun vs H Q E h=>aU h) (fun cdv A outer s H vs Q E hr h=>?_)
 exact ⟨_,(ah (s_e (aH (EY T) (Br.hm hr) rfl T.F0 T.EE.kp T.BW (aa (d_v 2) af)))
  (ah (DB 3 ["n","record","k","layers","numbers","moment","a","b","number"] ["layer"] fX.nd (c_n 9 yZ rfl rfl) (sX rfl T.bW (aa (d_v 2) af)) (fun _ _ _ _ _=>cI) (fun _ _ _ _ _=>(vq rfl rfl T.fV rfl T.bW (aa (d_v 0) af))))
  (ah (s_a 4 fX.nd (aQ af))
  (ah (eZ PassesOwn.never rfl (DK rfl T.fW (d_v 1)) (g_t rfl (aF 5 fX.nd (aF 6 fX.nd (aF 7 fX.nd cu))))
  (ah (s_a 8 fX.nd (aH (Cb T) (Br.hm hr) rfl T.Ef T.zT.kp T.wJ (aa (d_v 3) (aa (d_v 6) (aa (d_v 7) af)))))
  (ah (bU (m9 (d_v 8) d_i) (aj (iJ 3 (cH (d_v 8) d_i) (aH (Ca T) (Br.hm hr) rfl T.Ed T.zS.kp T.wI (aa (aN (d_v 3) (cH (d_v 8) d_i)) (aa (d_v 6) (aa (d_v 7) af)))))) bg)
  (aj (u9 4 (d_v 8))))))
  (aj (s_r (rm rfl rfl T.fV rfl T.fW (d_v 4)))))))),cy (n:=3) (m:=6) rfl h⟩
theorem Cd :
  aY P' w K mg base CX0 6 jn fu ["n","thing"] (spD cV):=by
 refine T.zV.ok B4 (fun vs H Q E h=>aU h) (fun cdv A outer s H vs Q E hr h=>?_)
 obtain ⟨gF,oA⟩:=T.jX
 exact ⟨_,(ah (bU (t_w (w_or (bJ (bS (aH (ET T) (Br.hm hr) rfl T.FQ T.Ez.kp T.BX (aa (d_v 0) af)))) (w_or (bJ (bS (dY ng (by rfl) rfl T.fV rfl T.aP (d_v 1)))) (eY (m9 (bX rfl T.bY (aa (d_v 1) af)) (d_g rfl oA)))))) (aj (s_r d_b)) bg)
  (ah (bU (bJ (bS (nh rfl rfl T.n9 (aa (nk 1 ["n","thing"] ["tie"] (c_n 2 y9 rfl rfl) (d_v 1) (fun _ _ _ _ _=>cI) (fun _ _ _ _ _=>(aH (EW T) (Br.hm hr) rfl T.FY T.EC.kp T.BY (aa (d_v 0) (aa (d_v 2) af))))) af)))) (aj (s_r d_b)) bg)
  (aj (s_r (aH (EX T) (Br.hm hr) rfl T.FZ T.ED.kp T.BZ (aa (nk 1 ["n","thing"] ["tie"] (c_n 2 y_ rfl rfl) (d_v 1) (fun _ _ _ _ _=>cI) (fun _ _ _ _ _=>(aN (d_v 2) d_i))) af)))))),cy (n:=2) (m:=0) rfl h⟩
theorem qx :
  aY P' w K mg base CX0 7 jo fy ["thing"] (spD bE):=by
 refine T.rW.ok B5 (fun vs H Q E h=>aU h) (fun cdv A outer s H vs Q E hr h=>?_)
 exact ⟨_,(ah (bU (t_w (w_or (bJ (bS (dY kit_tuple (by rfl) rfl T.gE rfl T.aP (d_v 0)))) (eY (lH hr (bX rfl T.bY (aa (d_v 0) af)) d_i)))) (aj (s_r d_b)) bg)
  (ah (bU (t_w (w_or (bJ (bS (aH (Ac T) (Br.hm hr) rfl T.Ec T.BS.kp T.yX (aa (aN (d_v 0) d_i) af)))) (eY (bJ (bS (aH (Cd T) (Br.hm hr) rfl T.Eh T.zV.kp T.wL (aa (aN (d_v 0) d_i) (aa (aN (d_v 0) d_i) af)))))))) (aj (s_r d_b)) bg)
  (aj (s_r (zB hr d_i (aH (Cc T) (Br.hm hr) rfl T.Eg T.zU.kp T.wK (aa (aN (d_v 0) d_i) (aa (aN (d_v 0) d_i) (aa (aN (d_v 0) d_i) af))))))))),cy (n:=1) (m:=0) rfl h⟩
theorem Ce :
  aY P' w K mg base CX0 1 jq fB ["cells","many"] (spD nK):=by
 refine T.zW.ok mz (fun vs H Q E h=>aU h) (fun cdv A outer s H vs Q E hr h=>?_)
 exact ⟨_,(ah (s_a 2 mz.nd (eX (aQ (aa d_i af)) (pR rfl rfl T.wz (aa (d_v 1) (aa (iH rfl rfl T.n_ (aa d_i (aa (bX rfl T.bY (aa (d_v 0) af)) af))) af)))))
  (ah (eZ PassesOwn.never rfl (DL rfl T.ia (d_v 0)) (g_t rfl (aF 3 mz.nd (aF 4 mz.nd cu)))
  (aj (iJ 2 (gp (d_v 3) (bX rfl T.bY (aa (d_v 2) af))) (aV (eX (aN (d_v 2) (gp (d_v 3) (bX rfl T.bY (aa (d_v 2) af)))) d_i) (d_v 4)))))
  (aj (s_r (d_v 2))))),cy (n:=2) (m:=3) rfl h⟩
theorem Cf :
  aY P' w K mg base CX0 1 jr fC ["cell"] (spD nM):=by
 refine T.zX.ok qu (fun vs H Q E h=>aU h) (fun cdv A outer s H vs Q E hr h=>?_)
 exact ⟨_,(ah (s_a 1 qu.nd d_i)
  (ah (bU (Fx (zI rfl T.zP (aa (d_v 0) af)) (g8 d_i d_i)) (aj (s_a 1 qu.nd (aV (cH (zI rfl T.zP (aa (d_v 0) af)) (g8 d_i d_i)) d_i))) bg)
  (aj (s_r (aQ (aa (d_v 1) (aa d_i (aa (gp (d_v 0) d_i) af)))))))),cy (n:=1) (m:=1) rfl h⟩
theorem bh :
  aY P' w K mg base CX0 1 ju fD ["pot","size"] (spM bq):=by
 refine T.bF.ok mC (fun vs H Q E h=>bL h) (fun cdv A outer s H vs Q E hr h=>?_)
 exact ⟨_,(ah (bU (m9 (aN (d_v 0) d_i) d_i) (ah (s_a 2 mC.nd (gp (aN (d_v 0) d_i) (d_v 1)))
  (ah (iJ 0 d_i (u6 (aN (d_v 0) d_i) (d_v 1)))
  (aj (s_r (d_v 2))))) bg)
  (ah (iJ 0 d_i (aV (aN (d_v 0) d_i) d_i))
  (ah (s_a 3 mC.nd (gp (aV (aV (aV (aN (d_v 0) d_i) (eX (eX d_i (aN (d_v 0) d_i)) (aN (d_v 0) d_i))) (eX d_i (aN (d_v 0) d_i))) d_i) d_i))
  (ah (s_a 3 mC.nd (gp (eX (gp (eX (d_v 3) (d_v 3)) d_i) d_i) d_i))
  (aj (s_r (gp (u6 (d_v 3) d_i) (d_v 1)))))))),d7 (n:=2) (m:=2) rfl h⟩
theorem Cg :
  aY P' w K mg base CX0 2 jv fE ["pot","size"] (spM nN):=by
 refine T.zY.ok mD (fun vs H Q E h=>bL h) (fun cdv A outer s H vs Q E hr h=>?_)
 exact ⟨_,(ah (bU (t_w (w_or (m9 (aN (d_v 0) d_i) d_i) (eY (Fw (d_v 1) (g8 d_i d_i))))) (aj (s_r (aA (bh T) (Br.hm hr) rfl T.bK T.bF.kp T.bC (aa (d_v 0) (aa (d_v 1) af))))) bg)
  (ah (s_a 2 mD.nd d_i)
  (ah (eZ PassesOwn.never rfl (sX rfl T.bW (aa d_i af)) (g_n 3 mD.nd)
  (aj (s_a 2 mD.nd (aV (eX (d_v 2) d_i) (aA (bh T) (Br.hm hr) rfl T.bK T.bF.kp T.bC (aa (d_v 0) (aa d_i af)))))))
  (aj (s_r (gp (d_v 2) (d_v 1))))))),d7 (n:=2) (m:=2) rfl h⟩
theorem Ci :
  aY P' w K mg base CX0 2 jx fF ["pot"] (spM nP):=by
 refine T.zZ.ok B6 (fun vs H Q E h=>bL h) (fun cdv A outer s H vs Q E hr h=>?_)
 exact ⟨_,(aj (s_r (aV d_i (aA (bh T) (Br.hm hr) rfl T.bK T.bF.kp T.bC (aa (d_v 0) (aa (aN (aQ (@aa _ _ _ _ _ d_i (@aa _ _ _ _ _ d_i (@aa _ _ _ _ _ d_i (@aa _ _ _ _ _ d_i (@aa _ _ _ _ _ d_i (@aa _ _ _ _ _ d_i (@aa _ _ _ _ _ d_i (@aa _ _ _ _ _ d_i af rfl) rfl) rfl) rfl) rfl) rfl) rfl) rfl)) (aA (bh T) (Br.hm hr) rfl T.bK T.bF.kp T.bC (aa (d_v 0) (aa d_i af)))) af)))))),d7 (n:=1) (m:=0) rfl h⟩
theorem Cj :
  aY P' w K mg base CX0 2 jy fG ["pot"] (spM nQ):=by
 refine T.z3.ok B7 (fun vs H Q E h=>bL h) (fun cdv A outer s H vs Q E hr h=>?_)
 exact ⟨_,(aj (s_r (aV d_i (aA (bh T) (Br.hm hr) rfl T.bK T.bF.kp T.bC (aa (d_v 0) (aa (aN (aQ (aa d_i (aa d_i (aa d_i (aa d_i af))))) (aA (bh T) (Br.hm hr) rfl T.bK T.bF.kp T.bC (aa (d_v 0) (aa d_i af)))) af)))))),d7 (n:=1) (m:=0) rfl h⟩
theorem qy :
  aY P' w K mg base CX0 2 jz fH ["pot","n","ties"] (spM d8):=by
 refine T.rX.ok gZ (fun vs H Q E h=>bL h) (fun cdv A outer s H vs Q E hr h=>?_)
 exact ⟨_,(ah (s_a 3 gZ.nd (aA (bh T) (Br.hm hr) rfl T.bK T.bF.kp T.bC (aa (d_v 0) (aa (d_v 1) af))))
  (ah (s_a 4 gZ.nd (aA (bh T) (Br.hm hr) rfl T.bK T.bF.kp T.bC (aa (d_v 0) (aa (d_v 1) af))))
  (ah (bU (t_w (w_and (lH hr (d_v 2) (aQ af)) (lI (lG hr (aA (bh T) (Br.hm hr) rfl T.bK T.bF.kp T.bC (aa (d_v 0) (aa d_i af))) d_i)))) (aj (s_u rfl (aF 5 gZ.nd (aF 3 gZ.nd (aF 4 gZ.nd cu))) (aN (d_v 2) (aA (bh T) (Br.hm hr) rfl T.bK T.bF.kp T.bC (aa (d_v 0) (aa (bX rfl T.bY (aa (d_v 2) af)) af)))))) bg)
  (aj (s_r (aK (aa (pR rfl rfl T.wz (aa (d_v 3) (aa (d_v 4) af))) (aa (iH rfl rfl T.n_ (aa (d_v 3) (aa (d_v 4) af))) af)))))))),d7 (n:=3) (m:=3) rfl h⟩
theorem Ck :
  aY P' w K mg base CX0 3 jA fJ ["pot","n","most"] (spM nR):=by
 refine T.z4.ok dG (fun vs H Q E h=>bL h) (fun cdv A outer s H vs Q E hr h=>?_)
 exact ⟨_,(ah (s_a 3 dG.nd (cH (aA (bh T) (Br.hm hr) rfl T.bK T.bF.kp T.bC (aa (d_v 0) (aa d_i af))) d_i))
  (ah (s_a 4 dG.nd (aQ af))
  (ah (eZ PassesOwn.never rfl (sX rfl T.bW (aa (aA (bh T) (Br.hm hr) rfl T.bK T.bF.kp T.bC (aa (d_v 0) (aa (aV (d_v 2) d_i) af))) af)) (g_n 5 dG.nd)
  (ah (s_a 6 dG.nd (aA (bh T) (Br.hm hr) rfl T.bK T.bF.kp T.bC (aa (d_v 0) (aa d_i af))))
  (ah (s_a 3 dG.nd (aV (aV (d_v 3) d_i) (u6 (d_v 6) d_i)))
  (ah (bU (lG hr (d_v 6) d_i) (aj (s_a 3 dG.nd (aV (d_v 3) (aA (Cg T) (Br.hm hr) rfl T.Ek T.zY.kp T.wM (aa (d_v 0) (aa (g8 d_i d_i) af)))))) bg)
  (ah (s_u rfl (aF 7 dG.nd (aF 8 dG.nd cu)) (aA (qy T) (Br.hm hr) rfl T.wC T.rX.kp T.oh (aa (d_v 0) (aa (d_v 1) (aa (d_v 4) af)))))
  (aj (u9 4 (aK (aa (d_v 3) (aa (d_v 7) (aa (d_v 8) af)))))))))))
  (aj (s_r (d_v 4)))))),d7 (n:=3) (m:=6) rfl h⟩
theorem Cm :
  aY P' w K mg base CX0 2 jB fK ["pot"] (spM nS):=by
 refine T.z5.ok B8 (fun vs H Q E h=>bL h) (fun cdv A outer s H vs Q E hr h=>?_)
 exact ⟨_,(aj (s_r (aN (aQ (@aa _ _ _ _ _ d_i (@aa _ _ _ _ _ d_i (@aa _ _ _ _ _ d_i (@aa _ _ _ _ _ d_i (@aa _ _ _ _ _ d_i (@aa _ _ _ _ _ d_i (@aa _ _ _ _ _ d_i (@aa _ _ _ _ _ d_i af rfl) rfl) rfl) rfl) rfl) rfl) rfl) rfl)) (aA (bh T) (Br.hm hr) rfl T.bK T.bF.kp T.bC (aa (d_v 0) (aa d_i af)))))),d7 (n:=1) (m:=0) rfl h⟩
theorem xh :
  aY P' w K mg base CX0 1 jC fL ["n","ties","k"] (spD kM):=by
 refine T.wN.ok cR (fun vs H Q E h=>aU h) (fun cdv A outer s H vs Q E hr h=>?_)
 exact ⟨_,(ah (DB 3 ["n","ties","k","labels","numbers","at","moment","a","b","%9","old","new"] ["layer"] cR.nd (c_n 12 za rfl rfl) (sX rfl T.bW (aa (d_v 2) af)) (fun _ _ _ _ _=>cI) (fun _ _ _ _ _=>(vq rfl rfl T.fV rfl T.bW (aa (d_v 0) af))))
  (ah (s_a 4 cR.nd (eX (aQ (aa d_i af)) (bX rfl T.bY (aa (d_v 1) af))))
  (ah (eZ PassesOwn.never rfl (FD rfl T.bW (aa (cH (bX rfl T.bY (aa (d_v 1) af)) d_i) (aa (qW d_i) (aa (qW d_i) af)))) (g_n 5 cR.nd)
  (ah (s_u rfl (aF 6 cR.nd (aF 7 cR.nd (aF 8 cR.nd cu))) (aN (d_v 1) (d_v 5)))
  (aj (eZ PassesOwn.never rfl (sX rfl T.bW (aa (d_v 2) af)) (g_n 9 cR.nd)
  (ah (s_a 10 cR.nd (aN (aN (d_v 3) (d_v 9)) (d_v 7)))
  (ah (s_a 11 cR.nd (aN (aN (d_v 3) (d_v 9)) (d_v 8)))
  (aj (bU (t_w (w_and (lG hr (aN (d_v 4) (d_v 5)) d_i) (lI (lH hr (d_v 10) (d_v 11))))) (ah (iJ 4 (d_v 5) (aV (d_v 9) d_i))
  (aj (iJ 3 (d_v 9) (yr ["n","ties","k","labels","numbers","at","moment","a","b","layer","old","new"] ["one"] (c_n 12 zb rfl rfl) (i_S (aN (d_v 3) (d_v 9))) (fun _ _ _ _ _=>cI) (fun _ _ _ _ _=>(aN (aQ (aa (d_v 12) (aa (d_v 11) af))) (q_ rfl T.kT (aa (u7 hr (d_v 12) (d_v 10)) af)))))))) bg))))))))
  (aj (s_r (d_v 4)))))),cy (n:=3) (m:=9) rfl h⟩
theorem Cn :
  aY P' w K mg base CX0 2 jD fM ["n","ties","k"] (spD rH):=by
 refine T.z6.ok xg (fun vs H Q E h=>aU h) (fun cdv A outer s H vs Q E hr h=>?_)
 exact ⟨_,(ah (s_a 3 xg.nd (aH (xh T) (Br.hm hr) rfl T.zR T.wN.kp T.rY (aa (d_v 0) (aa (d_v 1) (aa (d_v 2) af)))))
  (aj (s_r (aK (aa (d_v 0) (aa (d_v 2) (aa (yr ["n","ties","k","numbers"] ["tie","number"] (c_t rfl (fun _ _ _ _ _=>(aF 4 r_ (aF 5 r_ cu)))) (DN rfl T.Ea (aa (d_v 1) (aa (d_v 3) af))) (fun _ _ _ _ _=>Bf (m9 (d_v 5) d_i)) (fun _ _ _ _ _=>(d_v 4))) af))))))),cy (n:=3) (m:=1) rfl h⟩
theorem Co :
  aY P' w K mg base CX0 4 jE fN ["pot"] (spM nT):=by
 refine T.z7.ok qv (fun vs H Q E h=>bL h) (fun cdv A outer s H vs Q E hr h=>?_)
 exact ⟨_,(ah (s_a 1 qv.nd (aA (Ci T) (Br.hm hr) rfl T.El T.zZ.kp T.wO (aa (d_v 0) af)))
  (ah (s_a 2 qv.nd (aA (Cj T) (Br.hm hr) rfl T.Em T.z3.kp T.wQ (aa (d_v 0) af)))
  (aj (s_r (aH (Cn T) (Br.hm hr) rfl T.Er T.z6.kp T.wV (aa (d_v 1) (aa (aA (Ck T) (Br.hm hr) rfl T.Eo T.z4.kp T.wR (aa (d_v 0) (aa (d_v 1) (aa (aA (Cm T) (Br.hm hr) rfl T.Ep T.z5.kp T.wU (aa (d_v 0) af)) af)))) (aa (d_v 2) af)))))))),d7 (n:=1) (m:=2) rfl h⟩
theorem Cp :
  aY P' w K mg base CX0 3 jF fO ["pot","n","ties"] (spM kN):=by
 refine T.z8.ok ek (fun vs H Q E h=>bL h) (fun cdv A outer s H vs Q E hr h=>?_)
 exact ⟨_,(ah (DM 3 2 ["pot","n","ties","some","moment","turn","a","b"] ["tie"] ek.nd (c_n 8 zc rfl rfl) (d_v 2) (fun _ _ _ _ _=>cI) (fun _ _ _ _ _=>(aN (d_v 8) d_i)))
  (ah (s_a 4 ek.nd (aA (bh T) (Br.hm hr) rfl T.bK T.bF.kp T.bC (aa (d_v 0) (aa d_i af))))
  (ah (bU (t_w (w_and (lH hr (d_v 3) (aQ af)) (lI (m9 (aA (bh T) (Br.hm hr) rfl T.bK T.bF.kp T.bC (aa (d_v 0) (aa d_i af))) d_i)))) (aj (s_a 4 ek.nd (aV (aN (d_v 3) (aA (bh T) (Br.hm hr) rfl T.bK T.bF.kp T.bC (aa (d_v 0) (aa (bX rfl T.bY (aa (d_v 3) af)) af)))) (aA (bh T) (Br.hm hr) rfl T.bK T.bF.kp T.bC (aa (d_v 0) (aa d_i af)))))) bg)
  (ah (eZ PassesOwn.never rfl (sX rfl T.bW (aa (aV (bX rfl T.bY (aa (d_v 3) af)) d_i) af)) (g_n 5 ek.nd)
  (aj (s_a 4 ek.nd (aV (d_v 4) (q_ rfl T.kT (aa (Fv hr (d_v 4) (d_v 3)) af))))))
  (ah (s_u rfl (aF 6 ek.nd (aF 7 ek.nd cu)) (aA (qy T) (Br.hm hr) rfl T.wC T.rX.kp T.oh (aa (d_v 0) (aa (d_v 1) (aa (d_v 2) af)))))
  (aj (s_r (aK (aa (d_v 4) (aa (d_v 6) (aa (d_v 7) af))))))))))),d7 (n:=3) (m:=5) rfl h⟩
theorem qz :
  aY P' w K mg base CX0 1 jG fP ["thing"] (spD nU):=by
 refine T.rZ.ok B9 (fun vs H Q E h=>aU h) (fun cdv A outer s H vs Q E hr h=>?_)
 exact ⟨_,(aj (s_r (dX (dY qX (by rfl) rfl T.kT rfl T.aP (d_v 0)) (iI (zC (dY iK (by rfl) rfl T.qq rfl T.aP (d_v 0))))))),cy (n:=1) (m:=0) rfl h⟩
theorem Cq :
  aY P' w K mg base CX0 2 jH fQ ["n","thing"] (spD rJ):=by
 refine T.z9.ok B_ (fun vs H Q E h=>aU h) (fun cdv A outer s H vs Q E hr h=>?_)
 exact ⟨_,(ah (bU (t_w (w_or (bJ (bS (dY kit_tuple (by rfl) rfl T.gE rfl T.aP (d_v 1)))) (w_or (lH hr (bX rfl T.bY (aa (d_v 1) af)) d_i) (eY (bJ (bS (nh rfl rfl T.n9 (aa (nk 1 ["n","thing"] ["part"] (c_n 2 zd rfl rfl) (d_v 1) (fun _ _ _ _ _=>cI) (fun _ _ _ _ _=>(aH (qz T) (Br.hm hr) rfl T.wD T.rZ.kp T.oj (aa (d_v 2) af)))) af)))))))) (aj (s_r d_b)) bg)
  (aj (s_r (dX (qZ f7 gn f7 gn d_i (aN (d_v 1) d_i) (g8 d_i d_i)) (dX (Bd d_i (aN (d_v 1) d_i)) (dX (Bd (aN (d_v 1) d_i) (aN (d_v 1) d_i)) (iI (Bc (aN (d_v 1) d_i) (d_v 0))))))))),cy (n:=2) (m:=0) rfl h⟩
theorem Cr :
  aY P' w K mg base CX0 3 jI fR ["thing"] (spD rK):=by
 refine T.z_.ok mE (fun vs H Q E h=>aU h) (fun cdv A outer s H vs Q E hr h=>?_)
 exact ⟨_,(ah (bU (t_w (w_or (bJ (bS (dY kit_tuple (by rfl) rfl T.gE rfl T.aP (d_v 0)))) (w_or (lH hr (bX rfl T.bY (aa (d_v 0) af)) d_i) (w_or (bJ (bS (aH (qz T) (Br.hm hr) rfl T.wD T.rZ.kp T.oj (aa (aN (d_v 0) d_i) af)))) (eY (bJ (bS (aH (qz T) (Br.hm hr) rfl T.wD T.rZ.kp T.oj (aa (aN (d_v 0) d_i) af))))))))) (aj (s_r d_b)) bg)
  (ah (s_u rfl (aF 1 mE.nd (aF 2 mE.nd (aF 3 mE.nd cu))) (d_v 0))
  (ah (bU (t_w (w_or (bJ (rC f7 gn f7 gn d_i (d_v 1) d_i)) (w_or (bJ (rC f7 gn f7 gn d_i (d_v 2) d_i)) (w_or (bJ (bS (dY ng (by rfl) rfl T.fV rfl T.aP (d_v 3)))) (eY (m9 (bX rfl T.bY (aa (d_v 3) af)) d_i)))))) (aj (s_r d_b)) bg)
  (ah (bU (bJ (bS (nh rfl rfl T.n9 (aa (nk 3 ["thing","n","k","ties"] ["tie"] (c_n 4 ze rfl rfl) (d_v 3) (fun _ _ _ _ _=>cI) (fun _ _ _ _ _=>(aH (Cq T) (Br.hm hr) rfl T.Eu T.z9.kp T.wW (aa (d_v 1) (aa (d_v 4) af))))) af)))) (aj (s_r d_b)) bg)
  (ah (bU (bJ (bS (nh rfl rfl T.n9 (aa (yr ["thing","n","k","ties"] ["at"] (c_n 4 zf rfl rfl) (Dv rfl T.bW (aa d_i (aa (bX rfl T.bY (aa (d_v 3) af)) af))) (fun _ _ _ _ _=>cI) (fun _ _ _ _ _=>(Bc (aN (aN (d_v 3) (cH (d_v 4) d_i)) d_i) (aN (aN (d_v 3) (d_v 4)) d_i)))) af)))) (aj (s_r d_b)) bg)
  (aj (s_r (zB hr d_i (aH (xh T) (Br.hm hr) rfl T.zR T.wN.kp T.rY (aa (d_v 1) (aa (d_v 3) (aa (d_v 2) af)))))))))))),cy (n:=1) (m:=3) rfl h⟩
theorem Cs :
  aY P' w K mg base CX0 2 jJ fS ["pot","net"] (spM nV):=by
 refine T.Aa.ok dH (fun vs H Q E h=>bL h) (fun cdv A outer s H vs Q E hr h=>?_)
 exact ⟨_,(ah (s_u rfl (aF 2 dH.nd (aF 3 dH.nd (aF 4 dH.nd cu))) (d_v 1))
  (@ah _ _ _ _ _ (@s_a _ _ _ _ 5 _ _ dH.nd (@aQ _ _ _ _ (@aa _ _ _ _ _ d_n (@aa _ _ _ _ _ d_i (@aa _ _ _ _ _ d_s (@aa _ _ _ _ _ (aQ (aa (d_v 2) (aa (d_v 3) (aa (d_v 4) af)))) (@aa _ _ _ _ _ (aK (aa (d_v 2) (aa (d_v 3) af))) (@aa _ _ _ _ _ (aK (aa (d_v 2) (aa (d_v 3) (aa (d_v 4) (aa d_i af))))) (@aa _ _ _ _ _ (aK (aa d_i (aa (d_v 3) (aa (aQ af) af)))) (@aa _ _ _ _ _ (aK (aa d_i (aa (d_v 3) (aa (aQ af) af)))) (@aa _ _ _ _ _ (aK (aa d_b (aa d_i (aa (aQ af) af)))) af rfl) rfl) rfl) rfl) rfl) rfl) rfl) rfl) rfl)) rfl (by first | exact Or.inl rfl | exact Or.inr rfl) rfl (by first | exact Or.inl rfl | exact Or.inr rfl))
  (ah (s_a 5 dH.nd (aV (d_v 5) (aQ (@aa _ _ _ _ _ (aK (aa (d_v 2) (aa d_i (aa (aQ af) af)))) (@aa _ _ _ _ _ (aK (aa (d_v 2) (aa d_i (aa (aQ af) af)))) (@aa _ _ _ _ _ (aK (aa (d_v 2) (aa d_b (aa (aQ af) af)))) (@aa _ _ _ _ _ (aK (aa (d_v 2) (aa (d_v 3) (aa (yp rfl T.gE (aa (d_v 4) af)) af)))) (@aa _ _ _ _ _ (aK (aa (d_v 2) (aa (d_v 3) (aa d_n af)))) (@aa _ _ _ _ _ (aK (aa (d_v 2) (aa (d_v 3) (aa (aQ (aa (aK (aa d_i (aa d_i (aa (d_v 2) af)))) af)) af)))) af rfl) rfl) rfl) rfl) rfl) rfl))))
  (ah (s_a 5 dH.nd (aV (d_v 5) (aQ (@aa _ _ _ _ _ (aK (aa (d_v 2) (aa (d_v 3) (aa (aQ (aa (aK (aa d_i (aa d_i (aa d_i af)))) af)) af)))) (@aa _ _ _ _ _ (aK (aa (d_v 2) (aa (d_v 3) (aa (aQ (aa (aQ (aa d_i (aa d_i (aa d_i af)))) af)) af)))) (@aa _ _ _ _ _ (aK (aa (d_v 2) (aa (d_v 3) (aa (aQ (aa (aK (aa d_i (aa d_i (aa d_i af)))) (aa (aK (aa d_i (aa d_i (aa d_i af)))) af))) af)))) (@aa _ _ _ _ _ (aK (aa d_s (aa d_i (aa (aQ af) af)))) (@aa _ _ _ _ _ (aK (aa (d_v 2) (aa d_s (aa (aQ af) af)))) af rfl) rfl) rfl) rfl) rfl))))
  (ah (s_a 5 dH.nd (aV (d_v 5) (aQ (@aa _ _ _ _ _ (aK (aa (d_v 2) (aa (d_v 3) (aa DO af)))) (@aa _ _ _ _ _ (aK (aa (d_v 2) (aa (d_v 3) (aa (aQ (aa (aK (aa d_i (aa (qW d_i) (aa d_i af)))) af)) af)))) (@aa _ _ _ _ _ (aK (aa (d_v 2) (aa (d_v 3) (aa (aQ (aa (aK (aa (qW d_i) (aa d_i (aa d_i af)))) af)) af)))) (@aa _ _ _ _ _ (aK (aa (d_v 2) (aa (d_v 3) (aa (aQ (aa (aK (aa (aV (g8 d_i d_i) d_i) (aa d_i (aa d_i af)))) af)) af)))) (@aa _ _ _ _ _ DO (@aa _ _ _ _ _ (aK af) af rfl) rfl) rfl) rfl) rfl) rfl))))
  (ah (eZ PassesOwn.never rfl (i_S (aQ (@aa _ _ _ _ _ (aK (aa d_b (aa d_i (aa (cH (d_v 2) d_i) af)))) (@aa _ _ _ _ _ (aK (aa d_i (aa d_b (aa (cH (d_v 2) d_i) af)))) (@aa _ _ _ _ _ (aK (aa d_i (aa d_i (aa d_s af)))) (@aa _ _ _ _ _ (aK (aa d_i (aa d_i (aa d_n af)))) (@aa _ _ _ _ _ (aK (aa d_s (aa d_i (aa (cH (d_v 2) d_i) af)))) (@aa _ _ _ _ _ (aK (aa d_i (aa (aK (aa d_i af)) (aa (cH (d_v 2) d_i) af)))) af rfl) rfl) rfl) rfl) rfl) rfl))) (g_n 6 dH.nd)
  (aj (u9 5 (aK (aa (d_v 2) (aa (d_v 3) (aa (aQ (aa (d_v 6) af)) af)))))))
  (aj (s_r (aN (d_v 5) (aA (bh T) (Br.hm hr) rfl T.bK T.bF.kp T.bC (aa (d_v 0) (aa (bX rfl T.bY (aa (d_v 5) af)) af)))))))))))),d7 (n:=2) (m:=5) rfl h⟩
theorem qA :
  aY P' w K mg base CX0 4 jK fT ["pot","net"] (spM i6):=by
 refine T.r8.ok b_ (fun vs H Q E h=>bL h) (fun cdv A outer s H vs Q E hr h=>?_)
 exact ⟨_,(ah (s_u rfl (aF 2 b_.nd (aF 3 b_.nd (aF 4 b_.nd cu))) (d_v 1))
  (ah (s_a 5 b_.nd (iH rfl rfl T.n_ (aa d_i (aa (d_v 2) af))))
  (ah (s_a 6 b_.nd (Be rfl T.fV (aa (d_v 4) af)))
  (ah (s_a 7 b_.nd (aA (bh T) (Br.hm hr) rfl T.bK T.bF.kp T.bC (aa (d_v 0) (aa d_i af))))
  (ah (s_a 8 b_.nd (aA (bh T) (Br.hm hr) rfl T.bK T.bF.kp T.bC (aa (d_v 0) (aa (iH rfl rfl T.n_ (aa d_i (aa (bX rfl T.bY (aa (d_v 6) af)) af))) af))))
  (ah (bU (lG hr (d_v 7) d_i) (aj (s_a 6 b_.nd (vF rfl T.wA (aa (aV (d_v 6) (aQ (aa (aA (Cp T) (Br.hm hr) rfl T.Et T.z8.kp T.wX (aa (d_v 0) (aa (d_v 5) (aa (d_v 6) af)))) af))) af)))) bg)
  (ah (bU (lG hr (d_v 7) d_i) (aj (s_a 6 b_.nd (aV (tE (d_v 6) o_n (o_s (d_v 8))) (tE (d_v 6) (o_s (aV (d_v 8) d_i)) o_n)))) bg)
  (ah (bU (t_w (w_and (lG hr (d_v 7) d_i) (lI (lH hr (d_v 6) (aQ af))))) (ah (s_u rfl (aF 9 b_.nd (aF 10 b_.nd cu)) (aA (qy T) (Br.hm hr) rfl T.wC T.rX.kp T.oh (aa (d_v 0) (aa (d_v 5) (aa (d_v 6) af)))))
  (aj (iJ 6 (d_v 8) (aK (aa (aN (aN (d_v 6) (d_v 8)) d_i) (aa (d_v 9) (aa (d_v 10) af))))))) bg)
  (ah (bU (lG hr (d_v 7) d_i) (aj (s_a 6 b_.nd (aV (tE (d_v 6) o_n (o_s (aV (d_v 8) d_i))) (tE (d_v 6) (o_s (d_v 8)) o_n)))) bg)
  (ah (bU (lG hr (d_v 7) d_i) (aj (DY 6 (o_s (d_v 8)) (o_s (aV (d_v 8) d_i)) (rm rfl rfl T.fV rfl T.fW (tE (d_v 6) (o_s (d_v 8)) (o_s (aV (d_v 8) d_i)))))) bg)
  (ah (bU (m9 (d_v 7) d_i) (aj (s_r (aK (aa (d_v 2) (aa (iH rfl rfl T.n_ (aa d_i (aa (pR rfl rfl T.wz (aa d_i (aa (cH (aV (d_v 3) (eX d_i (d_v 7))) d_i) af))) af))) (aa (d_v 6) af)))))) bg)
  (aj (s_r (aK (aa (cH (aV (d_v 2) (q_ rfl T.kT (aa (u7 hr (d_v 7) d_i) af))) (q_ rfl T.kT (aa (u7 hr (d_v 7) d_i) af))) (aa (d_v 3) (aa (d_v 6) af))))))))))))))))),d7 (n:=2) (m:=9) rfl h⟩
theorem qB :
  aY P' w K mg base CX0 8 jL fU ["thing"] (spD kO):=by
 refine T.r9.ok qw (fun vs H Q E h=>aU h) (fun cdv A outer s H vs Q E hr h=>?_)
 exact ⟨_,(ah (s_a 1 qw.nd (zL hr rfl T.zQ (aa (d_v 0) af)))
  (ah (s_a 2 qw.nd (aH (qx T) (Br.hm hr) rfl T.wB T.rW.kp T.oq (aa (d_v 0) af)))
  (aj (s_r (dX (dY iK (by rfl) rfl T.qq rfl T.aP (d_v 2)) (dX (u7 hr (d_v 2) (aH (Cr T) (Br.hm hr) rfl T.Ew T.z_.kp T.wY (aa (d_v 0) af))) (iI (u7 hr (zL hr rfl T.zQ (aa (d_v 0) af)) (d_v 1))))))))),cy (n:=1) (m:=2) rfl h⟩
theorem Ct :
  aY P' w K mg base CX0 9 jM gY ["script"] (spD i7):=by
 refine T.EF.ok mF (fun vs H Q E h=>aU h) (fun cdv A outer s H vs Q E hr h=>?_)
 exact ⟨_,(ah (eZ PassesOwn.never rfl (i_S (aH (Ce T) (Br.hm hr) rfl T.Ei T.zW.kp T.wZ (aa (d_v 0) (aa d_i af)))) (g_n 1 mF.nd)
  (ah (s_a 2 mF.nd (aH (Cf T) (Br.hm hr) rfl T.Ej T.zX.kp T.w4 (aa (d_v 1) af)))
  (ah (s_a 3 mF.nd (aA (Co T) (Br.hm hr) rfl T.Es T.z7.kp T.w6 (aa (d_v 2) af)))
  (ah (bU (t_w (w_or (zD (aH (qx T) (Br.hm hr) rfl T.wB T.rW.kp T.oq (aa (d_v 3) af)) d_b) (eY (bJ (bS (aH (qB T) (Br.hm hr) rfl T.wG T.r9.kp T.oz (aa (aA (qA T) (Br.hm hr) rfl T.wF T.r8.kp T.ou (aa (d_v 2) (aa (d_v 3) af))) af))))))) (aj (s_r d_b)) bg)
  (ah (bU (bJ (bS (aH (qB T) (Br.hm hr) rfl T.wG T.r9.kp T.oz (aa (aK (aa (aN (d_v 3) d_i) (aa (aN (d_v 3) d_i) (aa (aV (tE (aN (d_v 3) d_i) o_n (o_s d_i)) (aQ (aa (aK (aa (g8 d_i d_i) (aa d_i (aa (cH (aN (d_v 3) d_i) d_i) af)))) af))) af)))) af)))) (aj (s_r d_b)) bg)
  (aj (bU (t_w (w_or (bJ (bS (aH (qB T) (Br.hm hr) rfl T.wG T.r9.kp T.oz (aa (aA (qA T) (Br.hm hr) rfl T.wF T.r8.kp T.ou (aa (d_v 2) (aa (aA (qA T) (Br.hm hr) rfl T.wF T.r8.kp T.ou (aa (d_v 2) (aa (d_v 3) af))) af))) af)))) (eY (zD (aH (qx T) (Br.hm hr) rfl T.wB T.rW.kp T.oq (aa (aA (Cs T) (Br.hm hr) rfl T.Ex T.Aa.kp T.w_ (aa (d_v 2) (aa (d_v 3) af))) af)) d_b)))) (aj (s_r d_b)) bg)))))))
  (aj (s_r d_b))),cy (n:=1) (m:=3) rfl h⟩
end
theorem all_mk {l:PySem.W.OpenLaw} {w:World} {K:PySem.W.Frag} {h:Heap} {mg:Str→Option Value} {fa qf qg qh qi qj qk ql qm qo qp jj jl jm jn jo jq jr ju jv jx jy jz jA jB jC jD jE jF jG jH jI jJ jK jL jM:Addr} {jN jO jP jQ jR jS jT jU jV jW fk fm fq fu fy fB fC fD fE fF fG fH fJ fK fL fM fN fO fP fQ fR fS fT fU gY:FuncData} (X:K.In h) (G:h.Ns mainGlobals mg) (hfa:mg "law" = some (.ref fa))
  {gF:Tok}
  (xj:br K "is_whole" (top 4) qf jN)
  (xm:br K "is_within" (top 5) qg jO)
  (xo:br K "is_places" (top 6) qh jP)
  (xq:br K "is_place" (top 7) qi jQ)
  (xr:br K "is_layers" (top 8) qj jR)
  (xu:br K "is_moment" (top 9) qk jS)
  (xw:br K "is_tie_either_way" (top 10) ql jT)
  (xx:br K "is_tie" (top 11) qm jU)
  (xy:br K "is_rising" (top 12) qo jV)
  (xA:br K "look_at_layers" (top 13) qp jW)
  (oB:br K "merged" (top 15) jj fk)
  (oE:br K "least_layer" (top 18) jl fm)
  (oF:br K "layered" (top 17) jm fq)
  (oG:br K "is_record" (top 21) jn fu)
  (oH:br K "is_net" (top 23) jo fy)
  (oJ:br K "_law_folded" (top 25) jq fB)
  (oK:br K "_law_begun" (top 26) jr fC)
  (oM:br K "_law_take" (top 27) ju fD)
  (oN:br K "_law_wide" (top 28) jv fE)
  (oO:br K "_law_places" (top 29) jx fF)
  (oQ:br K "_law_depth" (top 30) jy fG)
  (oR:br K "_law_ends" (top 31) jz fH)
  (oS:br K "_law_drawn_ties" (top 32) jA fJ)
  (oU:br K "_law_most" (top 33) jB fK)
  (oV:br K "_law_layers_of" (top 34) jC fL)
  (oW:br K "_law_net_of" (top 35) jD fM)
  (oX:br K "_law_drawn_net" (top 36) jE fN)
  (oY:br K "_law_new_tie" (top 37) jF fO)
  (oZ:br K "_law_whole" (top 38) jG fP)
  (o6:br K "_law_is_tie" (top 39) jH fQ)
  (o7:br K "_law_is_net" (top 40) jI fR)
  (o8:br K "_law_odd_net" (top 41) jJ fS)
  (o9:br K "_law_spoilt" (top 42) jK fT)
  (o_:br K "_law_right" (top 43) jL fU)
  (kU:br K "law" (top 44) jM gY)
  (xB:PySem.W.nsIn K mainGlobals "abs" = some none)
  (xC:PySem.W.nsIn K mainGlobals "all" = some none)
  (qC:PySem.W.nsIn K mainGlobals "bool" = some none)
  (er:PySem.W.nsIn K mainGlobals "enumerate" = some none)
  (xD:PySem.W.nsIn K mainGlobals "int" = some none)
  (dI:PySem.W.nsIn K mainGlobals "isinstance" = some none)
  (xE:PySem.W.nsIn K mainGlobals "len" = some none)
  (qD:PySem.W.nsIn K mainGlobals "list" = some none)
  (xF:PySem.W.nsIn K mainGlobals "max" = some none)
  (xG:PySem.W.nsIn K mainGlobals "min" = some none)
  (mG:PySem.W.nsIn K mainGlobals "range" = some none)
  (fY:PySem.W.nsIn K mainGlobals "reversed" = some none)
  (jY:PySem.W.nsIn K mainGlobals "sorted" = some none)
  (xH:PySem.W.nsIn K mainGlobals "str" = some none)
  (mH:PySem.W.nsIn K mainGlobals "tuple" = some none)
  (xJ:PySem.W.nsIn K mainGlobals "zip" = some none)
  (eu:PySem.W.nsIn K mainGlobals "MOST_TIES" = some (some (.int 60 gF))) :
  ∃ fd:FuncData,(∀ (s:Shared) (v:Value),BindsTo s fd ⟨[v],[]⟩ [("script",v)])∧∀ base:Heap,K.In base→base.Ns mainGlobals mg→aY l.prog w K mg base CX0 9 fa fd ["script"] (spD i7):=by
 have e:=hfa.symm.trans (kU.m X G)
 cases e
 have BQ:=xj.F.bM (ps:=["thing"]) rfl fun _ _ _ _ _ _ _=>rfl
 have ug:=xm.F.dj (ps:=["thing","low","high"]) rfl fun _ _ _ _ _ _ _ _ _=>rfl
 have BX:=xo.F.bM (ps:=["thing"]) rfl fun _ _ _ _ _ _ _=>rfl
 have yW:=xq.F.cP (ps:=["n","thing"]) rfl fun _ _ _ _ _ _ _ _=>rfl
 have yX:=xr.F.bM (ps:=["thing"]) rfl fun _ _ _ _ _ _ _=>rfl
 have BU:=xu.F.bM (ps:=["thing"]) rfl fun _ _ _ _ _ _ _=>rfl
 have BV:=xw.F.cP (ps:=["n","thing"]) rfl fun _ _ _ _ _ _ _ _=>rfl
 have BY:=xx.F.cP (ps:=["n","thing"]) rfl fun _ _ _ _ _ _ _ _=>rfl
 have BZ:=xy.F.bM (ps:=["things"]) rfl fun _ _ _ _ _ _ _=>rfl
 have BW:=xA.F.bM (ps:=["k"]) rfl fun _ _ _ _ _ _ _=>rfl
 have wI:=oB.F.dj (ps:=["groups","a","b"]) rfl fun _ _ _ _ _ _ _ _ _=>rfl
 have wJ:=oE.F.dj (ps:=["layers","a","b"]) rfl fun _ _ _ _ _ _ _ _ _=>rfl
 have wK:=oF.F.dj (ps:=["n","record","k"]) rfl fun _ _ _ _ _ _ _ _ _=>rfl
 have wL:=oG.F.cP (ps:=["n","thing"]) rfl fun _ _ _ _ _ _ _ _=>rfl
 have oq:=oH.F.bM (ps:=["thing"]) rfl fun _ _ _ _ _ _ _=>rfl
 have wZ:=oJ.F.cP (ps:=["cells","many"]) rfl fun _ _ _ _ _ _ _ _=>rfl
 have w4:=oK.F.bM (ps:=["cell"]) rfl fun _ _ _ _ _ _ _=>rfl
 have bC:=oM.F.cP (ps:=["pot","size"]) rfl fun _ _ _ _ _ _ _ _=>rfl
 have wM:=oN.F.cP (ps:=["pot","size"]) rfl fun _ _ _ _ _ _ _ _=>rfl
 have wO:=oO.F.bM (ps:=["pot"]) rfl fun _ _ _ _ _ _ _=>rfl
 have wQ:=oQ.F.bM (ps:=["pot"]) rfl fun _ _ _ _ _ _ _=>rfl
 have oh:=oR.F.dj (ps:=["pot","n","ties"]) rfl fun _ _ _ _ _ _ _ _ _=>rfl
 have wR:=oS.F.dj (ps:=["pot","n","most"]) rfl fun _ _ _ _ _ _ _ _ _=>rfl
 have wU:=oU.F.bM (ps:=["pot"]) rfl fun _ _ _ _ _ _ _=>rfl
 have rY:=oV.F.dj (ps:=["n","ties","k"]) rfl fun _ _ _ _ _ _ _ _ _=>rfl
 have wV:=oW.F.dj (ps:=["n","ties","k"]) rfl fun _ _ _ _ _ _ _ _ _=>rfl
 have w6:=oX.F.bM (ps:=["pot"]) rfl fun _ _ _ _ _ _ _=>rfl
 have wX:=oY.F.dj (ps:=["pot","n","ties"]) rfl fun _ _ _ _ _ _ _ _ _=>rfl
 have oj:=oZ.F.bM (ps:=["thing"]) rfl fun _ _ _ _ _ _ _=>rfl
 have wW:=o6.F.cP (ps:=["n","thing"]) rfl fun _ _ _ _ _ _ _ _=>rfl
 have wY:=o7.F.bM (ps:=["thing"]) rfl fun _ _ _ _ _ _ _=>rfl
 have w_:=o8.F.cP (ps:=["pot","net"]) rfl fun _ _ _ _ _ _ _ _=>rfl
 have ou:=o9.F.cP (ps:=["pot","net"]) rfl fun _ _ _ _ _ _ _ _=>rfl
 have oz:=o_.F.bM (ps:=["thing"]) rfl fun _ _ _ _ _ _ _=>rfl
 refine ⟨_,fun s v=>kU.FH (fun _ _ _ _ _ _ _=>rfl) s v,fun base Xb _=>?_⟩
 have T:Txt mg K base _ _ _ _ _ _ _ _ _ _ _ _ _ _ _ _ _ _ _ _ _ _ _ _ _ _ _ _ _ _ _ _ _ _ _ _ _ _ _ _ _ _ _ _ _ _ _ _ _ _ _ _ _ _ _ _ _ _ _ _ _ _ _ _ _ _ _ _ _ _:=⟨mno X G xB,mno X G xC,mno X G qC,mno X G er,mno X G xD,mno X G dI,mno X G xE,mno X G qD,mno X G xF,mno X G xG,mno X G mG,mno X G fY,mno X G jY,mno X G xH,mno X G mH,mno X G xJ,⟨_,mgo X G eu⟩,xj.m X G,xm.m X G,xo.m X G,xq.m X G,xr.m X G,xu.m X G,xw.m X G,xx.m X G,xy.m X G,xA.m X G,oB.m X G,oE.m X G,oF.m X G,oG.m X G,oH.m X G,oJ.m X G,oK.m X G,oM.m X G,oN.m X G,oO.m X G,oQ.m X G,oR.m X G,oS.m X G,oU.m X G,oV.m X G,oW.m X G,oX.m X G,oY.m X G,oZ.m X G,o6.m X G,o7.m X G,o8.m X G,o9.m X G,o_.m X G,kU.m X G,xj.F,BQ,xm.F,ug,xo.F,xq.F,xr.F,xu.F,yW,BU,xw.F,BV,xx.F,xy.F,yX,xA.F,oB.F,oE.F,BW,wI,wJ,oF.F,BX,BY,BZ,oG.F,wK,wL,oH.F,oJ.F,oK.F,oM.F,bC,oN.F,oO.F,oQ.F,oR.F,wM,oh,oS.F,oU.F,oV.F,rY,oW.F,wO,wQ,wR,wU,wV,oX.F,oY.F,oZ.F,oj,o6.F,wW,o7.F,o8.F,wX,o9.F,oq,wY,o_.F,wZ,w4,w6,w_,ou,oz,kU.F⟩
 exact Ct T
theorem walk {l:PySem.W.OpenLaw} {q:Program} {loose:List Str} {XP:(Str→Option Value)→Heap→Prop} {YP:World→Heap→Prop} {d:DefRec} {K:Params→PySem.W.Frag} (hn:l.most=some 63) (hdf:d.params.defaults=[])
  (hY:∀ (w:World) (h:Heap),YP w h→(K w.params).In h) (M:∀ ns:List Int,ns.length≤63→i7 [.lst (ns.map Dat.int)]=some (.val (.bl true))) (hK:∀ w:World,vd (K w.params)=true)
  (F:∀ (w:World) (mg:Str→Option Value) (fa:Addr) (h:Heap),(K w.params).In h→h.Ns mainGlobals mg→mg d.name=some (.ref fa) →
   ∃ fd:FuncData,(∀ (s:Shared) (u:Value),BindsTo s fd ⟨[u],[]⟩ [("script",u)])∧∀ base:Heap,(K w.params).In base→base.Ns mainGlobals mg→aY l.prog w (K w.params) mg base CX0 9 fa fd ["script"] (spD i7)) :
  PySem.W.WalkO q loose XP YP l.row.toRowW d [] (fun f vs=>PySem.call f vs):=
 L2.x9 (n:=63) (k:=9) (x := "script") (CX:=fun _=>CX0) (sp:=fun _=>spD i7) hn (by decide) hdf ⟨rfl,by decide,by decide,rfl⟩ hY F
  (fun w H a ns hl hO hS=>Bl (M ns hl) (hK w) hS) fun _ _ _ _ _ z=>z
open PySem PySem.W PySem.W.X
theorem xK {q:Program} {loose:List Str} {XP:(Str→Option Value)→Heap→Prop} {r:RowW} {d:DefRec} {kwd:List (Str×Expr)} {run:Value→List Value→Sem Value} {K:Params→Frag} {as:List Addr} {n t:Nat} (e:∀ P,as=(K P).map (·.1))
  (W:WalkO q loose XP (fun w h=>(K w.params).In h) r d kwd run):WalkX q loose XP (obsZ as) (valZ K n t) r d kwd run:=
 fun w s₀ s₁ mg mb G y a o pm cd doc dV kV ho hd hcd hD hmg hg args vals as' L=>W w s₀ s₁ mg mb G (InK.keeps w _ _ (z_facts e y).2.1 L.keeps) a o pm cd doc dV kV ho hd hcd hD hmg hg args vals as'
end Q
noncomputable def PySem.W.Fast.tw10548373694213180540:PySem.Program:=PySem.Challenge.pw_sinceply_k18_nets_known
theorem PySem.W.Fast.te10548373694213180540:PySem.Challenge.pw_sinceply_k18_nets_known=PySem.W.Fast.tw10548373694213180540:=rfl
namespace PySem.W.Fast
def tw18265927704486643677:=0
def tw13697742749026432144:=0
def tw5818220303057892093:=0
def tw18057751186628398308:=0
def tw5679265140037679538:=0
def tw15832599829922752077:=0
def tw2920234023464270036:=0
def tw16665351359306026909:=0
def tw18222779978312319223:=0
def tw7073717094246907166:=0
def tw11012913915142348461:=0
def tw15519374878208745559:=0
def tw5523048856182860749:=0
def tw8958441275787224176:=0
def tw15554217895592486691:=0
def tw2384235204052963877:=0
def tw7309404821535053031:=0
def tw7949673323983954582:=0
def tw3216068723763113351:=0
def tw5841043495059570972:=0
def tw13373766826675724278:=0
def tw3329612753704311331:=0
def tw17799169599607558241:=0
def tw4495901353406174903:=0
def tw16342345465530137793:=0
def tw2296568409591241910:=0
def tw13743165410366172777:=0
def tw8333522716100771670:=0
def tw3874945036824370086:=0
def tw7660254671421937694:=0
def tw3532044645332348103:=0
def tw2284327484611495986:=0
def tw1516457860370943469:=0
def tw9258327946084746744:=0
def tw8010703661388681468:=0
def tw11042595694975149906:=0
def tw4684545943753772087:=0
def tw17410717022076681911:=0
def tw8435830321168255613:=0
def tw2365036754536001721:=0
def tw5058143141312914979:=0
def tw18168517152354675378:=0
def tw546437529575300979:=0
def tw1162790229257468863:=0
def tw7641205826433688304:=0
def tw14249250366771061369:=0
def tw6877076518203462012:=0
def tw10782350314091791368:=0
def tw15356833572513913178:=0
def tw2282744645540927232:=0
def tw8367392365234633895:=0
def tw8344083961981736615:=0
def tw377625009264347790:=0
def tw16528722468358177107:=0
def tw5550829772800454451:=0
def tw12279824751635746789:=0
def tw1326702052322544645:=0
def tw18161884736426118884:=0
def tw6646153034634009737:=0
def tw9702024885818130674:=0
def tw2945773180774629224:=0
def tw15330772048978692466:=0
def tw9593541958402448576:=0
def tw1130880606276490022:=0
def tw16818021030794508340:=0
def tw195574456984865889:=0
def tw10006496483924638537:=0
def tw13472094500438689081:=0
def tw2912025794732685852:=0
def tw14541047750220561171:=0
def tw9111417022132166811:=0
def tw1335599548422806307:=0
def tw10288219033377371931:=0
def tw9737133765204194420:=0
def tw10041213129798373134:=0
def tw1660999336525386400:=0
def tw4293835675799407412:=0
def tw11719767388687400761:=0
def tw11744219098828240610:=0
def tw3629903420716338644:=0
def tw17605768696670063166:=0
def tw18033422509858235845:=0
def tw13167313412923177851:=0
def tw783278999552967415:=0
def tw3684792611840180986:=0
def tw15766294013656756570:=0
def tw14850264150075696355:=0
def tw8221800229687995410:=0
def tw3013259032644887299:=0
def tw15102180598046257966:=0
def tw624071168506740137:=0
def tw6726607638820347636:=0
def tw11770148837055483306:=0
def tw6698317241559974176:=0
def tw15209332646955627776:=0
def tw18036645201256204002:=0
def tw11500649542589505679:=0
def tw16088027639828383677:=0
def tw16225176195756853634:=0
def tw11901261849379333096:=0
def tw13776145294436978007:=0
def tw17124103901895583181:=0
def tw16439326072115957403:=0
def tw5348696027399801325:=0
def tw17867282641761792017:=0
def tw2600958297832495683:=0
def tw1221082302703844043:=0
def tw6354855944081225584:=0
def tw7449576203587717137:=0
def tw1554172034824811062:=0
def tw7804333119591553620:=0
def tw11520732159398199457:=0
def tw13099484825381842389:=0
def tw4732441238950110259:=0
def tw13947430288296366687:=0
def tw8240504961538424861:=0
def tw1888866487465748321:=0
def tw1373426099637065705:=0
def tw4482248058563738901:=0
def tw11599084182438454091:=0
def tw16410720496051336135:=0
def tw1431227226895493517:=0
def tw9314147181343947295:=0
def tw17630825387840922291:=0
def tw15086497007097019797:=0
def tw2181053272725417434:=0
def tw17421121313690634664:=0
def tw7886905977207534681:=0
def tw16644223210212533057:=0
def tw5835648225651815221:=0
def tw14938932783005946171:=0
def tw3050975297469913795:=0
def tw4445566849808321882:=0
def tw9194526094479588533:=0
def tw1138744483491499553:=0
def tw4489654140042280717:=0
def tw14216496165207087265:=0
def tw2715421525950942275:=0
def tw43679278727748276:=0
def tw2625484726361378089:=0
def tw17295639895419874630:=0
def tw17504606026876207155:=0
def tw8806817284321642678:=0
def tw6676782282647928448:=0
def tw6364557603026081149:=0
def tw12941435538143776092:=0
def tw9690118664262688464:=0
def tw6126653340253083168:=0
def tw2831051655213958462:=0
def tw13880824584301267868:=0
def tw548050690308211782:=0
def tw5085827022249786004:=0
def tw14445552938934122882:=0
def tw9792610853250894379:=0
def tw2325683667982003946:=0
def tw6001966508198688066:=0
def tw16584296469484688526:=0
def tw2222120008557103479:=0
def tw13108145357347876613:=0
def tw8732988967830043068:=0
def tw10025928544600493933:=0
def tw17327829343117209395:=0
def tw1625527184597961359:=0
def tw11306426383766682865:=0
def tw9220062670686210780:=0
def tw13368127077270216846:=0
def tw6861641034120148764:=0
def tw15633232801596474879:=0
def tw14960921946332585333:=0
def tw15941680657345497729:=0
def tw6955571894441047161:=0
def tw16453337824648048742:=0
def tw11281220412238190656:=0
def tw17242975742932049205:=0
def tw6014677796406887880:=0
def tw12767901438864064177:=0
def tw5801943960683984555:=0
def tw12290366581002259109:=0
def tw3970982267393089735:=0
def tw2419005773350514196:=0
def tw12831591228372781480:=0
def tw18102183833511461397:=0
def tw12677224563125464238:=0
def tw18214786887687423645:=0
def tw17705212462421008502:=0
def tw14990657534095685938:=0
def tw2242145963687949523:=0
def tw18435154238073992313:=0
def tw3138590926607275320:=0
def tw2521637469923715530:=0
def tw9276782664277764461:=0
def tw4236319661260549200:=0
def tw14996898660777965150:=0
def tw10015722564707855245:=0
def tw11890409918895074217:=0
def tw15865376697234560280:=0
def tw3134835580845266145:=0
def tw8918732479158142337:=0
def tw4727331364767362579:=0
def tw2043774251266440319:=0
def tw715505325162160106:=0
def tw8598915306871724120:=0
def tw6265254339046891158:=0
def tw2689927031838693752:=0
def tw12919309239036787874:=0
def tw13384365653452817651:=0
def tw7629788021392598441:=0
def tw9591730726382975564:=0
def tw13127259964508145899:=0
def tw114047408259092613:=0
def tw7699614523641075558:=0
def tw9008840802682389429:=0
def tw3848938761359329872:=0
def tw11693244557642063013:=0
def tw8746715641188043304:=0
def tw13655418887442479245:=0
def tw18116058451528658232:=0
def tw17690515507141125490:=0
def tw10606081290412213607:=0
def tw7462872713142171010:=0
def tw6443462534081332783:=0
def tw15683824670262369917:=0
def tw17457773783854960523:=0
def tw2551277917751729672:=0
def tw15134722402720965808:=0
def tw8723320480598787513:=0
def tw7636817706893161235:=0
def tw5204498994801106314:=0
def tw14429001207330286736:=0
def tw8450711851438982818:=0
def tw2763293540888796623:=0
def tw6654225312748750405:=0
def tw3686666067720078711:=0
def tw16796641659483439762:=0
def tw8167230471554755308:=0
def tw10020249297924369527:=0
def tw8369354032267920227:=0
def tw12751768735855622362:=0
def tw8850612594543836508:=0
def tw1461813301655567076:=0
end PySem.W.Fast
open PySem PySem.W PyProof.Rows
set_option maxRecDepth 100000 in
set_option maxHeartbeats 0 in
theorem PySem.Challenge.cw_sinceply_k18_nets_known_holds : PySem.Challenge.rw_sinceply_k18_nets_known.Holds := by
 w_on;o_law;z_head;(case hw=>w_witness2)
 k_fill
 refine' Q.xK (fun _=>rfl) (Q.walk (l:=PySem.Challenge.rw_sinceply_k18_nets_known) rfl rfl (fun w h Y=>Y) P.math ?noL ?fnS)
 case noL=>intro w;rfl
 case fnS=>
  intro w mg fa h KX G hmg
  refine' Q.all_mk KX G hmg ?xj ?xm ?xo ?xq ?xr ?xu ?xw ?xx ?xy ?xA ?oB ?oE ?oF ?oG ?oH ?oJ ?oK ?oM ?oN ?oO ?oQ ?oR ?oS ?oU ?oV ?oW ?oX ?oY ?oZ ?o6 ?o7 ?o8 ?o9 ?o_ ?kU ?xB ?xC ?qC ?er ?xD ?dI ?xE ?qD ?xF ?xG ?mG ?fY ?jY ?xH ?mH ?xJ ?eu
  case xj|xm|xo|xq|xr|xu|xw|xx|xy|xA|oB|oE|oF|oG|oH|oJ|oK|oM|oN|oO|oQ|oR|oS|oU|oV|oW|oX|oY|oZ|o6|o7|o8|o9|o_|kU=>refine' Br.aI ?e ?l ?c ?k;(case e=>k_is);(case l=>k_is);(case c=>k_is);(case k=>k_is)
  case xB|xC|qC|er|xD|dI|xE|qD|xF|xG|mG|fY|jY|xH|mH|xJ|eu=>k_is
end
