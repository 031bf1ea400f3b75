import PyProof.Rows.All
import Wide.All
import OpenK.AllK
import Wide.FinOn
import Lean
import PyProof.EqAt
import PyProof.EqKinds
import PyProof.TupleCall
import KE.KRevIter
import PyProof.EnumMake
import PyProof.EnumFor
import PyProof.ListRange
import PyProof.Rows.Range3
import PyProof.ZipIter
import PyProof.SumWalk
import PyProof.WalksMore
import PyProof.Rows.SetFrom
import PyProof.SetRoads
import PyProof.Rows.SortRunsK
import PyProof.Rows.SortWalk
import KE.KSortTup
import PyProof.Rows.Own
import PyProof.StationsW
import OpenK.KRaise
import KE.KIsAll
import PyProof.ExcArgsOwn
import PyProof.RulesAs
import PyProof.Ns1
import PyProof.Rows.Catch
import OpenK.KOwn
import PyProof.ExcBaseAll.ValueError
import KE.KDictSum
import PyProof.AttrMiss
import PyProof.IsiH_list
import KE.KDictOf
import PyProof.DictList
import KE.KDictList
import PyProof.FactsAll.set
import PyProof.Rows.TupAdd
import KE.KDictMeth
import PyProof.DictWalks
import PyProof.TupleKey
import PyProof.DictStraight
import PyProof.IsRules
import KE.KRevSl
import PySem.Challenge.RW_sinceply_k67_whole_nets_in_pieces
noncomputable section
set_option Elab.async false
set_option linter.all false

set_option maxRecDepth 100000
namespace L2
open PySem PySem.Spec PyProof.Rows
noncomputable abbrev Key:=Sum Int Str
noncomputable def B9:Key→Value→Bool
 | .inl k,v=>Value.isInt k v
 | .inr x,v=>Value.isStrOf x v
noncomputable def Jl (w:World):Key→Int
 | .inl k=>hashInt k
 | .inr x=>hashStr w x
theorem aX:∀ {k:Key} {v:Value},B9 k v=true→(∃ i t,k=Sum.inl i∧v=Value.int i t)∨(∃ x t,k=Sum.inr x∧v=Value.str x t)
 | .inl i,v,h=>by
  obtain ⟨t,e⟩:=Value.isInt_shape (k:=i) (v:=v) h
  exact .inl ⟨i,t,rfl,e⟩
 | .inr x,v,h=>by
  obtain ⟨t,e⟩:=Value.isStrOf_shape (x:=x) (v:=v) h
  exact .inr ⟨x,t,rfl,e⟩
theorem Dg (a b:Int):decide ((Sum.inl a:Key)=Sum.inl b)=(a == b):=by
 by_cases e:a=b
 ·subst e;simp
 ·have h:¬ (Sum.inl a:Key)=Sum.inl b:=fun q=>e (Sum.inl.inj q)
  rw [decide_eq_false h]
  exact (beq_eq_false_iff_ne.mpr e).symm
theorem Dh (a b:Str):decide ((Sum.inr a:Key)=Sum.inr b)=decide (a=b):=by
 by_cases e:a=b
 ·subst e;simp
 ·have h:¬ (Sum.inr a:Key)=Sum.inr b:=fun q=>e (Sum.inr.inj q)
  rw [decide_eq_false h,decide_eq_false e]
theorem Di (a:Int) (b:Str):decide ((Sum.inl a:Key)=Sum.inr b)=false:=decide_eq_false (fun q=>nomatch q)
theorem Dj (a:Str) (b:Int):decide ((Sum.inr a:Key)=Sum.inl b)=false:=decide_eq_false (fun q=>nomatch q)
noncomputable def tw (prog:Program) (w:World):PySem.KeyKind prog w Key where
 is:=B9
 hash:=Jl w
 inj:=fun v a b ha hb=>by
  rcases aX ha with ⟨i,t,rfl,rfl⟩ | ⟨x,t,rfl,rfl⟩
  ·rcases aX hb with ⟨j,u,rfl,e⟩ | ⟨y,u,rfl,e⟩
   ·injection e with e1 _;rw [e1]
   ·exact nomatch e
  ·rcases aX hb with ⟨j,u,rfl,e⟩ | ⟨y,u,rfl,e⟩
   ·exact nomatch e
   ·injection e with e1 _;rw [e1]
 byValue:=fun k v h=>by
  rcases aX h with ⟨i,t,rfl,rfl⟩ | ⟨x,t,rfl,rfl⟩<;>rfl
 pyHash:=fun hv h=>by
  rcases aX hv with ⟨i,t,rfl,rfl⟩ | ⟨x,t,rfl,rfl⟩
  ·exact wpAny_pyHash_int h
  ·exact wpAny_pyHash_str h
 eqBool:=fun hu hv h=>by
  rcases aX hu with ⟨i,t,rfl,rfl⟩ | ⟨x,t,rfl,rfl⟩
  ·rcases aX hv with ⟨j,u,rfl,rfl⟩ | ⟨y,u,rfl,rfl⟩
   ·rw [Dg] at h;exact wpAny_eqBool_int h
   ·rw [Di] at h;exact SeqAt.EqAt.int_str i t y u _ _ _ _ h
  ·rcases aX hv with ⟨j,u,rfl,rfl⟩ | ⟨y,u,rfl,rfl⟩
   ·rw [Dj] at h;exact SeqAt.EqAt.str_int x t j u _ _ _ _ h
   ·rw [Dh] at h;exact wpAny_eqBool_str h
 «strs»:=fun k x t v h=>by
  rcases aX h with ⟨i,u,rfl,e⟩ | ⟨y,u,rfl,e⟩
  ·exact nomatch e
  ·injection e with e1 _
   subst e1
   cases v<;>rfl
inductive V where
 | non | bl (b:Bool) | int (i:Int) | str (x:Str) | byt (b:Array UInt8) | flt (b:UInt64) | ref (a:Addr) | ty (n:String)
 deriving DecidableEq
noncomputable def RelV:V→Value→Prop
 | .non,u=>u=Value.none
 | .bl b,u=>u=Value.bool b
 | .int i,u=>∃ t,u=Value.int i t
 | .str x,u=>∃ t,u=Value.str x t
 | .byt b,u=>∃ t,u=Value.bytes b t
 | .flt b,u=>∃ t,u=Value.float b t
 | .ref a,u=>u=Value.ref a
 | .ty n,u=>u=Value.type n
noncomputable abbrev Vals:List V→List Value→Prop:=Paired RelV
theorem Vals.length {xs:List V} {us:List Value} (r:Vals xs us):xs.length=us.length:=Paired.length r
theorem Vals.get:∀ {xs:List V} {us:List Value} {i:Nat} {x:V},Vals xs us→xs[i]?=some x→∃ u,us[i]?=some u∧RelV x u
 | _,_,_,_,.nil,e=>by simp at e
 | _,_,0,_,.cons r _,e=>by simp at e;subst e;exact ⟨_,rfl,r⟩
 | _,_,i+1,x,.cons _ t,e=>by
  obtain ⟨u,h1,h2⟩:=Vals.get (i:=i) (x:=x) t (by simpa using e)
  exact ⟨u,by simpa using h1,h2⟩
theorem Vals.set {x:V} {u:Value} (r:RelV x u):∀ {xs:List V} {us:List Value} (i:Nat),Vals xs us→Vals (xs.set i x) (us.set i u)
 | _,_,_,.nil=>.nil
 | _,_,0,.cons _ t=>.cons r t
 | _,_,i+1,.cons q t=>.cons q (Vals.set r i t)
theorem Vals.append:∀ {xs ys:List V} {us ws:List Value},Vals xs us→Vals ys ws→Vals (xs++ys) (us++ws)
 | _,_,_,_,.nil,s=>s
 | _,_,_,_,.cons r t,s=>.cons r (Vals.append t s)
noncomputable def Dl:Option V→Option Value→Prop
 | some v,some u=>RelV v u
 | none,none=>True
 | _,_=>False
noncomputable def KV {κ:Type}:List (κ×V)→List (κ×Value)→Prop:=Paired fun (p:κ×V) (q:κ×Value)=>p.1=q.1∧RelV p.2 q.2
noncomputable def kV:Key→V
 | .inl i=>.int i
 | .inr x=>.str x
inductive HO where
 | lst (xs:List V)
 | tup (xs:List V)
 | dK (kvs:List (Key×V)) | dT (kvs:List (List Key×V))
 | set (S:Int→Bool) (n:Nat)
 | ins (C dx:Addr) (fs:List (Str×V))
 | own (x:Addr)
 | xd (fs:List (Str×V))
 | met (f x:Addr)
 | rng (lo hi:Int)
 | frz (o:Obj) (u:HO)
 | tbl (ps:Array Value)
 | ext (φ:Heap→Prop)
noncomputable abbrev Hp:=Addr→Option HO
noncomputable def upd (H:Hp) (a:Addr) (o:HO):Hp:=fun b=>if b=a then some o else H b
theorem aD {H:Hp} {a:Addr} {o:HO}:upd H a o a=some o:=by unfold upd;rw [if_pos rfl]
theorem av {H:Hp} {a b:Addr} {o:HO} (h:b≠a):upd H a o b=H b:=by unfold upd;rw [if_neg h]
theorem aH {H:Hp} {a b:Addr} {o:HO} (h:H a=some o) (h':H b=none):a≠b:=by
 intro e;subst e;rw [h] at h';cases h'
section
variable (P:Program) (w:World)
noncomputable def bh (H:Hp) (h:Heap) (a:Addr):HO→Prop
 | .lst xs=>xs.length≤sizeLine∧∃ (its:List Value) (n:Nat),Vals xs its∧h.get? a=some { cls:=.type "list",data:=.seq its.toArray n }
 | .tup xs=>xs.length≤sizeLine∧∃ its:List Value,Vals xs its∧IsTup h a its.toArray
 | .dK kvs=>kvs.length≤sizeLine∧(a == sysModules)=false∧∃ vs,KV kvs vs∧h.DictOf (tw P w) a vs
 | .dT kvs=>kvs.length≤sizeLine∧(a == sysModules)=false∧∃ xs:List (List Key×Addr×Value),
   Paired (fun (p:List Key×V) (q:List Key×Addr×Value)=>p.1=q.1∧H q.2.1=some (.tup (p.1.map kV))∧RelV p.2 q.2.2) kvs xs ∧
   ∃ o es ep,h.get? a=some o∧o.ExactDict∧o.data=.dict es ep∧es.toList=xs.map (entryOfKey (tupleKind (tw P w)))∧(xs.map (·.1)).Nodup
 | .set S n=>h.SetOf (intKind P w) a S n
 | .ins C dx fs=>H dx=some (.own a)∧fs.length≤1000∧dx≠a∧h.get? a=some (PySem.W.instObj C dx) ∧
   ∃ mA,h.Ns1 dx mA∧(∀ f,Dl (fs.lookup f) (mA f))∧PySem.Within mA (fs.map (·.1))
 | .own _=>∃ o,h.get? a=some o
 | .xd fs=>∃ mA,h.Ns1 a mA∧∀ f,Dl (fs.lookup f) (mA f)
 | .rng lo hi=>∃ t u v,h.get? a=some { cls:=.type "range",data:=.fields #[.int lo t,.int hi u,.int 1 v] }
 | .frz o u=>h.get? a=some o∧bh H h a u
 | .tbl ps=>h.get? a=some { cls:=.none,data:=.fields ps }
 | .met f x=>h.get? a=some (PySem.W.methodObj (.ref f) (.ref x))
 | .ext φ=>φ h∧(∃ o,h.get? a=some o)∧∀ h1 h2:Heap,φ h1→(∀ o,h1.get? a=some o→h2.get? a=some o)→φ h2
noncomputable def HOk (H:Hp) (h:Heap):Prop:=∀ a o,H a=some o→bh P w H h a o
end
section
variable {P:Program} {w:World} {H H':Hp} {h h':Heap} {a:Addr} {o:HO}
theorem bh.lt (x:bh P w H h a o):a<h.objs.size:=by
 cases o with
 | lst xs=>obtain ⟨_,_,_,_,e⟩:=x;exact Heap.lt_size e
 | tup xs=>obtain ⟨_,_,_,p⟩:=x;exact p.lt
 | dK kvs=>obtain ⟨_,_,_,_,o,_,_,e,_⟩:=x;exact Heap.lt_size e
 | dT kvs=>obtain ⟨_,_,_,_,o,_,_,e,_⟩:=x;exact Heap.lt_size e
 | set S n=>obtain ⟨o,_,_,_,e,_⟩:=x;exact Heap.lt_size e
 | ins C dx fs=>obtain ⟨_,_,_,e,_⟩:=x;exact Heap.lt_size e
 | own y=>obtain ⟨_,e⟩:=x;exact Heap.lt_size e
 | xd fs=>obtain ⟨_,⟨_,_,_,e,_⟩,_⟩:=x;exact Heap.lt_size e
 | rng lo hi=>obtain ⟨_,_,_,e⟩:=x;exact Heap.lt_size e
 | frz ob u=>obtain ⟨e,_⟩:=x;exact Heap.lt_size e
 | tbl ps=>exact Heap.lt_size (show h.get? a=some _ from x)
 | met f y=>exact Heap.lt_size (show h.get? a=some _ from x)
 | ext φ=>obtain ⟨_,⟨_,e⟩,_⟩:=x;exact Heap.lt_size e
theorem Paired.Gq {α β:Type} {F G:α→β→Prop}:∀ {l₁:List α} {l₂:List β},Paired F l₁ l₂→(∀ a b,F a b→G a b)→Paired G l₁ l₂
 | _,_,.nil,_=>.nil
 | _,_,.cons r t,f=>.cons (f _ _ r) (Paired.Gq t f)
theorem bh.stay (x:bh P w H h a o) (k:∀ b u,(b=a∨H b=some (.own a))→h.get? b=some u→h'.get? b=some u)
  (ho:∀ b,H b=some (.own a)→H' b=some (.own a)) (ht:∀ b xs,H b=some (.tup xs)→H' b=some (.tup xs)):bh P w H' h' a o:=by
 induction o with
 | lst xs=>obtain ⟨z,its,n,r,e⟩:=x;exact ⟨z,its,n,r,k _ _ (.inl rfl) e⟩
 | tup xs=>obtain ⟨z,its,r,ob,e,c⟩:=x;exact ⟨z,its,r,ob,k _ _ (.inl rfl) e,c⟩
 | dK kvs=>obtain ⟨z,y,vs,r,ob,es,ep,e,c⟩:=x;exact ⟨z,y,vs,r,ob,es,ep,k _ _ (.inl rfl) e,c⟩
 | dT kvs=>
  obtain ⟨z,y,xs,r,ob,es,ep,e,c⟩:=x
  exact ⟨z,y,xs,Paired.Gq r fun p q z=>⟨z.1,ht _ _ z.2.1,z.2.2⟩,ob,es,ep,k _ _ (.inl rfl) e,c⟩
 | set S n=>obtain ⟨ob,es,ep,t,e,c⟩:=x;exact ⟨ob,es,ep,t,k _ _ (.inl rfl) e,c⟩
 | ins C dx fs=>
  obtain ⟨d,z,ne,e,mA,⟨od,es,ep,e2,c⟩,r⟩:=x
  exact ⟨ho _ d,z,ne,k _ _ (.inl rfl) e,mA,⟨od,es,ep,k _ _ (.inr d) e2,c⟩,r⟩
 | own y=>obtain ⟨ob,e⟩:=x;exact ⟨ob,k _ _ (.inl rfl) e⟩
 | xd fs=>obtain ⟨mA,⟨od,es,ep,e,c⟩,r⟩:=x;exact ⟨mA,⟨od,es,ep,k _ _ (.inl rfl) e,c⟩,r⟩
 | rng lo hi=>obtain ⟨t,u,v,e⟩:=x;exact ⟨t,u,v,k _ _ (.inl rfl) e⟩
 | frz ob u ih=>obtain ⟨e,q⟩:=x;exact ⟨k _ _ (.inl rfl) e,ih q⟩
 | tbl ps=>
  have e:h.get? a=some { cls:=.none,data:=.fields ps }:=x
  show h'.get? a=some { cls:=.none,data:=.fields ps }
  exact k a _ (.inl rfl) e
 | met f y=>
  have e:h.get? a=some (PySem.W.methodObj (.ref f) (.ref y)):=x
  show h'.get? a=some (PySem.W.methodObj (.ref f) (.ref y))
  exact k a _ (.inl rfl) e
 | ext φ=>obtain ⟨p,⟨o,e⟩,st⟩:=x;exact ⟨st _ _ p fun o q=>k _ _ (.inl rfl) q,⟨o,k _ _ (.inl rfl) e⟩,st⟩
theorem HOk.lt (x:HOk P w H h) (e:H a=some o):a<h.objs.size:=(x a o e).lt
theorem HOk.fresh (x:HOk P w H h) (e:h.objs.size≤a):H a=none:=by
 cases q:H a with
 | none=>rfl
 | some u=>exact absurd (Nat.lt_of_lt_of_le (x.lt q) e) (Nat.lt_irrefl _)
theorem HOk.kept (x:HOk P w H h) (k:∀ b u,h.get? b=some u→h'.get? b=some u):HOk P w H h':=fun a o e=>
 (x a o e).stay (fun b u _ q=>k b u q) (fun _ q=>q) fun _ _ q=>q
theorem HOk.laid (x:HOk P w H h) (k:∀ b u,h.get? b=some u→h'.get? b=some u) (hp:h.objs.size≤a) (new:bh P w (upd H a o) h' a o):HOk P w (upd H a o) h':=fun b u e=>by
 have hn:=x.fresh hp
 by_cases hb:b=a
 ·subst hb;rw [aD] at e;cases e;exact new
 ·rw [av hb] at e
  exact (x b u e).stay (fun c v _ q=>k c v q) (fun c q=>by rw [av (aH q hn)];exact q) fun c xs q=>by rw [av (aH q hn)];exact q
end
noncomputable def Rd (H:Hp) (a:Addr) (u:HO):Prop:=H a=some u∨∃ o,H a=some (.frz o u)
theorem Rd.ok {P:Program} {w:World} {H:Hp} {h:Heap} {a:Addr} {u:HO} (r:Rd H a u) (x:HOk P w H h):bh P w H h a u:=by
 rcases r with r | ⟨o,r⟩
 ·exact x a u r
 ·obtain ⟨_,q⟩:=x a _ r
  exact q
noncomputable def Mut:Option HO→Prop
 | some (.lst _)=>True
 | some (.dK _)=>True
 | some (.dT _)=>True
 | some (.set _ _)=>True
 | some (.ins _ _ _)=>True
 | some (.ext _)=>True
 | _=>False
section
variable {P:Program} {w:World} {H:Hp} {h h':Heap} {x e:Addr} {o':HO}
theorem HOk.write (ok:HOk P w H h) (mu:Mut (H x)) (he:e=x∨H e=some (.own x)) (k:∀ b u,b≠e→h.get? b=some u→h'.get? b=some u) (heo:∃ u,h'.get? e=some u)
  (new:bh P w (upd H x o') h' x o'):HOk P w (upd H x o') h':=fun b u q=>by
 have Gr:∀ c y,H c=some (.own y)→c≠x:=fun c y r z=>by subst z;rw [r] at mu;exact mu
 have Jm:∀ c xs,H c=some (.tup xs)→c≠x:=fun c xs r z=>by subst z;rw [r] at mu;exact mu
 by_cases hb:b=x
 ·subst hb;rw [aD] at q;cases q;exact new
 ·rw [av hb] at q
  by_cases hbe:b=e
  ·have q':H b=some (.own x):=by
    rcases he with z | z
    ·exact absurd (hbe.trans z) hb
    ·rw [hbe];exact z
   rw [q] at q';cases q'
   obtain ⟨v,hv⟩:=heo
   exact ⟨v,by rw [hbe];exact hv⟩
  ·refine (ok b u q).stay (fun c v hc r=>k c v ?_ r) (fun c r=>by rw [av (Gr c b r)];exact r) fun c xs r=>by rw [av (Jm c xs r)];exact r
   rcases hc with rfl | hc
   ·exact hbe
   ·rintro rfl
    rcases he with z | z
    ·exact Gr c b hc z
    ·rw [hc] at z;cases z;exact hb rfl
end
structure Un (fs ex:List Addr) (H H':Hp) (h h':Heap):Prop where
 keep:∀ b o,h.get? b=some o→H b=none→b∉fs→b∉ex→h'.get? b=some o
 slot:∀ b o,h.get? b=some o→H b=none→b∈fs→b∉ex→∃ sl,h'.get? b=some { o with slots:=sl }
 free:∀ b o,h.get? b=some o→H b=none→b∉ex→H' b=none
 there:∀ b o,h.get? b=some o→b∉ex→∃ o',h'.get? b=some o'
 tups:∀ b xs,H b=some (.tup xs)→H' b=some (.tup xs)
 mU:∀ b o u,H b=some (.frz o u)→H' b=some (.frz o u)
 ou:∀ b ps,H b=some (.tbl ps)→∃ more,H' b=some (.tbl (ps++more))
section
variable {fs fs' ex ex':List Addr} {H H1 H2:Hp} {h h1 h2 h':Heap} {a x e:Addr} {o:HO}
theorem Un.any (u:Un fs ex H H1 h h1) {b:Addr} {ob:Obj} (q:h.get? b=some ob) (n:H b=none) (hx:b∉ex):∃ sl,h1.get? b=some { ob with slots:=sl }:=by
 by_cases hb:b∈fs
 ·exact u.slot b ob q n hb hx
 ·exact ⟨ob.slots,u.keep b ob q n hb hx⟩
theorem Un.kept (k:∀ b u,h.get? b=some u→h'.get? b=some u):Un fs ex H H h h':=
 ⟨fun b ob q _ _ _=>k b ob q,fun b ob q _ _ _=>⟨ob.slots,k b ob q⟩,fun _ _ _ n _=>n,fun b ob q _=>⟨ob,k b ob q⟩,fun _ _ q=>q,fun _ _ _ q=>q,fun _ ps q=>⟨#[],by rw [q];simp⟩⟩
theorem Un.refl:Un fs ex H H h h:=Un.kept fun _ _ q=>q
theorem Un.laid (k:∀ b u,h.get? b=some u→h'.get? b=some u) (hp:h.objs.size≤a) (hn:H a=none):Un fs ex H (upd H a o) h h' where
 keep:=fun b u q _ _ _=>k b u q
 slot:=fun b u q _ _ _=>⟨u.slots,k b u q⟩
 free:=fun b u q n _=>by rw [av (Nat.ne_of_lt (Nat.lt_of_lt_of_le (Heap.lt_size q) hp))];exact n
 there:=fun b u q _=>⟨u,k b u q⟩
 tups:=fun b xs q=>by rw [av (aH q hn)];exact q
 mU:=fun b u xs q=>by rw [av (aH q hn)];exact q
 ou:=fun b ps q=>⟨#[],by rw [av (aH q hn),q];simp⟩
theorem Un.write (mu:Mut (H x)) (he:e=x∨H e=some (.own x)) (k:∀ b u,b≠e→h.get? b=some u→h'.get? b=some u) (heo:∃ u,h'.get? e=some u):Un fs ex H (upd H x o) h h':=by
 have hx:∀ b,H b=none→b≠x:=fun b n z=>by subst z;rw [n] at mu;exact mu
 have hb:∀ b,H b=none→b≠e:=fun b n z=>by
  subst z
  rcases he with r | r
  ·exact hx b n r
  ·rw [n] at r;cases r
 have hm:∀ b u,H b=some u→¬ Mut (some u)→b≠x:=fun b u q nm z=>by subst z;rw [q] at mu;exact nm mu
 refine ⟨fun b u q n _ _=>k b u (hb b n) q,fun b u q n _ _=>⟨u.slots,k b u (hb b n) q⟩,fun b u q n _=>by rw [av (hx b n)];exact n,fun b u q _=>?_,
  fun b xs q=>by rw [av (hm b _ q fun z=>z)];exact q,fun b u xs q=>by rw [av (hm b _ q fun z=>z)];exact q,fun b ps q=>⟨#[],by rw [av (hm b _ q fun z=>z),q];simp⟩⟩
 by_cases hbe:b=e
 ·subst hbe;exact heo
 ·exact ⟨u,k b u hbe q⟩
end
noncomputable def trk (h:Heap) (H:Hp):List Addr:=(List.range h.objs.size).filter fun a=>(H a).isSome
noncomputable def mV (h:Heap) (H:Hp):Heap:=PySem.W.hideAll h (trk h H)
theorem u7 (h:Heap) (H:Hp):(mV h H).objs.size=h.objs.size:=PySem.W.hideAll_size _ _
theorem wC {h:Heap} {H:Hp} {b:Addr} {o:Obj} (e:h.get? b=some o) (n:H b=none):(mV h H).get? b=some o:=
 PySem.W.hideAll_get _ e fun hm=>by
  have q:(H b).isSome=true:=(List.mem_filter.mp hm).2
  rw [n] at q;simp at q
theorem Am {h:Heap} {H:Hp} {b:Addr} {o:Obj} (e:(mV h H).get? b=some o):h.get? b=some o∧H b=none:=by
 have e':h.get? b=some o:=PySem.W.of_hideAll (trk h H) e
 refine ⟨e',?_⟩
 cases q:H b with
 | none=>rfl
 | some x=>
  have hm:b∈trk h H:=List.mem_filter.mpr ⟨List.mem_range.mpr (Heap.lt_size e'),by simp [q]⟩
  have z:(mV h H).get? b=none:=PySem.W.hideAll_none (trk h H) hm
  rw [z] at e;cases e
structure Mod (K:PySem.W.Frag) (mg:Str→Option Value) (base:Heap):Prop where
 kin:K.In base
 glob:base.Ns mainGlobals mg
 blt:∃ mb,base.Ns builtinsNs mb∧∀ x:Str,x ≠ "__name__" → mb x=bootBuiltins x
 nolimit:base.NoLimit
structure Cx where
 prog:Program
 w:World
 K:PySem.W.Frag
 mg:Str→Option Value
 base:Heap
 A:Around
 N:List Str
 s₀:Shared
 H₀:Hp
 env:Env
 outer:List Env
 stack:List Env
 ex:List Addr
 fn:Str→Bool
 calm:Bool
 pn:List (Addr×Obj)
 xe:Value→Shared→Prop
noncomputable def frs (l:List Env):List Addr:=l.filterMap (·.frame)
noncomputable abbrev Cx.fs (X:Cx):List Addr:=frs X.outer
noncomputable def Vis (sc:Scope) (x:Str):Prop:=sc.names.lookup x=some .local∨sc.names.lookup x=some .cell∨sc.names.lookup x=some .free
noncomputable def Loc (sc:Scope) (x:Str):Prop:=sc.names.lookup x=some .local∨sc.names.lookup x=some .cell
noncomputable def Look (env:Env) (h:Heap) (m:Str→Option Value) (x:Str) (u:Value):Prop:=
 (env.kindOf x=some .local∧m x=some u)∨((env.kindOf x=some .cell∨env.kindOf x=some .free)∧∃ c,env.cells.lookup x=some c∧h.IsCell c (some u))
structure Cx.Ok (X:Cx):Prop where
 mod:Mod X.K X.mg X.base
 kind:X.env.scope.kind=.function
 glob:X.env.globals=mainGlobals
 blt:X.env.builtins=builtinsNs
 above:X.s₀.heap.objs.size≤X.env.locals
 inj:∀ x y c,X.env.cells.lookup x=some c→X.env.cells.lookup y=some c→x=y
 has:∀ x,(X.env.kindOf x=some .cell∨X.env.kindOf x=some .free)→∃ c,X.env.cells.lookup x=some c
 cab:∀ x c,X.fn x=true→X.env.cells.lookup x=some c→X.s₀.heap.objs.size≤c
 hd:X.calm=true→X.A.handled=none
 frames:X.A.frames=some X.stack
 stk:X.stack=X.outer∨(X.stack=X.env::X.outer∧X.env.frame=some X.env.locals)
 exf:∀ b∈X.ex,b≠X.env.locals∧∀ x c,X.env.cells.lookup x=some c→c≠b
 bs:∀ b o,X.base.get? b=some o→X.s₀.heap.get? b=some o∧X.H₀ b=none
 bsz:X.base.objs.size≤X.s₀.heap.objs.size
 wD:∀ b o,X.base.get? b=some o→b∉X.ex
 An:∀ b∈X.ex,b∉X.fs
 jf:X.s₀.heap.FunFrames X.base X.outer
 frf:∀ b∈X.fs,X.H₀ b=none
structure Inv (X:Cx) (pins:List (Addr×Obj)) (σ:List (Option V)) (H:Hp) (s:Shared):Prop where
 ok:X.Ok
 os:s.os=X.s₀.os
 bare:AllBare s.gens
 base:Un X.fs X.ex X.H₀ H X.s₀.heap s.heap
 loc:∃ m,s.heap.Ns X.env.locals m∧∀ (i:Nat) (x:Str) (v:V),X.N[i]?=some x→σ[i]?=some (some v)→Vis X.env.scope x→∃ u,RelV v u∧Look X.env s.heap m x u
 cell:∀ x c,X.env.cells.lookup x=some c→∃ v,s.heap.IsCell c v
 free:H X.env.locals=none
 fk:∀ x c,X.env.cells.lookup x=some c→H c=none
 pin:∀ p∈X.pn++pins,s.heap.get? p.1=some p.2∧H p.1=none∧p.1≠X.env.locals∧p.1∉X.fs∧∀ v,p.2.data≠.cell v
 hok:HOk X.prog X.w H s.heap
 len:σ.length=X.N.length
section
variable {X:Cx} {pins:List (Addr×Obj)} {σ:List (Option V)} {H H':Hp} {s:Shared} {h':Heap}
theorem Cx.Ok.Jo (ok:X.Ok) {b:Addr} {o:Obj} (e:X.base.get? b=some o):b∉X.fs:=fun hb=>by
 have:=(ok.jf.mem hb).1
 rw [e] at this;cases this
theorem Inv.bs (I:Inv X pins σ H s):∀ b o,X.base.get? b=some o→s.heap.get? b=some o∧H b=none:=fun b o e=>
 ⟨I.base.keep b o (I.ok.bs b o e).1 (I.ok.bs b o e).2 (I.ok.Jo e) (I.ok.wD b o e),I.base.free b o (I.ok.bs b o e).1 (I.ok.bs b o e).2 (I.ok.wD b o e)⟩
theorem Inv.bk (I:Inv X pins σ H s):∀ b o,X.base.get? b=some o→s.heap.get? b=some o:=fun b o e=>(I.bs b o e).1
theorem Inv.mod (I:Inv X pins σ H s):Mod X.K X.mg X.base:=I.ok.mod
theorem Inv.kIn (I:Inv X pins σ H s):X.K.In s.heap:=I.ok.mod.kin.keeps I.bk
theorem Inv.lt (I:Inv X pins σ H s):X.env.locals<s.heap.objs.size:=let ⟨_,hn,_⟩:=I.loc;hn.lt
theorem Inv.sz (I:Inv X pins σ H s):X.s₀.heap.objs.size≤s.heap.objs.size:=Nat.le_trans I.ok.above (Nat.le_of_lt I.lt)
theorem Inv.Jp (I:Inv X pins σ H s) {a:Addr} (h:s.heap.objs.size≤a):a∉X.fs:=fun hb=>by
 obtain ⟨_,o,ho,_⟩:=I.ok.jf.mem hb
 exact absurd (Nat.lt_of_lt_of_le (Heap.lt_size ho) (Nat.le_trans I.sz h)) (Nat.lt_irrefl _)
theorem Inv.cne (I:Inv X pins σ H s):∀ x c,X.env.cells.lookup x=some c→c≠X.env.locals:=fun x c e z=>by
 obtain ⟨v,o,ho,hd⟩:=I.cell x c e
 obtain ⟨m,⟨o',es,ep,ho',hd',_⟩,_⟩:=I.loc
 rw [z,ho'] at ho;cases ho;rw [hd'] at hd;cases hd
theorem Inv.jf (I:Inv X pins σ H s):s.heap.FunFrames X.base X.outer:=by
 have all:∀ (l:List Env),(∀ b∈frs l,b∈X.fs)→X.s₀.heap.FunFrames X.base l→s.heap.FunFrames X.base l:=by
  intro l
  induction l with
  | nil=>intro _ _;trivial
  | cons env r ih=>
   intro hs hl
   obtain ⟨hk,⟨L,o,hf,hn,ho,hd⟩,hr⟩:=hl
   have hL:L∈X.fs:=hs L (by unfold frs;rw [List.filterMap_cons,hf];exact List.mem_cons_self)
   obtain ⟨sl,e⟩:=I.base.slot L o ho (I.ok.frf L hL) hL fun z=>I.ok.An L z hL
   exact ⟨hk,⟨L,_,hf,hn,e,hd⟩,ih (fun b hb=>hs b (by unfold frs;rw [List.filterMap_cons,hf];exact List.mem_cons_of_mem _ hb)) hr⟩
 exact all X.outer (fun _ hb=>hb) I.ok.jf
theorem Inv.stack (I:Inv X pins σ H s):s.heap.FunFrames X.base X.stack:=by
 rcases I.ok.stk with e | ⟨e,hf⟩
 ·rw [e];exact I.jf
 ·rw [e]
  obtain ⟨m,hn,_⟩:=I.loc
  refine .cons (by rw [I.ok.kind];decide) hf hn ?_ I.jf
  exact Heap.get?_none_of_le (Nat.le_trans I.ok.bsz I.ok.above)
theorem Inv.qW (I:Inv X pins σ H s):∀ b∈frs X.stack,b∈X.env.locals::X.fs:=fun b hb=>by
 rcases I.ok.stk with e | ⟨e,hf⟩
 ·rw [e] at hb;exact List.mem_cons_of_mem _ hb
 ·rw [e] at hb
  unfold frs at hb
  rw [List.filterMap_cons,hf] at hb
  exact hb
theorem Inv.tE (I:Inv X pins σ H s):∀ b∈frs X.stack,H b=none:=fun b hb=>by
 rcases List.mem_cons.mp (I.qW b hb) with e | hb
 ·rw [e];exact I.free
 ·obtain ⟨_,o,ho,_⟩:=I.ok.jf.mem hb
  exact I.base.free b o ho (I.ok.frf b hb) fun z=>I.ok.An b z hb
theorem Inv.step {g':Array GenState} {t':Nat} {d':Drawn} {ch:List Addr} (I:Inv X pins σ H s)
  (hch:∀ b∈ch,(b∈X.ex∨X.s₀.heap.objs.size≤b)∧b≠X.env.locals∧(∀ x c,X.env.cells.lookup x=some c→c≠b)∧∀ p∈X.pn++pins,p.1≠b)
  (keep:∀ b o,b≠X.env.locals→b∉X.fs→b∉ch→s.heap.get? b=some o→H b=none→h'.get? b=some o)
  (slot:∀ b o,b≠X.env.locals→b∈X.fs→b∉ch→s.heap.get? b=some o→H b=none→∃ sl,h'.get? b=some { o with slots:=sl }) (free:∀ b o,b∉ch→s.heap.get? b=some o→H b=none→H' b=none)
  (there:∀ b o,b∉ch→s.heap.get? b=some o→∃ o',h'.get? b=some o')
  (tups:∀ b xs,H b=some (.tup xs)→H' b=some (.tup xs)) (mU:∀ b o u,H b=some (.frz o u)→H' b=some (.frz o u)) (ou:∀ b ps,H b=some (.tbl ps)→∃ more,H' b=some (.tbl (ps++more)))
  (ns:∀ m,s.heap.Ns X.env.locals m→h'.Ns X.env.locals m) (hok:HOk X.prog X.w H' h') (hg:AllBare g') :
  Inv X pins σ H' { s with heap:=h',gens:=g',drawn:=d',toks:=t' }:=by
 have neL:∀ b o,X.s₀.heap.get? b=some o→b≠X.env.locals:=fun b o e=>Nat.ne_of_lt (Nat.lt_of_lt_of_le (Heap.lt_size e) I.ok.above)
 have neC:∀ b o,X.s₀.heap.get? b=some o→b∉X.ex→b∉ch:=fun b o e hx hb=>by
  rcases (hch b hb).1 with z | z
  ·exact hx z
  ·exact absurd (Nat.lt_of_lt_of_le (Heap.lt_size e) z) (Nat.lt_irrefl _)
 have cellK:∀ x c,X.env.cells.lookup x=some c→∀ v,s.heap.IsCell c v→h'.IsCell c v:=fun x c e v ⟨o,ho,hd⟩=>by
  have nch:c∉ch:=fun z=>(hch c z).2.2.1 x c e rfl
  by_cases hc:c∈X.fs
  ·obtain ⟨sl,q⟩:=slot c o (I.cne x c e) hc nch ho (I.fk x c e)
   exact ⟨_,q,hd⟩
  ·exact ⟨o,keep c o (I.cne x c e) hc nch ho (I.fk x c e),hd⟩
 refine ⟨I.ok,I.os,hg,⟨fun b o e n hb hx=>?_,fun b o e n hb hx=>?_,fun b o e n hx=>?_,fun b o e hx=>?_,fun b xs e=>tups b xs (I.base.tups b xs e),fun b o xs e=>mU b o xs (I.base.mU b o xs e),fun b ps e=>?_⟩,?_,fun x c e=>?_,?_,fun x c e=>?_,fun p hp=>?_,hok,I.len⟩
 ·exact keep b o (neL b o e) hb (neC b o e hx) (I.base.keep b o e n hb hx) (I.base.free b o e n hx)
 ·obtain ⟨sl,e1⟩:=I.base.slot b o e n hb hx
  obtain ⟨sl',e2⟩:=slot b _ (neL b o e) hb (neC b o e hx) e1 (I.base.free b o e n hx)
  exact ⟨sl',e2⟩
 ·obtain ⟨o',e1⟩:=I.base.there b o e hx
  exact free b o' (neC b o e hx) e1 (I.base.free b o e n hx)
 ·obtain ⟨o',e1⟩:=I.base.there b o e hx
  exact there b o' (neC b o e hx) e1
 ·obtain ⟨m1,e1⟩:=I.base.ou b ps e
  obtain ⟨m2,e2⟩:=ou b _ e1
  exact ⟨m1++m2,by rw [e2,Array.append_assoc]⟩
 ·obtain ⟨m,hn,hl⟩:=I.loc
  refine ⟨m,ns m hn,fun i x v e1 e2 e3=>?_⟩
  obtain ⟨u,r,l⟩:=hl i x v e1 e2 e3
  refine ⟨u,r,?_⟩
  rcases l with l | ⟨k,c,e,z⟩
  ·exact .inl l
  ·exact .inr ⟨k,c,e,cellK x c e _ z⟩
 ·obtain ⟨v,z⟩:=I.cell x c e
  exact ⟨v,cellK x c e v z⟩
 ·obtain ⟨m,⟨o,_,_,ho,_⟩,_⟩:=I.loc
  exact free _ o (fun z=>(hch _ z).2.1 rfl) ho I.free
 ·obtain ⟨v,o,ho,hd⟩:=I.cell x c e
  exact free c o (fun z=>(hch c z).2.2.1 x c e rfl) ho (I.fk x c e)
 ·obtain ⟨e,n,ne,nf,d⟩:=I.pin p hp
  have nch:p.1∉ch:=fun z=>(hch p.1 z).2.2.2 p hp rfl
  exact ⟨keep p.1 p.2 ne nf nch e n,free p.1 p.2 nch e n,ne,nf,d⟩
theorem Inv.un {t':Nat} (I:Inv X pins σ H s) (u:Un X.fs [] H H' s.heap h') (hok:HOk X.prog X.w H' h'):Inv X pins σ H' { s with heap:=h',toks:=t' }:=by
 obtain ⟨m,⟨o,es,ep,ho,r⟩,_⟩:=id I.loc
 obtain ⟨sl,hL⟩:=u.any ho I.free (by simp)
 exact I.step (g':=s.gens) (d':=s.drawn) (ch:=[]) (fun _ z=>nomatch z) (fun b o _ hb _ e n=>u.keep b o e n hb (by simp)) (fun b o _ hb _ e n=>u.slot b o e n hb (by simp)) (fun b o _ e n=>u.free b o e n (by simp)) (fun b o _ e=>u.there b o e (by simp)) u.tups u.mU u.ou (fun m' hm=>by
  obtain ⟨o',es',ep',ho',r'⟩:=hm
  rw [ho] at ho';cases ho'
  exact ⟨_,es',ep',hL,r'⟩) hok I.bare
theorem Inv.call {g':Array GenState} {t':Nat} {d':Drawn} {ch:List Addr} (I:Inv X pins σ H s) (u:Un (frs X.stack) ch H H' s.heap h') (hok:HOk X.prog X.w H' h') (hg:AllBare g')
  (hch:∀ b∈ch,(b∈X.ex∨X.s₀.heap.objs.size≤b)∧b≠X.env.locals∧(∀ x c,X.env.cells.lookup x=some c→c≠b)∧∀ p∈X.pn++pins,p.1≠b) :
  Inv X pins σ H' { s with heap:=h',gens:=g',drawn:=d',toks:=t' }:=by
 obtain ⟨m,⟨o,es,ep,ho,r⟩,_⟩:=id I.loc
 obtain ⟨sl,hL⟩:=u.any ho I.free fun z=>(hch _ z).2.1 rfl
 exact I.step (ch:=ch) hch (fun b o hL hb hc e n=>u.keep b o e n (fun z=>(List.mem_cons.mp (I.qW b z)).elim hL hb) hc) (fun b o _ _ hc e n=>u.any e n hc) (fun b o hc e n=>u.free b o e n hc) (fun b o hc e=>u.there b o e hc) u.tups u.mU u.ou (fun m' hm=>by
  obtain ⟨o',es',ep',ho',r'⟩:=hm
  rw [ho] at ho';cases ho'
  exact ⟨_,es',ep',hL,r'⟩) hok hg
theorem Inv.turned {t':Nat} {it:Addr} (I:Inv X pins σ H s) (k:∀ b o,b≠it→s.heap.get? b=some o→h'.get? b=some o) (hn:H it=none) (hL:it≠X.env.locals)
  (h1:it∈X.ex∨X.s₀.heap.objs.size≤it) (h2:∀ x c,X.env.cells.lookup x=some c→c≠it) (h3:∀ p∈X.pn++pins,p.1≠it):Inv X pins σ H { s with heap:=h',toks:=t' }:=by
 have nit:∀ b u,H b=some u→b≠it:=fun b u e z=>by rw [z,hn] at e;cases e
 refine I.step (g':=s.gens) (d':=s.drawn) (ch:=[it]) (fun b hb=>?_) (fun b o _ _ hc e _=>k b o (fun z=>hc (by simp [z])) e) (fun b o _ _ hc e _=>⟨o.slots,k b o (fun z=>hc (by simp [z])) e⟩) (fun _ _ _ _ n=>n)
  (fun b o hc e=>⟨o,k b o (fun z=>hc (by simp [z])) e⟩) (fun _ _ e=>e) (fun _ _ _ e=>e) (fun b ps e=>⟨#[],by rw [e];simp⟩) (fun m hm=>?_) (fun b u e=>?_) I.bare
 ·have e:b=it:=by simpa using hb
  subst e
  exact ⟨h1,hL,h2,h3⟩
 ·obtain ⟨o,es,ep,ho,r⟩:=hm
  exact ⟨o,es,ep,k _ o (Ne.symm hL) ho,r⟩
 ·refine (I.hok b u e).stay (fun c v hc q=>k c v ?_ q) (fun _ q=>q) fun _ _ q=>q
  rcases hc with z | z
  ·rw [z];exact nit b u e
  ·exact nit c _ z
theorem Inv.tok (I:Inv X pins σ H s) (t:Nat):Inv X pins σ H { s with toks:=t }:=I.un (h':=s.heap) (t':=t) Un.refl I.hok
theorem Inv.kept {t':Nat} (I:Inv X pins σ H s) (k:∀ b u,s.heap.get? b=some u→h'.get? b=some u):Inv X pins σ H { s with heap:=h',toks:=t' }:=I.un (Un.kept k) (I.hok.kept k)
theorem Inv.laid {a:Addr} {o:HO} {t':Nat} (I:Inv X pins σ H s) (k:∀ b u,s.heap.get? b=some u→h'.get? b=some u) (hp:s.heap.objs.size≤a) (new:bh X.prog X.w (upd H a o) h' a o) :
  Inv X pins σ (upd H a o) { s with heap:=h',toks:=t' }:=I.un (Un.laid k hp (I.hok.fresh hp)) (I.hok.laid k hp new)
theorem Inv.write {x e:Addr} {o:HO} {t':Nat} (I:Inv X pins σ H s) (mu:Mut (H x)) (he:e=x∨H e=some (.own x)) (k:∀ b u,b≠e→s.heap.get? b=some u→h'.get? b=some u) (heo:∃ u,h'.get? e=some u)
  (new:bh X.prog X.w (upd H x o) h' x o):Inv X pins σ (upd H x o) { s with heap:=h',toks:=t' }:=I.un (Un.write mu he k heo) (I.hok.write mu he k heo new)
theorem Inv.tF {B_:List (Addr×Obj)} (I:Inv X pins σ H s) (h:∀ p∈B_,s.heap.get? p.1=some p.2∧H p.1=none∧p.1≠X.env.locals∧p.1∉X.fs∧∀ v,p.2.data≠.cell v):Inv X B_ σ H s:=
 ⟨I.ok,I.os,I.bare,I.base,I.loc,I.cell,I.free,I.fk,fun p hp=>(List.mem_append.mp hp).elim (fun z=>I.pin p (List.mem_append_left _ z)) (h p),I.hok,I.len⟩
theorem oz {N:List Str} (hN:N.Nodup) {i j:Nat} {x:Str} (a:N[i]?=some x) (b:N[j]?=some x):i=j:=by
 obtain ⟨h1,e1⟩:=List.getElem?_eq_some_iff.mp a
 obtain ⟨h2,e2⟩:=List.getElem?_eq_some_iff.mp b
 exact (List.getElem_inj hN).mp (e1.trans e2.symm)
theorem lR {M:Model} {A:Around} {E:Value→Shared→Prop} {i:Nat} {x:Str} {v:V} {u:Value} {Q:Unit→Shared→Prop} (I:Inv X pins σ H s) (hN:X.N.Nodup) (hi:X.N[i]?=some x) (hx:Loc X.env.scope x) (r:RelV v u)
  (h:∀ s',Inv X pins (σ.set i (some v)) H s'→(∃ a,Heap.SameBut a s.heap s'.heap∧(a=X.env.locals∨X.env.cells.lookup x=some a))→Q () s') (hf:X.fn x=true∨X.env.scope.names.lookup x=some .local:=by first | exact .inl rfl | exact .inr rfl | assumption):wpAny M A (storeName X.env x u) Q E s:=by
 obtain ⟨m,hn,hl⟩:=id I.loc
 have hcls:(X.env.scope.kind == .class||(X.env.scope.kind == .module&&X.env.locals != X.env.globals))=false:=by rw [I.ok.kind];rfl
 have hiσ:i<σ.length:=by rw [I.len];exact (List.getElem?_eq_some_iff.mp hi).1
 have cne:=I.cne
 have tracked:∀ {a:Addr} {h':Heap},(∃ o,s.heap.get? a=some o∧H a=none)→Heap.SameBut a s.heap h'→HOk X.prog X.w H h':=fun {a h'} ha hs b ob e=>by
  obtain ⟨_,_,hfree⟩:=ha
  refine (I.hok b ob e).stay (fun c w' hc q=>(hs.2 c ?_).trans q) (fun _ q=>q) fun _ _ q=>q
  rintro rfl
  rcases hc with rfl | hc
  ·rw [hfree] at e;cases e
  ·rw [hfree] at hc;cases hc
 rcases hx with hk | hk
 ·refine wpAny_storeName_local hk hn (fun h' hn' hs=>?_) hcls
  obtain ⟨oL,_,_,hoL,_⟩:=id hn
  refine h _ ⟨I.ok,I.os,I.bare,⟨fun b o e n hb hx=>?_,fun b o e n hb hx=>?_,I.base.free,fun b o e hx=>?_,I.base.tups,I.base.mU,I.base.ou⟩,⟨_,hn',fun j y v' e1 e2 e3=>?_⟩,fun y c e=>?_,I.free,I.fk,fun p hp=>?_,tracked ⟨oL,hoL,I.free⟩ hs,by simpa using I.len⟩ ⟨_,hs,.inl rfl⟩
  ·exact (hs.2 b (Nat.ne_of_lt (Nat.lt_of_lt_of_le (Heap.lt_size e) I.ok.above))).trans (I.base.keep b o e n hb hx)
  ·obtain ⟨sl,e1⟩:=I.base.slot b o e n hb hx
   exact ⟨sl,(hs.2 b (Nat.ne_of_lt (Nat.lt_of_lt_of_le (Heap.lt_size e) I.ok.above))).trans e1⟩
  ·obtain ⟨o',e1⟩:=I.base.there b o e hx
   exact ⟨o',(hs.2 b (Nat.ne_of_lt (Nat.lt_of_lt_of_le (Heap.lt_size e) I.ok.above))).trans e1⟩
  ·by_cases hj:j=i
   ·subst hj
    rw [hi] at e1;cases e1
    rw [List.getElem?_set_self hiσ] at e2
    cases e2
    exact ⟨u,r,.inl ⟨hk,by simp⟩⟩
   ·rw [List.getElem?_set_ne (Ne.symm hj)] at e2
    obtain ⟨u',r',q⟩:=hl j y v' e1 e2 e3
    refine ⟨u',r',?_⟩
    rcases q with ⟨k,e⟩ | ⟨k,c,e,z⟩
    ·refine .inl ⟨k,?_⟩
     have:y≠x:=fun e=>hj (oz hN e1 (e▸hi))
     simp [this,e]
    ·exact .inr ⟨k,c,e,z.sameBut hs (cne y c e)⟩
  ·obtain ⟨w',z⟩:=I.cell y c e
   exact ⟨w',z.sameBut hs (cne y c e)⟩
  ·obtain ⟨e,n,ne,nf,d⟩:=I.pin p hp
   exact ⟨(hs.2 p.1 ne).trans e,n,ne,nf,d⟩
 ·have hfn:X.fn x=true:=by
   rcases hf with z | z
   ·exact z
   ·rw [z] at hk;cases hk
  obtain ⟨c,hc⟩:=I.ok.has x (.inl hk)
  obtain ⟨w',z⟩:=I.cell x c hc
  refine wpAny_storeName_cell I.ok.kind hk hc z (fun h' hc' hs=>?_)
  obtain ⟨oc,hoc,Jq⟩:=id z
  refine h { s with heap:=h' } ⟨I.ok,I.os,I.bare,⟨fun b o e n hb hx=>?_,fun b o e n hb hx=>?_,I.base.free,fun b o e hx=>?_,I.base.tups,I.base.mU,I.base.ou⟩,⟨m,hn.sameBut hs (Ne.symm (cne x c hc)),fun j y v' e1 e2 e3=>?_⟩,fun y c' e=>?_,I.free,I.fk,fun p hp=>?_,tracked ⟨oc,hoc,I.fk x c hc⟩ hs,by simpa using I.len⟩ ⟨c,hs,.inr hc⟩
  ·exact (hs.2 b (Nat.ne_of_lt (Nat.lt_of_lt_of_le (Heap.lt_size e) (I.ok.cab x c hfn hc)))).trans (I.base.keep b o e n hb hx)
  ·obtain ⟨sl,e1⟩:=I.base.slot b o e n hb hx
   exact ⟨sl,(hs.2 b (Nat.ne_of_lt (Nat.lt_of_lt_of_le (Heap.lt_size e) (I.ok.cab x c hfn hc)))).trans e1⟩
  ·obtain ⟨o',e1⟩:=I.base.there b o e hx
   exact ⟨o',(hs.2 b (Nat.ne_of_lt (Nat.lt_of_lt_of_le (Heap.lt_size e) (I.ok.cab x c hfn hc)))).trans e1⟩
  ·by_cases hj:j=i
   ·subst hj
    rw [hi] at e1;cases e1
    rw [List.getElem?_set_self hiσ] at e2
    cases e2
    exact ⟨u,r,.inr ⟨.inl hk,c,hc,hc'⟩⟩
   ·rw [List.getElem?_set_ne (Ne.symm hj)] at e2
    obtain ⟨u',r',q⟩:=hl j y v' e1 e2 e3
    refine ⟨u',r',?_⟩
    rcases q with q | ⟨k,c',e,z'⟩
    ·exact .inl q
    ·refine .inr ⟨k,c',e,z'.sameBut hs ?_⟩
     rintro rfl
     exact hj (oz hN e1 (I.ok.inj _ _ _ e hc▸hi))
  ·by_cases hcc:c'=c
   ·subst hcc;exact ⟨_,hc'⟩
   ·obtain ⟨w2,z2⟩:=I.cell y c' e
    exact ⟨w2,z2.sameBut hs hcc⟩
  ·obtain ⟨e,n,ne,nf,d⟩:=I.pin p hp
   refine ⟨(hs.2 p.1 ?_).trans e,n,ne,nf,d⟩
   intro q
   rw [q,hoc] at e
   have q':oc=p.2:=Option.some.inj e
   exact d w' (by rw [← q'];exact Jq)
theorem oA {M:Model} {A:Around} {E:Value→Shared→Prop} {i:Nat} {x:Str} {v:V} {u:Value} {Q:Unit→Shared→Prop} (I:Inv X pins σ H s) (hN:X.N.Nodup) (hi:X.N[i]?=some x) (hx:Loc X.env.scope x) (r:RelV v u)
  (h:∀ s',Inv X pins (σ.set i (some v)) H s'→Q () s') (hf:X.fn x=true∨X.env.scope.names.lookup x=some .local:=by first | exact .inl rfl | exact .inr rfl | assumption):wpAny M A (storeName X.env x u) Q E s:=
 lR I hN hi hx r (fun s' I' _=>h s' I') hf
theorem Inv.Gs {s':Shared} {ch:List Addr} (I:Inv X pins σ H s) (ho:s'.os=s.os) (u:Un (frs X.stack) ch H H' s.heap s'.heap) (hok:HOk X.prog X.w H' s'.heap) (hg:AllBare s'.gens)
  (hch:∀ b∈ch,(b∈X.ex∨X.s₀.heap.objs.size≤b)∧b≠X.env.locals∧(∀ x c,X.env.cells.lookup x=some c→c≠b)∧∀ p∈X.pn++pins,p.1≠b):Inv X pins σ H' s':=by
 obtain ⟨h',g',d',t',o'⟩:=s'
 have e:o'=s.os:=ho
 subst e
 exact I.call (g':=g') (t':=t') (d':=d') u hok hg hch
end
noncomputable abbrev XK:=Value→Option Addr→Hp→Prop
noncomputable abbrev St:=List (Option V)
noncomputable abbrev VK:=V→Hp→Prop
noncomputable abbrev TE:=St→Hp→VK→Prop
noncomputable abbrev TT:=St→Hp→(Bool→Hp→Prop)→Prop
noncomputable abbrev TA:=St→Hp→(List V→Hp→Prop)→Prop
structure Ends where
 nx:St→Hp→Prop
 rt:VK
 bk:St→Hp→Prop:=fun _ _=>False
 ct:St→Hp→Prop:=fun _ _=>False
noncomputable abbrev TS:=Ends→St→Hp→Prop
noncomputable def EP (X:Cx) (pins:List (Addr×Obj)) (σ:St) (Q:VK) (u:Value) (s':Shared):Prop:=∃ v H',Inv X pins σ H' s'∧RelV v u∧Q v H'
noncomputable def TP (X:Cx) (pins:List (Addr×Obj)) (σ:St) (Q:Bool→Hp→Prop) (b:Bool) (s':Shared):Prop:=∃ H',Inv X pins σ H' s'∧Q b H'
noncomputable def AP (X:Cx) (pins:List (Addr×Obj)) (σ:St) (Q:List V→Hp→Prop) (us:List Value) (s':Shared):Prop:=∃ vs H',Inv X pins σ H' s'∧Vals vs us∧Q vs H'
noncomputable def SP (X:Cx) (pins:List (Addr×Obj)) (D:Ends) (f:Flow) (s':Shared):Prop:=
 match f with
 | .next=>∃ σ' H',Inv X pins σ' H' s'∧D.nx σ' H'
 | .brk=>∃ σ' H',Inv X pins σ' H' s'∧D.bk σ' H'
 | .cont=>∃ σ' H',Inv X pins σ' H' s'∧D.ct σ' H'
 | .ret u=>∃ v σ' H',Inv X pins σ' H' s'∧RelV v u∧D.rt v H'
noncomputable def PE (X:Cx) (e:Expr) (t:TE):Prop:=
 ∀ (pins:List (Addr×Obj)) (s:Shared) (σ:St) (H:Hp) (Q:VK),Inv X pins σ H s→t σ H Q→wpAny (model X.prog X.w) X.A (eval e X.env) (EP X pins σ Q) X.xe s
noncomputable def PT (X:Cx) (e:Expr) (t:TT):Prop:=
 ∀ (pins:List (Addr×Obj)) (s:Shared) (σ:St) (H:Hp) (Q:Bool→Hp→Prop),Inv X pins σ H s→t σ H Q→wpAny (model X.prog X.w) X.A (isTrue e X.env (eval e X.env)) (TP X pins σ Q) X.xe s
noncomputable def PW (X:Cx) (e:Expr) (t:TT):Prop:=
 ∀ (whole:Sem Value) (pins:List (Addr×Obj)) (s:Shared) (σ:St) (H:Hp) (Q:Bool→Hp→Prop),Inv X pins σ H s→t σ H Q→wpAny (model X.prog X.w) X.A (isTrue e X.env whole) (TP X pins σ Q) X.xe s
theorem PW.pt {X:Cx} {e:Expr} {t:TT} (h:PW X e t):PT X e t:=h _
noncomputable def PA (X:Cx) (es:List Expr) (t:TA):Prop:=
 ∀ (pos:Pos) (pins:List (Addr×Obj)) (s:Shared) (σ:St) (H:Hp) (Q:List V→Hp→Prop),Inv X pins σ H s→t σ H Q→wpAny (model X.prog X.w) X.A (spliced (backTo pos (starEach es X.env))) (AP X pins σ Q) X.xe s
noncomputable def PS (X:Cx) (st:Stmt) (t:TS):Prop:=
 ∀ (pins:List (Addr×Obj)) (s:Shared) (σ:St) (H:Hp) (D:Ends),Inv X pins σ H s→t D σ H→wpAny (model X.prog X.w) X.A (exec st X.env) (SP X pins D) X.xe s
noncomputable def PSs (X:Cx) (st:List Stmt) (t:TS):Prop:=
 ∀ (pins:List (Addr×Obj)) (s:Shared) (σ:St) (H:Hp) (D:Ends),Inv X pins σ H s→t D σ H→wpAny (model X.prog X.w) X.A (execs st X.env) (SP X pins D) X.xe s
theorem thn {α:Type} {t:Sem α} {Q Q':α→Shared→Prop} {M:Model} {A:Around} {E:Value→Shared→Prop} {s:Shared} (h:wpAny M A t Q E s) (hQ:∀ a s,Q a s→Q' a s):wpAny M A t Q' E s:=wpAny_mono h hQ fun _ _ x=>x
section
variable {X:Cx}
noncomputable def wF (i:Nat):TE:=fun σ H Q=>∃ v,σ[i]?=some (some v)∧Q v H
noncomputable def tC (v:V):TE:=fun _ H Q=>Q v H
theorem mW {i:Nat} {x:Str} {pos:Pos} (hN:X.N[i]?=some x) (hv:Vis X.env.scope x) (hd:(x == ("__debug__" : Str))=false:=by decide) (hcd:(x == ("__classdict__" : Str))=false:=by decide):PE X (.Name x pos) (wF i):=by
 intro pins s σ H Q I h
 obtain ⟨v,e,h⟩:=h
 obtain ⟨m,hn,hl⟩:=I.loc
 obtain ⟨u,r,l⟩:=hl i x v hN e hv
 have fin:EP X pins σ Q u s:=⟨v,H,I,r,h⟩
 rcases l with ⟨hk,hm⟩ | ⟨hk,c,hc,hcell⟩
 ·exact wpAny_Name (wpAny_loadName_local I.ok.kind hk hn hm fin) hd
 ·rcases hk with hk | hk
  ·exact wpAny_Name (wpAny_loadName_cell I.ok.kind hk hc hcell fin) hd
  ·exact wpAny_Name (wpAny_loadName_free I.ok.kind hk hc hcell fin hcd) hd
theorem wG {i j pos}:PE X (.Constant (.int i) j pos) (tC (.int i)):=fun _ _ _ H _ I h=>wpAny_Constant_int ⟨.int i,H,I.tok _,⟨_,rfl⟩,h⟩
theorem Gu {b j pos}:PE X (.Constant (.bool b) j pos) (tC (.bl b)):=fun _ _ _ H _ I h=>Constant_bool ⟨.bl b,H,I,rfl,h⟩
noncomputable def Gl (X:Cx) (x:Str):Prop:=X.env.kindOf x=some .globalImplicit
theorem tG {E:Value→Shared→Prop} {pins:List (Addr×Obj)} {s:Shared} {σ:St} {H:Hp} {x:Str} {u:Value} {pos:Pos} {Q:Value→Shared→Prop} (I:Inv X pins σ H s) (hg:Gl X x) (hm:X.mg x=some u) (h:Q u s)
  (hd:(x == ("__debug__" : Str))=false:=by decide):wpAny (model X.prog X.w) X.A (eval (.Name x pos) X.env) Q E s:=
 Calls.Name_function_global I.ok.kind hg (Calls.loadGlobal_global (by rw [I.ok.glob];exact I.mod.glob.keeps I.bk) hm h) hd
theorem b7 {E:Value→Shared→Prop} {pins:List (Addr×Obj)} {s:Shared} {σ:St} {H:Hp} {x:Str} {u:Value} {pos:Pos} {Q:Value→Shared→Prop} (I:Inv X pins σ H s) (hg:Gl X x) (hm:X.mg x=none) (hv:bootBuiltins x=some u) (h:Q u s)
  (hn:x ≠ "__name__" := by decide) (hd:(x == ("__debug__" : Str))=false:=by decide):wpAny (model X.prog X.w) X.A (eval (.Name x pos) X.env) Q E s:=by
 obtain ⟨mb,h1,h2⟩:=I.mod.blt
 exact Calls.Name_function_global I.ok.kind hg (Calls.loadGlobal_builtin (by rw [I.ok.glob];exact I.mod.glob.keeps I.bk) hm (by rw [I.ok.blt];exact h1.keeps I.bk) ((h2 x hn).trans hv) h) hd
theorem Ao {x:Str} {v:V} {u:Value} {pos:Pos} (hg:Gl X x) (hm:X.mg x=some u) (r:RelV v u) (hd:(x == ("__debug__" : Str))=false:=by decide):PE X (.Name x pos) (tC v):=
 fun _ _ _ H _ I h=>tG I hg hm ⟨v,H,I,r,h⟩ hd
theorem Aq {x:Str} {v:V} {u:Value} {pos:Pos} (hg:Gl X x) (hm:X.mg x=none) (hv:bootBuiltins x=some u) (r:RelV v u) (hn:x ≠ "__name__" := by decide) (hd:(x == ("__debug__" : Str))=false:=by decide):PE X (.Name x pos) (tC v):=
 fun _ _ _ H _ I h=>b7 I hg hm hv ⟨v,H,I,r,h⟩ hn hd
variable {a b:Expr} {ta tb:TE} {pos:Pos}
noncomputable def tB (t:TE):TT:=fun σ H Q=>t σ H fun x H1=>∃ c,x=.bl c∧Q c H1
theorem Dq {e:Expr} {t:TE} (h:PE X e t) (he:∀ whole,isTrue e X.env whole=(do let v ← whole;standAt e.pos;holding [v] (truthy v)):=by intro _;rfl):PT X e (tB t):=by
 intro pins s σ H Q I hw
 refine isTrue_plain (thn (h pins s σ H _ I hw) fun v s1 ⟨x,H1,I1,r1,q1⟩=>?_) (he _)
 obtain ⟨d,rfl,q⟩:=q1
 cases r1
 exact wpAny_truthy_bool ⟨H1,I1,q⟩
variable {tA tB':TT} {rest:List Expr}
noncomputable def jh (t u:TT):TT:=fun σ H Q=>t σ H fun c H1=>if c=true then u σ H1 Q else Q false H1
noncomputable def tOr (t u:TT):TT:=fun σ H Q=>t σ H fun c H1=>if c=true then Q true H1 else u σ H1 Q
noncomputable def dc (t:TT):TT:=fun σ H Q=>t σ H fun c H1=>Q (!c) H1
theorem pw_and1 (ha:PT X a tA):PW X (.BoolOp .And [a] pos) tA:=by
 intro wh pins s σ H Q I h
 refine isTrue_and (thn (ha pins s σ H Q I h) fun c s1 e=>?_)
 cases c with
 | true=>exact isTrue_and_nil e
 | false=>exact e
theorem pw_or1 (ha:PT X a tA):PW X (.BoolOp .Or [a] pos) tA:=by
 intro wh pins s σ H Q I h
 refine isTrue_or (thn (ha pins s σ H Q I h) fun c s1 e=>?_)
 cases c with
 | false=>exact isTrue_or_nil e
 | true=>exact e
theorem pw_and (ha:PT X a tA) (hb:PW X (.BoolOp .And (b::rest) pos) tB'):PW X (.BoolOp .And (a::b::rest) pos) (jh tA tB'):=by
 intro wh pins s σ H Q I h
 refine isTrue_and (thn (ha pins s σ H _ I h) fun c s1 ⟨H1,I1,q1⟩=>?_)
 cases c with
 | true=>exact hb wh pins s1 σ H1 Q I1 q1
 | false=>exact ⟨H1,I1,q1⟩
theorem pw_or (ha:PT X a tA) (hb:PW X (.BoolOp .Or (b::rest) pos) tB'):PW X (.BoolOp .Or (a::b::rest) pos) (tOr tA tB'):=by
 intro wh pins s σ H Q I h
 refine isTrue_or (thn (ha pins s σ H _ I h) fun c s1 ⟨H1,I1,q1⟩=>?_)
 cases c with
 | true=>exact ⟨H1,I1,q1⟩
 | false=>exact hb wh pins s1 σ H1 Q I1 q1
theorem Dr (ha:PT X a tA):PT X (.UnaryOp .Not a pos) (dc tA):=by
 intro pins s σ H Q I h
 exact isTrue_not (ha pins s σ H (fun c H1=>Q (!c) H1) I h)
noncomputable def Ca (ta tb:TE):TE:=fun σ H Q=>ta σ H fun x H1=>∃ c,x=.bl c∧if c=true then tb σ H1 Q else Q (.bl false) H1
noncomputable def Cb (ta:TE):TE:=fun σ H Q=>ta σ H fun x H1=>∃ c,x=.bl c∧Q (.bl (!c)) H1
theorem Dt {op} {t:TE} (h:PE X a t):PE X (.BoolOp op [a] pos) t:=fun pins s σ H Q I hw=>BoolOp_one (h pins s σ H Q I hw)
theorem Du (ha:PE X a ta) (hb:PE X (.BoolOp .And (b::rest) pos) tb):PE X (.BoolOp .And (a::b::rest) pos) (Ca ta tb):=by
 intro pins s σ H Q I h
 refine BoolOp_and (thn (ha pins s σ H _ I h) fun v s1 ⟨x,H1,I1,r1,q1⟩=>?_)
 obtain ⟨c,rfl,q1⟩:=q1
 cases r1
 refine wpAny_truthy_bool ?_
 cases c with
 | true=>exact hb pins s1 σ H1 Q I1 q1
 | false=>exact ⟨.bl false,H1,I1,rfl,q1⟩
theorem Dv (ha:PE X a ta):PE X (.UnaryOp .Not a pos) (Cb ta):=by
 intro pins s σ H Q I h
 refine UnaryOp_ (thn (ha pins s σ H _ I h) fun v s1 ⟨x,H1,I1,r1,q1⟩=>?_)
 obtain ⟨c,rfl,q1⟩:=q1
 cases r1
 exact not_of (wpAny_truthy_bool ⟨.bl (!c),H1,I1,rfl,q1⟩)
noncomputable def tIf (t:TT) (ta tb:TE):TE:=fun σ H Q=>t σ H fun c H1=>if c=true then ta σ H1 Q else tb σ H1 Q
theorem wH {c:Expr} (hc:PT X c tA) (ha:PE X a ta) (hb:PE X b tb):PE X (.IfExp c a b pos) (tIf tA ta tb):=by
 intro pins s σ H Q I h
 refine wpAny_IfExp (thn (hc pins s σ H _ I h) fun d s1 ⟨H1,I1,q1⟩=>?_)
 cases d with
 | true=>exact ha pins s1 σ H1 Q I1 q1
 | false=>exact hb pins s1 σ H1 Q I1 q1
end
noncomputable def SqL (K:PySem.W.Frag) (H:Hp) (a:Addr) (xs:List V):Prop:=
 Rd H a (.lst xs) ∨
  ∃ (o:Obj) (its:Array Value) (n:Nat),K.lookup a=some o∧o.cls=.type "list" ∧ o.dict=none∧o.data=.seq its n∧its.size≤sizeLine∧Vals xs its.toList
noncomputable def SqT (K:PySem.W.Frag) (H:Hp) (a:Addr) (xs:List V):Prop:=
 Rd H a (.tup xs) ∨
  ∃ (o:Obj) (its:Array Value) (n:Nat),K.lookup a=some o∧o.cls=.type "tuple" ∧ o.data=.seq its n∧its.size≤sizeLine∧Vals xs its.toList
noncomputable def Jr:Value→Option V
 | .none=>some .non
 | .bool b=>some (.bl b)
 | .int i _=>some (.int i)
 | .str x _=>some (.str x)
 | .bytes b _=>some (.byt b)
 | .float b _=>some (.flt b)
 | .ref a=>some (.ref a)
 | .type n=>some (.ty n)
 | _=>none
theorem RelV.abs {x:V} {u:Value} (r:RelV x u):Jr u=some x:=by
 cases x with
 | non=>cases r;rfl
 | bl _=>cases r;rfl
 | int _=>obtain ⟨t,rfl⟩:=r;rfl
 | str _=>obtain ⟨t,rfl⟩:=r;rfl
 | byt _=>obtain ⟨t,rfl⟩:=r;rfl
 | flt _=>obtain ⟨t,rfl⟩:=r;rfl
 | ref _=>cases r;rfl
 | ty _=>cases r;rfl
theorem RelV.inj {x y:V} {u:Value} (r:RelV x u) (q:RelV y u):x=y:=Option.some.inj (r.abs.symm.trans q.abs)
theorem Vals.inj:∀ {xs ys:List V} {us:List Value},Vals xs us→Vals ys us→xs=ys
 | _,_,_,.nil,.nil=>rfl
 | _,_,_,.cons r t,.cons r' t'=>by rw [r.inj r',Vals.inj t t']
section
variable {X:Cx} {pins:List (Addr×Obj)} {σ:St} {H:Hp} {s:Shared} {a:Addr} {xs ys:List V}
theorem SqT.of {K:PySem.W.Frag} (h:H a=some (.tup xs)):SqT K H a xs:=.inl (.inl h)
theorem Inv.list (I:Inv X pins σ H s) (h:SqL X.K H a xs):∃ its:List Value,Vals xs its∧PlainL s.heap a its.toArray∧xs.length≤sizeLine:=by
 rcases h with h | ⟨o,its,n,hk,hc,hd,hs,hz,r⟩
 ·obtain ⟨z,its,n,r,e⟩:=h.ok I.hok
  exact ⟨its,r,⟨_,n,e,rfl,rfl,rfl⟩,z⟩
 ·refine ⟨its.toList,r,⟨o,n,I.kIn a o hk,hc,hd,by simpa using hs⟩,?_⟩
  have e:=r.length
  simp only [Array.length_toList] at e
  omega
theorem Inv.tuple (I:Inv X pins σ H s) (h:SqT X.K H a xs):∃ its:List Value,Vals xs its∧IsTup s.heap a its.toArray∧xs.length≤sizeLine:=by
 rcases h with h | ⟨o,its,n,hk,hc,hs,hz,r⟩
 ·obtain ⟨z,its,r,p⟩:=h.ok I.hok
  exact ⟨its,r,p,z⟩
 ·refine ⟨its.toList,r,⟨o,I.kIn a o hk,hc,n,by simpa using hs⟩,?_⟩
  have e:=r.length
  simp only [Array.length_toList] at e
  omega
theorem Inv.dS (I:Inv X pins σ H s) (h:SqL X.K H a xs) (h':SqL X.K H a ys):xs=ys:=by
 obtain ⟨its,r,⟨o,n,e,_,_,d⟩,_⟩:=I.list h
 obtain ⟨its',r',⟨o',n',e',_,_,d'⟩,_⟩:=I.list h'
 rw [e] at e';cases e'
 rw [d] at d'
 injection d' with d1 _
 have:its=its':=by simpa using congrArg Array.toList d1
 subst this
 exact r.inj r'
theorem Inv.u9 (I:Inv X pins σ H s) (h:SqT X.K H a xs) (h':SqT X.K H a ys):xs=ys:=by
 obtain ⟨its,r,⟨o,e,_,n,d⟩,_⟩:=I.tuple h
 obtain ⟨its',r',⟨o',e',_,n',d'⟩,_⟩:=I.tuple h'
 rw [e] at e';cases e'
 rw [d] at d'
 injection d' with d1 _
 have:its=its':=by simpa using congrArg Array.toList d1
 subst this
 exact r.inj r'
end
noncomputable abbrev Cx.lG (X:Cx) (E:Value→Shared→Prop):Cx:={ X with xe:=E }
noncomputable abbrev Cx.nox (X:Cx):Cx:=X.lG fun _ _=>False
theorem Cx.Ok.lG {X:Cx} (ok:X.Ok) (E:Value→Shared→Prop):(X.lG E).Ok:=
 ⟨ok.mod,ok.kind,ok.glob,ok.blt,ok.above,ok.inj,ok.has,ok.cab,ok.hd,ok.frames,ok.stk,ok.exf,ok.bs,ok.bsz,ok.wD,ok.An,ok.jf,ok.frf⟩
theorem Cx.Ok.dU {X:Cx} {E:Value→Shared→Prop} (ok:(X.lG E).Ok):X.Ok:=
 ⟨ok.mod,ok.kind,ok.glob,ok.blt,ok.above,ok.inj,ok.has,ok.cab,ok.hd,ok.frames,ok.stk,ok.exf,ok.bs,ok.bsz,ok.wD,ok.An,ok.jf,ok.frf⟩
section
variable {X:Cx} {pins:List (Addr×Obj)} {σ:St} {H:Hp} {s:Shared} {E:Value→Shared→Prop}
theorem Inv.lG (I:Inv X pins σ H s) (E:Value→Shared→Prop):Inv (X.lG E) pins σ H s:=⟨I.ok.lG E,I.os,I.bare,I.base,I.loc,I.cell,I.free,I.fk,I.pin,I.hok,I.len⟩
theorem Inv.dU (I:Inv (X.lG E) pins σ H s):Inv X pins σ H s:=⟨I.ok.dU,I.os,I.bare,I.base,I.loc,I.cell,I.free,I.fk,I.pin,I.hok,I.len⟩
theorem SP.dU {D:Ends} {f:Flow} {s':Shared} (h:SP (X.lG E) pins D f s'):SP X pins D f s':=by
 cases f with
 | next=>obtain ⟨σ',H',I,q⟩:=h;exact ⟨σ',H',I.dU,q⟩
 | brk=>obtain ⟨σ',H',I,q⟩:=h;exact ⟨σ',H',I.dU,q⟩
 | cont=>obtain ⟨σ',H',I,q⟩:=h;exact ⟨σ',H',I.dU,q⟩
 | ret u=>obtain ⟨v,σ',H',I,r,q⟩:=h;exact ⟨v,σ',H',I.dU,r,q⟩
theorem PSs.nox {st:List Stmt} {t:TS} (h:PSs X.nox st t):PSs X st t:=fun pins s σ H D I hw=>
 wpAny_mono (h pins s σ H D (I.lG _) hw) (fun _ _ q=>q.dU) fun _ _ z=>False.elim z
end
section
variable {X:Cx} {st:Stmt} {rest:List Stmt} {t u:TS} {e:Expr} {te:TE} {pos:Pos}
noncomputable def wI:TS:=fun D σ H=>D.nx σ H
noncomputable def wJ (t u:TS):TS:=fun D σ H=>t { D with nx:=u D } σ H
theorem tH:PSs X [] wI:=fun _ _ σ H _ I h=>wpAny_execs_nil ⟨σ,H,I,h⟩
theorem gC (h1:PS X st t) (h2:PSs X rest u):PSs X (st::rest) (wJ t u):=by
 intro pins s σ H D I h
 refine wpAny_execs_cons (thn (h1 pins s σ H { D with nx:=u D } I h) fun f s1 q=>?_)
 cases f with
 | next=>
  obtain ⟨σ',H',I',q⟩:=q
  exact h2 pins s1 σ' H' D I' q
 | ret v=>exact q
 | brk=>exact q
 | cont=>exact q
theorem tK (h1:PS X st t):PSs X [st] t:=by
 intro pins s σ H D I h
 refine wpAny_execs_cons (thn (h1 pins s σ H D I h) fun f s1 q=>?_)
 cases f with
 | next=>exact wpAny_execs_nil q
 | ret v=>exact q
 | brk=>exact q
 | cont=>exact q
noncomputable def wK:TS:=fun D σ H=>D.bk σ H
theorem wL:PS X (.Break pos) wK:=fun _ _ σ H _ I h=>wpAny_Break ⟨σ,H,I,h⟩
theorem Inv.quiet {pins:List (Addr×Obj)} {σ:St} {H:Hp} {s:Shared} (I:Inv X pins σ H s):interactive X.env=false:=by simp [interactive,I.ok.kind]
noncomputable def tL (te:TE):TS:=fun D σ H=>te σ H fun _ H1=>D.nx σ H1
theorem mX (he:PE X e te) (hs:swapsWith e none pos.line X.env=pure false:=by rfl):PS X (.Expr e pos) (tL te):=by
 intro pins s σ H D I h
 exact wpAny_Expr_any (thn (he pins s σ H _ I h) fun v s1 ⟨x,H1,I1,r1,q1⟩=>⟨σ,H1,I1,q1⟩) I.quiet hs
noncomputable def Gv (te:TE):TS:=fun D σ H=>te σ H D.rt
theorem Dw (he:PE X e te):PS X (.Return (some e) pos) (Gv te):=by
 intro pins s σ H D I h
 exact wpAny_Return_some (thn (he pins s σ H _ I h) fun v s1 ⟨x,H1,I1,r1,q1⟩=>⟨x,σ,H1,I1,r1,q1⟩)
noncomputable def Dy (c:TT) (t u:TS):TS:=fun D σ H=>c σ H fun b H1=>if b=true then t D σ H1 else u D σ H1
theorem Cc {c:Expr} {a b:List Stmt} {tc:TT} (hc:PT X c tc) (ha:PSs X a t) (hb:PSs X b u):PS X (.If c a b pos) (Dy tc t u):=by
 intro pins s σ H D I h
 refine wpAny_If (thn (hc pins s σ H _ I h) fun d s1 ⟨H1,I1,q1⟩=>?_)
 cases d with
 | true=>exact ha pins s1 σ H1 D I1 q1
 | false=>exact hb pins s1 σ H1 D I1 q1
noncomputable def Dz:TS:=fun _ _ _=>False
theorem wM:PS X st Dz:=fun _ _ _ _ _ _ h=>h.elim
end
noncomputable abbrev TG:=V→St→Hp→(St→Hp→Prop)→Prop
noncomputable abbrev TGs:=List V→St→Hp→(St→Hp→Prop)→Prop
noncomputable def PG (X:Cx) (target:Expr) (t:TG):Prop:=
 ∀ (pins:List (Addr×Obj)) (s:Shared) (σ:St) (H:Hp) (v:V) (u:Value) (Q:St→Hp→Prop),Inv X pins σ H s→RelV v u→t v σ H Q →
  wpAny (model X.prog X.w) X.A (assign target X.env u) (fun _ s'=>∃ σ' H',Inv X pins σ' H' s'∧Q σ' H') X.xe s
noncomputable def PGs (X:Cx) (ts:List Expr) (t:TGs):Prop:=
 ∀ (pins:List (Addr×Obj)) (s:Shared) (σ:St) (H:Hp) (vs:List V) (us:List Value) (Q:St→Hp→Prop),Inv X pins σ H s→Vals vs us→t vs σ H Q →
  wpAny (model X.prog X.w) X.A (assignInOrder ((assignEach ts X.env).map (·.2)) us) (fun _ s'=>∃ σ' H',Inv X pins σ' H' s'∧Q σ' H') X.xe s
noncomputable abbrev DB:=V→V→V→Hp→(Hp→Prop)→Prop
noncomputable def Gw (X:Cx) (t:DB):Prop:=
 ∀ (pins:List (Addr×Obj)) (s:Shared) (σ:St) (H:Hp) (o i v:V) (ov iv u:Value) (Q:Hp→Prop),Inv X pins σ H s→RelV o ov→RelV i iv→RelV v u→t o i v H Q →
  wpAny (model X.prog X.w) X.A (setItem ov iv u) (fun _ s'=>∃ H',Inv X pins σ H' s'∧Q H') X.xe s
section
variable {X:Cx} {pos:Pos}
noncomputable def gD (i:Nat):TG:=fun v σ H Q=>Q (σ.set i (some v)) H
theorem mY {i:Nat} {x:Str} (hN:X.N.Nodup) (hi:X.N[i]?=some x) (hx:Loc X.env.scope x) (hf:X.fn x=true∨X.env.scope.names.lookup x=some .local:=by first | exact .inl rfl | exact .inr rfl | assumption):PG X (.Name x pos) (gD i):=by
 intro pins s σ H v u Q I r h
 exact wpAny_assign_Name (oA I hN hi hx r (fun s' I'=>⟨_,H,I',h⟩) hf)
noncomputable def Gx:TGs:=fun vs σ H Q=>vs=[]∧Q σ H
noncomputable def Cd (t:TG) (u:TGs):TGs:=fun vs σ H Q=>∃ v r,vs=v::r∧t v σ H fun σ' H'=>u r σ' H' Q
theorem Ar:PGs X [] Gx:=by
 intro pins s σ H vs us Q I r h
 obtain ⟨e,h⟩:=h
 subst e
 cases r
 exact assignInOrder_nil ⟨σ,H,I,h⟩
theorem wN {e:Expr} {es:List Expr} {t:TG} {u:TGs} (h1:PG X e t) (h2:PGs X es u)
  (hs:(assignEach (e::es) X.env).map (·.2)=assign e X.env::(assignEach es X.env).map (·.2):=by rfl):PGs X (e::es) (Cd t u):=by
 intro pins s σ H vs us Q I r h
 obtain ⟨v,vr,e1,h⟩:=h
 subst e1
 cases r with
 | cons r rr=>
  rw [hs]
  refine assignInOrder_cons (thn (h1 pins s σ H _ _ _ I r h) fun _ s1 ⟨σ1,H1,I1,q1⟩=>?_)
  exact h2 pins s1 σ1 H1 _ _ Q I1 rr q1
noncomputable def DC (K:PySem.W.Frag) (n:Nat) (t:TGs):TG:=fun v σ H Q=>∃ a xs,v=.ref a∧SqT K H a xs∧xs.length=n∧t xs σ H Q
theorem qX {es:List Expr} {k:Nat} {t:TGs} {n:Nat} (hc:X.calm=true) (h:PGs X es t)
  (hn:(assignEach es X.env).length=n:=by rfl) (hst:(assignEach es X.env).findIdx? (·.1)=none:=by rfl):PG X (.Tuple es k pos) (DC X.K n t):=by
 intro pins s σ H v u Q I r hw
 obtain ⟨a,xs,e1,hq,hl,hw⟩:=hw
 subst e1
 cases r
 obtain ⟨its,rv,ht,hz⟩:=I.tuple hq
 refine assign_Tuple_tuple (I.ok.hd hc) ht (by simp [hn,← hl,rv.length]) hst fun h' hx=>?_
 have I1:Inv X pins σ H { s with heap:=h' }:=I.kept (t':=s.toks) fun b o e=>hx b o (Nat.ne_of_lt (Heap.lt_size e)) e
 exact h pins _ σ H xs _ Q I1 (by simpa using rv) hw
noncomputable def g9 (to ti:TE) (t:DB):TG:=fun v σ H Q=>to σ H fun o H1=>ti σ H1 fun i H2=>t o i v H2 fun H3=>Q σ H3
theorem DF {o i:Expr} {to ti:TE} {t:DB} (ho:PE X o to) (hi:PE X i ti) (hs:Gw X t)
  (ha:∀ v,assign (.Subscript o i pos) X.env v=(do
   let ov ← holding [v] (eval o X.env)
   let iv ← holding [v,ov] (eval i X.env)
   standAt pos
   holding [v,ov,iv] (setItem ov iv v)
   release [v,ov,iv] []):=by intro _;rfl):PG X (.Subscript o i pos) (g9 to ti t):=by
 intro pins s σ H v u Q I r h
 rw [ha]
 refine wpAny_bind (wpAny_holding (thn (ho pins s σ H _ I h) fun ov s1 ⟨x,H1,I1,r1,q1⟩=>?_))
 refine wpAny_bind (wpAny_holding (thn (hi pins s1 σ H1 _ I1 q1) fun iv s2 ⟨y,H2,I2,r2,q2⟩=>?_))
 refine wpAny_bind (wpAny_standAt (wpAny_bind (wpAny_holding (thn (hs pins s2 σ H2 x y v ov iv u _ I2 r1 r2 r q2) fun _ s3 ⟨H3,I3,q3⟩=>?_))))
 exact wpAny_release ⟨σ,H3,I3,q3⟩
noncomputable def oB (te:TE) (g:TG):TS:=fun D σ H=>te σ H fun x H1=>g x σ H1 D.nx
theorem wO {tg e:Expr} {te:TE} {g:TG} (he:PE X e te) (hg:PG X tg g) (hs:swapsWithSole [tg] e pos.line X.env=pure false:=by rfl) (hw:swappedStores [tg] e X.env=pure none:=by rfl)
  (h1:(assignEach [tg] X.env).map (·.2)=[assign tg X.env]:=by rfl):PS X (.Assign [tg] e pos) (oB te g):=by
 intro pins s σ H D I h
 refine wpAny_Assign_stores (thn (he pins s σ H _ I h) fun v s1 ⟨x,H1,I1,r1,q1⟩=>?_) hs hw
 rw [h1]
 exact thn (hg pins s1 σ H1 x v _ I1 r1 q1) fun _ s2 q=>q
theorem qY {i:Nat} {x:Str} {e:Expr} {te:TE} {pos':Pos} (hN:X.N.Nodup) (hi:X.N[i]?=some x) (hx:Loc X.env.scope x) (he:PE X e te) (hs:swapsWith e (some (.Name x pos')) pos.line X.env=pure false:=by rfl) (hf:X.fn x=true∨X.env.scope.names.lookup x=some .local:=by first | exact .inl rfl | exact .inr rfl | assumption) :
  PS X (.Assign [.Name x pos'] e pos) (oB te (gD i)):=by
 intro pins s σ H D I h
 refine wpAny_Assign_Name (thn (he pins s σ H _ I h) fun v s1 ⟨y,H1,I1,r1,q1⟩=>?_) hs
 exact oA I1 hN hi hx r1 (fun s2 I2=>⟨_,H1,I2,q1⟩) hf
end
section
variable {X:Cx} {pos:Pos}
end
structure It where
 go:Nat→Hp→Prop
 yld:Nat→Hp→V→Hp→Prop
 stop:Nat→Hp→Prop
noncomputable def lH (X:Cx) (pins:List (Addr×Obj)) (H:Hp) (b:Addr):Prop:=
 H b=none∧b≠X.env.locals∧b∉X.fs∧(b∈X.ex∨X.s₀.heap.objs.size≤b)∧(∀ x c,X.env.cells.lookup x=some c→c≠b)∧∀ p∈X.pn++pins,p.1≠b
theorem Inv.qZ {X:Cx} {pins:List (Addr×Obj)} {σ:St} {H H':Hp} {s:Shared} {b:Addr} (I:Inv X pins σ H s) (hb:s.heap.objs.size≤b) (hn:H' b=none):lH X pins H' b:=by
 refine ⟨hn,Nat.ne_of_gt (Nat.lt_of_lt_of_le I.lt hb),I.Jp hb,.inr (Nat.le_trans I.sz hb),fun x c e z=>?_,fun p hp z=>?_⟩
 ·obtain ⟨v,q⟩:=I.cell x c e
  exact absurd (Nat.lt_of_lt_of_le q.lt (by rw [z];exact hb)) (Nat.lt_irrefl _)
 ·exact absurd (Nat.lt_of_lt_of_le (Heap.lt_size (I.pin p hp).1) (by rw [z];exact hb)) (Nat.lt_irrefl _)
structure Turn (P:Program) (w:World) (K:PySem.W.Frag) (tg:Expr) (J:It) (fp:List Addr) (it:Addr) (tn:Nat→Heap→Prop):Prop where
 mem:it∈fp
 obj:∀ i h,tn i h→∀ b∈fp,∃ o,h.get? b=some o∧∀ v,o.data≠.cell v
 keep:∀ i h h',tn i h→(∀ b∈fp,∀ o,h.get? b=some o→h'.get? b=some o)→tn i h'
 item:∀ (X:Cx),X.prog=P→X.w=w→X.K=K→X.calm=true→∀ (i:Nat) (pins:List (Addr×Obj)) (s:Shared) (σ:St) (H:Hp) (E:Value→Shared→Prop),Inv X pins σ H s→(∀ b∈fp,lH X pins H b)→tn i s.heap→J.go i H →
  wpAny (model P w) X.A (pyNext (.ref it)) (fun r s1=>∃ u,r=some u ∧
   wpAny (model P w) X.A (letOwnedTupleGo tg (.ref it) u) (fun _ s2=>∃ x H',Inv X pins σ H' s2∧RelV x u∧J.yld i H x H'∧tn (i+1) s2.heap∧∀ b∈fp,H' b=none) E s1) E s
 done:∀ (X:Cx),X.prog=P→X.w=w→X.K=K→X.calm=true→∀ (i:Nat) (pins:List (Addr×Obj)) (s:Shared) (σ:St) (H:Hp) (E:Value→Shared→Prop),Inv X pins σ H s→(∀ b∈fp,lH X pins H b)→tn i s.heap→J.stop i H →
  wpAny (model P w) X.A (pyNext (.ref it)) (fun r s1=>r=none∧Inv X pins σ H s1) E s
 self:∀ (A:Around) (i:Nat) (s:Shared) (Q:Value→Shared→Prop) (E:Value→Shared→Prop),tn i s.heap→Q (.ref it) s→wpAny (model P w) A (pyIter (.ref it)) Q E s
noncomputable abbrev TI:=St→Hp→(It→Hp→Prop)→Prop
noncomputable def PIE (X:Cx) (pins:List (Addr×Obj)) (σ:St) (tg:Expr) (R:It→Hp→Prop) (itv:Value) (s2:Shared):Prop:=
 ∃ (it:Addr) (fp:List Addr) (tn:Nat→Heap→Prop) (J:It) (H':Hp),itv=.ref it∧Inv X pins σ H' s2∧Turn X.prog X.w X.K tg J fp it tn∧tn 0 s2.heap∧(∀ b∈fp,lH X pins H' b)∧R J H'
noncomputable def PI (X:Cx) (tg iter:Expr) (wi:TI):Prop:=
 ∀ (pins:List (Addr×Obj)) (s:Shared) (σ:St) (H:Hp) (R:It→Hp→Prop),Inv X pins σ H s→wi σ H R →
  wpAny (model X.prog X.w) X.A (eval iter X.env) (fun v s1=>wpAny (model X.prog X.w) X.A (pyIter v) (PIE X pins σ tg R) X.xe s1) X.xe s
theorem oE {M:Model} {A:Around} {E:Value→Shared→Prop} {s:Shared} {tg:Expr} {it:Addr} {u:Value} {o:Obj} {n:String} {vs:Array Value} {Q:Unit→Shared→Prop} (ho:s.heap.get? it=some o) (hc:o.cls=.type n) (hd:o.data=.fields vs)
  (hn:["enumerate","zip","dict_itemiterator","dict_reverseitemiterator","odict_iterator","itertools.zip_longest","itertools.pairwise"].contains n=false) (hQ:Q () s):wpAny M A (letOwnedTupleGo tg (.ref it) u) Q E s:=by
 unfold letOwnedTupleGo
 cases tg<;>first
  | exact wpAny_pure hQ
  | (cases u<;>first
    | exact wpAny_pure hQ
    | (refine wpAny_bind (wpAny_load ho ?_)
       rw [hc,hd]
       show wpAny M A (if (["enumerate","zip","dict_itemiterator","dict_reverseitemiterator","odict_iterator","itertools.zip_longest","itertools.pairwise"].contains n&&vs[0]? == some (rawInt _))=true then _ else _) Q E s
       rw [if_neg (by intro h;rw [hn,Bool.false_and] at h;cases h)]
       exact wpAny_pure hQ))
noncomputable def Itl (K:PySem.W.Frag) (a:Addr):It:=
 ⟨fun i H=>∃ xs x,SqL K H a xs∧xs[i]?=some x,fun i H x H'=>H'=H∧∀ xs,SqL K H a xs→xs[i]?=some x,fun i H=>∃ xs,SqL K H a xs∧xs.length≤i⟩
noncomputable def Itt (K:PySem.W.Frag) (a:Addr):It:=
 ⟨fun i H=>∃ xs x,SqT K H a xs∧xs[i]?=some x,fun i H x H'=>H'=H∧∀ xs,SqT K H a xs→xs[i]?=some x,fun i H=>∃ xs,SqT K H a xs∧xs.length≤i⟩
noncomputable def Itr (lo:Int) (n:Nat):It:=⟨fun i _=>i<n,fun i H x H'=>H'=H∧x=.int (lo+i),fun i _=>n≤i⟩
theorem u_ {P:Program} {w:World} {K:PySem.W.Frag} {tg:Expr} (a it:Addr):Turn P w K tg (Itl K a) [it] it (fun i h=>h.IsListIter it a i) where
 mem:=by simp
 obj:=fun i h st b hb=>by
  have e:b=it:=by simpa using hb
  subst e
  obtain ⟨o,e,c,d⟩:=st
  exact ⟨o,e,fun v z=>by rw [d] at z;cases z⟩
 keep:=fun i h h' st k=>st.at fun o e=>k it (by simp) o e
 item:=by
  intro X hP hw hK hc i pins s σ H E I hf st hg
  subst hP hw hK
  obtain ⟨xs,x,hq,hx⟩:=hg
  obtain ⟨its,rv,p,hz⟩:=I.list hq
  obtain ⟨u,hu,ru⟩:=rv.get hx
  obtain ⟨f0,f1,f2,f3,f4,f5⟩:=hf it (by simp)
  refine wpAny_pyNext_list_item st p.isList (x:=u) (by simpa using hu) fun h' st' sb=>?_
  have I1:Inv X pins σ H { s with heap:=h' }:=I.turned (t':=s.toks) (fun b o hb e=>(sb.2 b hb).trans e) f0 f1 f3 f4 f5
  obtain ⟨o,e,c,d⟩:=id st'
  exact ⟨u,rfl,oE (s:={ s with heap:=h' }) e c d (by decide) ⟨x,H,I1,ru,⟨rfl,fun ys hy=>by rw [I.dS hy hq];exact hx⟩,st',fun b hb=>(hf b hb).1⟩⟩
 done:=by
  intro X hP hw hK hc i pins s σ H E I hf st hg
  subst hP hw hK
  obtain ⟨xs,hq,hx⟩:=hg
  obtain ⟨its,rv,p,hz⟩:=I.list hq
  obtain ⟨f0,f1,f2,f3,f4,f5⟩:=hf it (by simp)
  have hl:=rv.length
  exact wpAny_pyNext_list_end (I.ok.hd hc) st p.isList (by simp;omega) fun h' eb=>⟨rfl,I.turned (t':=s.toks) (fun b o hb e=>eb b o hb e) f0 f1 f3 f4 f5⟩
 self:=fun _ _ _ _ _ st h=>wpAny_pyIter_listiter st h
theorem q_ {P:Program} {w:World} {K:PySem.W.Frag} {tg:Expr} (a it:Addr):Turn P w K tg (Itt K a) [it] it (fun i h=>h.IsTupleIter it a i) where
 mem:=by simp
 obj:=fun i h st b hb=>by
  have e:b=it:=by simpa using hb
  subst e
  obtain ⟨o,e,c,d⟩:=st
  exact ⟨o,e,fun v z=>by rw [d] at z;cases z⟩
 keep:=fun i h h' st k=>st.at fun o e=>k it (by simp) o e
 item:=by
  intro X hP hw hK hc i pins s σ H E I hf st hg
  subst hP hw hK
  obtain ⟨xs,x,hq,hx⟩:=hg
  obtain ⟨its,rv,p,hz⟩:=I.tuple hq
  obtain ⟨u,hu,ru⟩:=rv.get hx
  obtain ⟨f0,f1,f2,f3,f4,f5⟩:=hf it (by simp)
  refine wpAny_pyNext_tuple_item st (show s.heap.IsTuple a its.toArray from p) (x:=u) (by simpa using hu) fun h' st' sb=>?_
  have I1:Inv X pins σ H { s with heap:=h' }:=I.turned (t':=s.toks) (fun b o hb e=>(sb.2 b hb).trans e) f0 f1 f3 f4 f5
  obtain ⟨o,e,c,d⟩:=id st'
  exact ⟨u,rfl,oE (s:={ s with heap:=h' }) e c d (by decide) ⟨x,H,I1,ru,⟨rfl,fun ys hy=>by rw [I.u9 hy hq];exact hx⟩,st',fun b hb=>(hf b hb).1⟩⟩
 done:=by
  intro X hP hw hK hc i pins s σ H E I hf st hg
  subst hP hw hK
  obtain ⟨xs,hq,hx⟩:=hg
  obtain ⟨its,rv,p,hz⟩:=I.tuple hq
  obtain ⟨f0,f1,f2,f3,f4,f5⟩:=hf it (by simp)
  have hl:=rv.length
  exact wpAny_pyNext_tuple_end (I.ok.hd hc) st (show s.heap.IsTuple a its.toArray from p) (by simp;omega) fun h' eb=>⟨rfl,I.turned (t':=s.toks) (fun b o hb e=>eb b o hb e) f0 f1 f3 f4 f5⟩
 self:=fun _ _ _ _ _ st h=>wpAny_pyIter_tupleiter st h
theorem rj {P:Program} {w:World} {K:PySem.W.Frag} {tg:Expr} (it:Addr) (lo:Int) (n:Nat):Turn P w K tg (Itr lo n) [it] it (fun i h=>IsRangeIter h it (lo+(i:Nat)*1) ((n:Int)-(i:Nat)) 1) where
 mem:=by simp
 obj:=fun i h st b hb=>by
  have e:b=it:=by simpa using hb
  subst e
  exact ⟨_,st,fun v z=>by
   have z':Data.fields _=Data.cell v:=z
   cases z'⟩
 keep:=fun i h h' st k=>k it (by simp) _ st
 item:=by
  intro X hP hw hK hc i pins s σ H E I hf st hg
  subst hP hw hK
  obtain ⟨f0,f1,f2,f3,f4,f5⟩:=hf it (by simp)
  have W:=Walks.range (prog:=X.prog) (w:=X.w) (I.ok.hd hc) it lo 1 n
  refine W.item i s _ _ hg st fun v h' tk hv st' kk=>?_
  obtain ⟨t,rfl⟩:=hv
  have I1:Inv X pins σ H { s with heap:=h',toks:=tk }:=I.turned (fun b o hb e=>kk b o (by simpa using hb) e) f0 f1 f3 f4 f5
  refine ⟨_,rfl,oE (s:={ s with heap:=h',toks:=tk }) (n := "range_iterator") st' rfl rfl (by decide) ⟨.int (lo+i),H,I1,⟨t,?_⟩,⟨rfl,rfl⟩,st',fun b hb=>(hf b hb).1⟩⟩
  rw [Int.mul_one]
 done:=by
  intro X hP hw hK hc i pins s σ H E I hf st hg
  subst hP hw hK
  obtain ⟨f0,f1,f2,f3,f4,f5⟩:=hf it (by simp)
  exact wpAny_pyNext_range_end (I.ok.hd hc) st (by have:n≤i:=hg;omega) fun h' eb=>⟨rfl,I.turned (t':=s.toks) (fun b o hb e=>eb b o hb e) f0 f1 f3 f4 f5⟩
 self:=fun _ _ _ _ _ st h=>wpAny_pyIter_rangeiter st h
section
variable {X:Cx} {tg:Expr}
noncomputable def oF (K:PySem.W.Frag) (tl:TE):TI:=fun σ H R=>tl σ H fun x H1=>∃ a,x=.ref a∧(∃ xs,SqL K H1 a xs)∧R (Itl K a) H1
noncomputable def wQ (K:PySem.W.Frag) (tl:TE):TI:=fun σ H R=>tl σ H fun x H1=>∃ a,x=.ref a∧(∃ xs,SqT K H1 a xs)∧R (Itt K a) H1
theorem tM {l:Expr} {tl:TE} (hl:PE X l tl):PI X tg l (oF X.K tl):=by
 intro pins s σ H R I h
 refine thn (hl pins s σ H _ I h) fun v s1 ⟨x,H1,I1,r1,q1⟩=>?_
 obtain ⟨a,e,⟨xs,hq⟩,q⟩:=q1
 subst e
 cases r1
 obtain ⟨its,rv,p,hz⟩:=I1.list hq
 refine wpAny_pyIter_list p.isList ?_
 refine ⟨s1.heap.objs.size,[s1.heap.objs.size],_,_,H1,rfl,I1.kept (t':=s1.toks) fun b o e=>Heap.get?_push_of_some _ e,u_ a _,⟨_,Heap.get?_push_size _ rfl,rfl,rfl⟩,fun b hb=>?_,q⟩
 have e:b=s1.heap.objs.size:=by simpa using hb
 subst e
 exact I1.qZ (Nat.le_refl _) (I1.hok.fresh (Nat.le_refl _))
theorem wR {l:Expr} {tl:TE} (hl:PE X l tl):PI X tg l (wQ X.K tl):=by
 intro pins s σ H R I h
 refine thn (hl pins s σ H _ I h) fun v s1 ⟨x,H1,I1,r1,q1⟩=>?_
 obtain ⟨a,e,⟨xs,hq⟩,q⟩:=q1
 subst e
 cases r1
 obtain ⟨its,rv,p,hz⟩:=I1.tuple hq
 refine wpAny_pyIter_tuple (show s1.heap.IsTuple a its.toArray from p) ?_
 refine ⟨s1.heap.objs.size,[s1.heap.objs.size],_,_,H1,rfl,I1.kept (t':=s1.toks) fun b o e=>Heap.get?_push_of_some _ e,q_ a _,⟨_,Heap.get?_push_size _ rfl,rfl,rfl⟩,fun b hb=>?_,q⟩
 have e:b=s1.heap.objs.size:=by simpa using hb
 subst e
 exact I1.qZ (Nat.le_refl _) (I1.hok.fresh (Nat.le_refl _))
theorem oG {pins:List (Addr×Obj)} {σ:St} {H:Hp} {s:Shared} {R:It→Hp→Prop} {E:Value→Shared→Prop} {lo hi:Int} {t u v:Tok} {tk:Nat} (I:Inv X pins σ H s) (h1:-(2 ^ 62)≤lo) (h2:lo<2 ^ 62) (h3:-(2 ^ 62)≤hi) (h4:hi<2 ^ 62)
  (q:R (Itr lo (hi-lo).toNat) H):wpAny (model X.prog X.w) X.A (pyIter (.ref s.heap.objs.size)) (PIE X pins σ tg R) E { s with heap:=s.heap.push { cls:=.type "range",data:=.fields #[.int lo t,.int hi u,.int 1 v] },toks:=tk }:=by
 refine wpAny_pyIter_range (IsRange.new ..) (small_one h1 h2 h3 h4) ?_
 have I1:Inv X pins σ H { s with heap:=s.heap.push { cls:=.type "range",data:=.fields #[.int lo t,.int hi u,.int 1 v] },toks:=tk }:=I.kept fun b o e=>Heap.get?_push_of_some _ e
 refine ⟨(s.heap.push { cls:=.type "range",data:=.fields #[.int lo t,.int hi u,.int 1 v] }).objs.size,[(s.heap.push { cls:=.type "range",data:=.fields #[.int lo t,.int hi u,.int 1 v] }).objs.size],_,_,H,rfl,
  I1.kept (t':=tk) fun b o e=>Heap.get?_push_of_some _ e,rj _ lo (hi-lo).toNat,?_,fun b hb=>?_,q⟩
 ·have e1:lo+((0:Nat):Int)*1=lo:=by simp
  have e2:(((hi-lo).toNat:Nat):Int)-((0:Nat):Int)=Builtin.Range.rangeSize lo hi 1:=by rw [rangeSize_one];split<;>omega
  show IsRangeIter _ _ (lo+((0:Nat):Int)*1) ((((hi-lo).toNat:Nat):Int)-((0:Nat):Int)) 1
  rw [e1,e2]
  exact Heap.get?_push_size _ rfl
 ·have e:b=(s.heap.push { cls:=.type "range",data:=.fields #[.int lo t,.int hi u,.int 1 v] }).objs.size:=by simpa using hb
  subst e
  exact I1.qZ (Nat.le_refl _) (I1.hok.fresh (Nat.le_refl _))
noncomputable def Ce (ta:TA):TI:=fun σ H R=>ta σ H fun vs H1=>∃ j:Int,vs=[.int j]∧-(2 ^ 62)≤j∧j<2 ^ 62∧R (Itr 0 j.toNat) H1
noncomputable def Cf (ta:TA):TI:=fun σ H R=>ta σ H fun vs H1=>∃ i j:Int,vs=[.int i,.int j]∧(-(2 ^ 62)≤i∧i<2 ^ 62∧-(2 ^ 62)≤j∧j<2 ^ 62)∧R (Itr i (j-i).toNat) H1
theorem vc {a:Expr} {ta:TA} {p pos:Pos} (hg:Gl X "range") (hm:X.mg "range" = none) (ha:PA X [a] ta) (hs:starEach [a] X.env=[(false,eval a X.env)]:=by rfl):PI X tg (.Call (.Name "range" p) [a] [] pos) (Ce ta):=by
 intro pins s σ H R I h
 refine Call_ (b7 I hg hm boot_range (PyProof.Rows.callWith_type1 (thn (ha pos pins s σ H _ I h) fun us s1 ⟨vs,H1,I1,r1,q1⟩=>?_) hs rfl))
 obtain ⟨j,e,q1,q2,q⟩:=q1
 subst e
 cases r1 with
 | cons r rr=>
  cases rr
  obtain ⟨t,rfl⟩:=r
  exact call_range_1 (oG I1 (by omega) (by omega) q1 q2 (by simpa using q))
theorem vd {a b:Expr} {ta:TA} {p pos:Pos} (hg:Gl X "range") (hm:X.mg "range" = none) (ha:PA X [a,b] ta) (hs:starEach [a,b] X.env=[(false,eval a X.env),(false,eval b X.env)]:=by rfl) (hs2:starEach [b] X.env=[(false,eval b X.env)]:=by rfl) :
  PI X tg (.Call (.Name "range" p) [a,b] [] pos) (Cf ta):=by
 intro pins s σ H R I h
 refine Call_ (b7 I hg hm boot_range (PyProof.Rows.callWith_type1 (thn (ha pos pins s σ H _ I h) fun us s1 ⟨vs,H1,I1,r1,q1⟩=>?_) (by rw [hs,hs2]) (by rw [hs2];rfl)))
 obtain ⟨i,j,e,⟨q1,q2,q3,q4⟩,q⟩:=q1
 subst e
 cases r1 with
 | cons r rr=>
  cases rr with
  | cons r' rr=>
   cases rr
   obtain ⟨t,rfl⟩:=r
   obtain ⟨t',rfl⟩:=r'
   exact call_range_2 (oG I1 q1 q2 q3 q4 q)
noncomputable def DG (wi:TI) (g:TG) (tb:TS):TS:=fun D σ H=>wi σ H fun J H1=>∃ W:Nat→Nat→St→Hp→Prop,(∃ m,W 0 m σ H1)∧∀ i m σ H,W i m σ H →
 (J.stop i H∧D.nx σ H)∨(J.go i H∧∃ N:St→Hp→Prop,(∀ σ' H',N σ' H'→∃ m',m'<m∧W (i+1) m' σ' H')∧∀ x H',J.yld i H x H'→g x σ H' fun σ2 H2=>tb { D with nx:=N,ct:=N,bk:=D.nx } σ2 H2)
noncomputable def ji (fp:List Addr) (h:Heap):List (Addr×Obj):=fp.filterMap fun b=>(h.get? b).map fun o=>(b,o)
theorem dg {fp:List Addr} {h:Heap} {b:Addr} {o:Obj} (hb:b∈fp) (e:h.get? b=some o):(b,o)∈ji fp h:=List.mem_filterMap.mpr ⟨b,hb,by rw [e];rfl⟩
theorem ve {fp:List Addr} {h:Heap} {p:Addr×Obj} (hp:p∈ji fp h):p.1∈fp∧h.get? p.1=some p.2:=by
 obtain ⟨b,hb,e⟩:=List.mem_filterMap.mp hp
 cases q:h.get? b with
 | none=>rw [q] at e;cases e
 | some o=>
  rw [q] at e
  have e':(b,o)=p:=Option.some.inj e
  subst e'
  exact ⟨hb,q⟩
theorem Inv.pinned {pins:List (Addr×Obj)} {σ:St} {H:Hp} {s:Shared} {fp:List Addr} (I:Inv X pins σ H s) (hf:∀ b∈fp,lH X pins H b) (ho:∀ b∈fp,∃ o,s.heap.get? b=some o∧∀ v,o.data≠.cell v):Inv X (pins++ji fp s.heap) σ H s:=
 I.tF fun p hp=>(List.mem_append.mp hp).elim (fun z=>I.pin p (List.mem_append_right _ z)) fun z=>by
  obtain ⟨hb,e⟩:=ve z
  obtain ⟨f0,f1,f2,_⟩:=hf p.1 hb
  obtain ⟨o,e',d⟩:=ho p.1 hb
  rw [e] at e';cases e'
  exact ⟨e,f0,f1,f2,d⟩
theorem Inv.gE {pins pl:List (Addr×Obj)} {σ:St} {H:Hp} {s:Shared} (I:Inv X (pins++pl) σ H s):Inv X pins σ H s:=I.tF fun p hp=>I.pin p (List.mem_append_right _ (List.mem_append_left _ hp))
theorem wU {iter:Expr} {body:List Stmt} {wi:TI} {g:TG} {tb:TS} {pos:Pos} (hp:PassesOwn (model X.prog X.w) X.A X.env X.xe) (hc:X.calm=true) (hi:PI X tg iter wi) (hg:PG X tg g) (hb:PSs X body tb)
  (hs:∀ x,foldedSetIterable iter X.env x=pure x:=by intro _;rfl):PS X (.For tg iter body [] pos) (DG wi g tb):=by
 intro pins s σ H D I h
 refine wpAny_For (thn (hi pins s σ H _ I h) fun v s1 h1=>thn h1 fun itv s2 h2=>?_) hs
 obtain ⟨it,fp,tn,J,H2,e,I2,T,st2,f2,W,⟨m0,w0⟩,turn⟩:=h2
 subst e
 have stat:∀ {H':Hp},(∀ b∈fp,H' b=none)→∀ b∈fp,lH X pins H' b:=fun hn b hb=>⟨hn b hb,(f2 b hb).2⟩
 refine codeAny_forLoop_any (fun n s'=>∃ i σ' H',Inv X pins σ' H' s'∧tn i s'.heap∧(∀ b∈fp,H' b=none)∧W i n σ' H') ?_ m0 ⟨0,σ,H2,I2,st2,fun b hb=>(f2 b hb).1,w0⟩
 rintro n s3 ⟨i,σ3,H3,I3,st3,fr3,w3⟩
 rcases turn i n σ3 H3 w3 with ⟨stop,qn⟩ | ⟨go,N,hN,step⟩
 ·refine wpAny_passesOwn hp (thn (T.done X rfl rfl rfl hc i pins s3 σ3 H3 X.xe I3 (stat fr3) st3 stop) fun r s4 ⟨hr,I4⟩=>?_)
  subst hr
  exact wpAny_execs_nil ⟨σ3,H3,I4,qn⟩
 ·refine wpAny_passesOwn hp (thn (T.item X rfl rfl rfl hc i pins s3 σ3 H3 X.xe I3 (stat fr3) st3 go) fun r s4 ⟨u,hr,h4⟩=>?_)
  subst hr
  refine wpAny_passesOwn hp (thn h4 fun _ s5 ⟨x,H5,I5,r5,y5,st5,fr5⟩=>?_)
  have I5':=I5.pinned (stat fr5) (T.obj _ _ st5)
  refine wpAny_passesOwn hp (thn (hg _ s5 σ3 H5 x u _ I5' r5 (step x H5 y5)) fun _ s6 ⟨σ6,H6,I6,q6⟩=>?_)
  refine wpAny_passesOwn hp (thn (hb _ s6 σ6 H6 _ I6 q6) fun f s7 q7=>?_)
  have again:∀ {σ7:St} {H7:Hp},Inv X (pins++ji fp s5.heap) σ7 H7 s7→N σ7 H7→∃ m,m<n∧∃ i σ' H',Inv X pins σ' H' s7∧tn i s7.heap∧(∀ b∈fp,H' b=none)∧W i m σ' H':=fun {σ7 H7} I7 n7=>by
   obtain ⟨m',hm,w7⟩:=hN σ7 H7 n7
   refine ⟨m',hm,i+1,σ7,H7,I7.gE,T.keep _ _ _ st5 fun b hb o e=>(I7.pin (b,o) (List.mem_append_right _ (List.mem_append_right _ (dg hb e)))).1,fun b hb=>?_,w7⟩
   obtain ⟨o,e,d⟩:=T.obj _ _ st5 b hb
   exact (I7.pin (b,o) (List.mem_append_right _ (List.mem_append_right _ (dg hb e)))).2.1
  cases f with
  | next=>obtain ⟨σ7,H7,I7,n7⟩:=q7;exact again I7 n7
  | cont=>obtain ⟨σ7,H7,I7,n7⟩:=q7;exact again I7 n7
  | brk=>obtain ⟨σ7,H7,I7,q7⟩:=q7;exact ⟨σ7,H7,I7.gE,q7⟩
  | ret v=>obtain ⟨x7,σ7,H7,I7,r7,q7⟩:=q7;exact ⟨x7,σ7,H7,I7.gE,r7,q7⟩
end
noncomputable abbrev R2:=V→V→Hp→VK→Prop
noncomputable def OpR (X:Cx) (f:Value→Value→Sem Value) (r:R2):Prop:=
 ∀ (pins:List (Addr×Obj)) (s:Shared) (σ:St) (H:Hp) (x y:V) (v u:Value) (Q:VK),Inv X pins σ H s→RelV x v→RelV y u→r x y H Q →
  wpAny (model X.prog X.w) X.A (f v u) (EP X pins σ Q) X.xe s
noncomputable def UnR (X:Cx) (f:Value→Sem Value) (r:V→Hp→VK→Prop):Prop:=
 ∀ (pins:List (Addr×Obj)) (s:Shared) (σ:St) (H:Hp) (x:V) (v:Value) (Q:VK),Inv X pins σ H s→RelV x v→r x H Q →
  wpAny (model X.prog X.w) X.A (f v) (EP X pins σ Q) X.xe s
noncomputable def cH (X:Cx) (f:Value) (r:List V→Hp→VK→Prop):Prop:=
 ∀ (pins:List (Addr×Obj)) (s:Shared) (σ:St) (H:Hp) (xs:List V) (us:List Value) (Q:VK),Inv X pins σ H s→Vals xs us→r xs H Q →
  wpAny (model X.prog X.w) X.A (call f us) (EP X pins σ Q) X.xe s
noncomputable def tOp (r:R2) (ta tb:TE):TE:=fun σ H Q=>ta σ H fun x H1=>tb σ H1 fun y H2=>r x y H2 Q
noncomputable def tUn (r:V→Hp→VK→Prop) (ta:TE):TE:=fun σ H Q=>ta σ H fun x H1=>r x H1 Q
noncomputable def rI (C:Int→Int→Prop) (g:Int→Int→V):R2:=fun x y H Q=>∃ i j,x=.int i∧y=.int j∧C i j∧Q (g i j) H
noncomputable def rI0 (g:Int→Int→V):R2:=fun x y H Q=>∃ i j,x=.int i∧y=.int j∧Q (g i j) H
noncomputable def rU (g:Int→V):V→Hp→VK→Prop:=fun x H Q=>∃ i,x=.int i∧Q (g i) H
section
variable {X:Cx} {a b c:Expr} {ta tb tc:TE} {pos:Pos}
theorem DH (ha:PE X a ta) (hb:PE X b tb) {pins:List (Addr×Obj)} {s:Shared} {σ:St} {H:Hp} {R:V→V→Hp→Prop} (I:Inv X pins σ H s)
  (h:ta σ H fun x H1=>tb σ H1 fun y H2=>R x y H2) {Q:Value→Shared→Prop} {f:Value→Value→Sem Value}
  (hf:∀ v u s2 x y H2,Inv X pins σ H2 s2→RelV x v→RelV y u→R x y H2→wpAny (model X.prog X.w) X.A (f v u) Q X.xe s2) :
  wpAny (model X.prog X.w) X.A (eval a X.env) (fun v s₁=>wpAny (model X.prog X.w) X.A (eval b X.env) (fun u s₂=>wpAny (model X.prog X.w) X.A (f v u) Q X.xe s₂) X.xe s₁) X.xe s:=by
 refine thn (ha pins s σ H _ I h) fun v s1 ⟨x,H1,I1,r1,q1⟩=>?_
 refine thn (hb pins s1 σ H1 _ I1 q1) fun u s2 ⟨y,H2,I2,r2,q2⟩=>?_
 exact hf v u s2 x y H2 I2 r1 r2 q2
theorem Gy {op:Operator} {r:R2} (ho:OpR X (binaryOp op) r) (ha:PE X a ta) (hb:PE X b tb):PE X (.BinOp a op b pos) (tOp r ta tb):=by
 intro pins s σ H Q I h
 exact wpAny_BinOp (DH ha hb I h fun v u s2 x y H2 I2 rx ry q=>ho pins s2 σ H2 x y v u Q I2 rx ry q)
theorem Cg {op:UnaryOp} {r:V→Hp→VK→Prop} (ho:UnR X (unaryOp op) r) (ha:PE X a ta):PE X (.UnaryOp op a pos) (tUn r ta):=by
 intro pins s σ H Q I h
 exact UnaryOp_ (thn (ha pins s σ H _ I h) fun v s1 ⟨x,H1,I1,r1,q1⟩=>ho pins s1 σ H1 x v Q I1 r1 q1)
theorem opI {f:Value→Value→Sem Value} {C:Int→Int→Prop} {g:Int→Int→Int}
  (rule:∀ (i j:Int) (t u:Tok) (s:Shared) (Q:Value→Shared→Prop) (E:Value→Shared→Prop),C i j→Q (.int (g i j) s.toks) { s with toks:=s.toks+1 }→wpAny (model X.prog X.w) X.A (f (.int i t) (.int j u)) Q E s) :
  OpR X f (rI C fun i j=>.int (g i j)):=by
 intro pins s σ H x y v u Q I rx ry h
 obtain ⟨i,j,rfl,rfl,hc,q⟩:=h
 obtain ⟨t,rfl⟩:=rx
 obtain ⟨t',rfl⟩:=ry
 exact rule i j t t' s _ _ hc ⟨.int (g i j),H,I.tok _,⟨_,rfl⟩,q⟩
theorem Gz {f:Value→Value→Sem Value} {g:Int→Int→Int}
  (rule:∀ (i j:Int) (t u:Tok) (s:Shared) (Q:Value→Shared→Prop) (E:Value→Shared→Prop),Q (.int (g i j) s.toks) { s with toks:=s.toks+1 }→wpAny (model X.prog X.w) X.A (f (.int i t) (.int j u)) Q E s) :
  OpR X f (rI0 fun i j=>.int (g i j)):=by
 intro pins s σ H x y v u Q I rx ry h
 obtain ⟨i,j,rfl,rfl,q⟩:=h
 obtain ⟨t,rfl⟩:=rx
 obtain ⟨t',rfl⟩:=ry
 exact rule i j t t' s _ _ ⟨.int (g i j),H,I.tok _,⟨_,rfl⟩,q⟩
theorem As {f:Value→Value→Sem Value} {g:Int→Int→Bool}
  (rule:∀ (i j:Int) (t u:Tok) (s:Shared) (Q:Value→Shared→Prop) (E:Value→Shared→Prop),Q (.bool (g i j)) s→wpAny (model X.prog X.w) X.A (f (.int i t) (.int j u)) Q E s) :
  OpR X f (rI0 fun i j=>.bl (g i j)):=by
 intro pins s σ H x y v u Q I rx ry h
 obtain ⟨i,j,rfl,rfl,q⟩:=h
 obtain ⟨t,rfl⟩:=rx
 obtain ⟨t',rfl⟩:=ry
 exact rule i j t t' s _ _ ⟨.bl (g i j),H,I,rfl,q⟩
noncomputable def GA (i j:Int):Prop:=0≤j∧j≤1000000∧i.natAbs<2 ^ 64
noncomputable def wV (i j:Int):Prop:=(-(2 ^ 64)<i∧i<2 ^ 64)∨(-(2 ^ 64)<j∧j<2 ^ 64)
theorem wV.ok {i j:Int} (h:wV i j):IntMulOk i j:=by
 rcases h with ⟨h1,h2⟩ | ⟨h1,h2⟩
 ·exact .of_left (intBits_le_64 h1 h2)
 ·exact .of_right (intBits_le_64 h1 h2)
theorem DJ:OpR X (binaryOp .Add) (rI0 fun i j=>.int (i+j)):=Gz fun _ _ _ _ _ _ _ q=>add_int q
theorem DK:OpR X (binaryOp .Sub) (rI0 fun i j=>.int (i-j)):=Gz fun _ _ _ _ _ _ _ q=>sub_int q
theorem DL:OpR X (binaryOp .Mult) (rI wV fun i j=>.int (i*j)):=opI fun _ _ _ _ _ _ _ hc q=>mul_int q hc.ok
theorem DM:OpR X (binaryOp .Mod) (rI (fun _ j=>0<j) fun i j=>.int (i % j)):=opI fun i j _ _ _ _ _ hc q=>by
 have h1:(0:Int)<j:=hc
 exact mod_int' (by omega) (by rw [Int.fmod_eq_emod_of_nonneg i (by omega)];exact q)
theorem DO:OpR X (binaryOp .Pow) (rI GA fun i j=>.int (i ^ j.toNat)):=opI fun _ _ _ _ _ _ _ hc q=>pow_int_small hc.1 hc.2.1 hc.2.2 q
theorem unI {f:Value→Sem Value} {g:Int→Int}
  (rule:∀ (i:Int) (t:Tok) (s:Shared) (Q:Value→Shared→Prop) (E:Value→Shared→Prop),Q (.int (g i) s.toks) { s with toks:=s.toks+1 }→wpAny (model X.prog X.w) X.A (f (.int i t)) Q E s) :
  UnR X f (rU fun i=>.int (g i)):=by
 intro pins s σ H x v Q I rx h
 obtain ⟨i,rfl,q⟩:=h
 obtain ⟨t,rfl⟩:=rx
 exact rule i t s _ _ ⟨.int (g i),H,I.tok _,⟨_,rfl⟩,q⟩
theorem wW:UnR X (unaryOp .USub) (rU fun i=>.int (-i)):=unI fun _ _ _ _ _ q=>neg_int q
end
section
variable {X:Cx} {a b c:Expr} {ta tb tc:TE} {pos:Pos}
theorem Ci:OpR X (compareOp .Lt) (rI0 fun i j=>.bl (decide (i<j))):=As fun _ _ _ _ _ _ _ q=>lt_int q
theorem tN:OpR X (compareOp .LtE) (rI0 fun i j=>.bl (decide (i≤j))):=As fun _ _ _ _ _ _ _ q=>le_int q
theorem GB:OpR X (compareOp .Gt) (rI0 fun i j=>.bl (decide (j<i))):=As fun _ _ _ _ _ _ _ q=>gt_int q
theorem GC:OpR X (compareOp .GtE) (rI0 fun i j=>.bl (decide (j≤i))):=As fun _ _ _ _ _ _ _ q=>ge_int q
theorem OpR.or {f:Value→Value→Sem Value} {r r':R2} (h:OpR X f r) (h':OpR X f r'):OpR X f (fun x y H Q=>r x y H Q∨r' x y H Q):=by
 intro pins s σ H x y v u Q I rx ry q
 rcases q with q | q
 ·exact h pins s σ H x y v u Q I rx ry q
 ·exact h' pins s σ H x y v u Q I rx ry q
theorem cN (b:Expr) {op:CmpOp} (h:op≠.In:=by decide) (h2:op≠.NotIn:=by decide):behindInMarks op b=false:=by
 have e1:(op == CmpOp.In)=false:=by cases op<;>first | rfl | exact absurd rfl h
 have e2:(op == CmpOp.NotIn)=false:=by cases op<;>first | rfl | exact absurd rfl h2
 cases b<;>simp [behindInMarks,e1,e2]
theorem Au {op:CmpOp} {r:R2} (ho:OpR X (compareOp op) r) (ha:PE X a ta) (hb:PE X b tb) (hm:behindInMarks op b=false):PE X (.Compare a [op] [b] pos) (tOp r ta tb):=by
 intro pins s σ H Q I h
 exact wpAny_Compare1 (DH ha hb I h fun v u s2 x y H2 I2 rx ry q=>ho pins s2 σ H2 x y v u Q I2 rx ry q) hm
noncomputable def Cj (t:TE):TT:=fun σ H Q=>t σ H fun x H'=>∃ k,x=.bl k∧Q k H'
theorem Av {op:CmpOp} {r:R2} (ho:OpR X (compareOp op) r) (ha:PE X a ta) (hb:PE X b tb) (hm:behindInMarks op b=false):PT X (.Compare a [op] [b] pos) (Cj (tOp r ta tb)):=by
 intro pins s σ H Q I h
 refine wpAny_isTrue_Compare1 (thn (ha pins s σ H _ I h) fun v s1 ⟨x,H1,I1,r1,q1⟩=>thn (hb pins s1 σ H1 _ I1 q1) fun u s2 ⟨y,H2,I2,r2,q2⟩=>
  thn (ho pins s2 σ H2 x y v u _ I2 r1 r2 q2) fun c s3 ⟨z,H3,I3,r3,k,e,q3⟩=>?_) hm
 subst e
 cases r3
 exact wpAny_truthy_bool ⟨H3,I3,q3⟩
noncomputable def wX (r r':R2) (ta tb tc:TE):TE:=fun σ H Q=>ta σ H fun x H1=>tb σ H1 fun y H2=>r x y H2 fun z H3=>∃ k,z=.bl k ∧
 (if k=true then tc σ H3 fun w' H4=>r' y w' H4 Q else Q (.bl false) H3)
theorem wY {op op':CmpOp} {r r':R2} (ho:OpR X (compareOp op) r) (ho':OpR X (compareOp op') r') (ha:PE X a ta) (hb:PE X b tb) (hc:PE X c tc)
  (hm:lastMarks [op,op'] [b,c]=false:=by with_unfolding_all rfl):PE X (.Compare a [op,op'] [b,c] pos) (wX r r' ta tb tc):=by
 intro pins s σ H Q I h
 refine Compare_chain (thn (ha pins s σ H _ I h) fun v s1 ⟨x,H1,I1,r1,q1⟩=>chain_link (thn (hb pins s1 σ H1 _ I1 q1) fun u s2 ⟨y,H2,I2,r2,q2⟩=>
  thn (ho pins s2 σ H2 x y v u _ I2 r1 r2 q2) fun d s3 ⟨z,H3,I3,r3,k,e,q3⟩=>?_)) hm
 subst e
 cases r3
 refine wpAny_truthy_bool ?_
 cases k with
 | false=>exact ite_ff ⟨.bl false,H3,I3,rfl,q3⟩
 | true=>exact ite_tt (chain_last (thn (hc pins s3 σ H3 _ I3 q3) fun w' s4 ⟨z',H4,I4,r4,q4⟩=>ho' pins s4 σ H4 y z' u w' Q I4 r2 r4 q4))
theorem mZ:(sizeLine:Nat)<2 ^ 63:=by rw [sizeLine_eq];decide
theorem vals1 {x:V} {us:List Value} (r:Vals [x] us):∃ u,us=[u]∧RelV x u:=by
 cases r with
 | cons r1 r2=>cases r2;exact ⟨_,rfl,r1⟩
theorem vals2 {x y:V} {us:List Value} (r:Vals [x,y] us):∃ u w',us=[u,w']∧RelV x u∧RelV y w':=by
 cases r with
 | cons r1 r2=>
  cases r2 with
  | cons r3 r4=>cases r4;exact ⟨_,_,rfl,r1,r3⟩
theorem vf (hc:X.calm=true):cH X (.builtin "max") (fun xs H Q=>∃ i j,xs=[.int i,.int j]∧Q (.int (if j>i then j else i)) H):=by
 intro pins s σ H xs us Q I r h
 obtain ⟨i,j,rfl,q⟩:=h
 obtain ⟨u,w',rfl,⟨t,rfl⟩,⟨t',rfl⟩⟩:=vals2 r
 refine max_two_ints (I.ok.hd hc) fun h' tk k=>⟨_,H,I.kept k,?_,q⟩
 by_cases hj:j>i
 ·rw [if_pos hj,if_pos hj];exact ⟨_,rfl⟩
 ·rw [if_neg hj,if_neg hj];exact ⟨_,rfl⟩
theorem vg (hc:X.calm=true):cH X (.builtin "min") (fun xs H Q=>∃ i j,xs=[.int i,.int j]∧Q (.int (if j<i then j else i)) H):=by
 intro pins s σ H xs us Q I r h
 obtain ⟨i,j,rfl,q⟩:=h
 obtain ⟨u,w',rfl,⟨t,rfl⟩,⟨t',rfl⟩⟩:=vals2 r
 refine min_two_ints (I.ok.hd hc) fun h' tk k=>⟨_,H,I.kept k,?_,q⟩
 by_cases hj:j<i
 ·rw [if_pos hj,if_pos hj];exact ⟨_,rfl⟩
 ·rw [if_neg hj,if_neg hj];exact ⟨_,rfl⟩
theorem vh:cH X (.type "int") (fun xs H Q=>(∃ i,xs=[.int i]∧Q (.int i) H)∨∃ k,xs=[.bl k]∧Q (.int (if k then 1 else 0)) H):=by
 intro pins s σ H xs us Q I r h
 rcases h with ⟨i,rfl,q⟩ | ⟨k,rfl,q⟩
 ·obtain ⟨u,rfl,t,rfl⟩:=vals1 r
  exact call_int_int ⟨.int i,H,I,⟨_,rfl⟩,q⟩
 ·obtain ⟨u,rfl,r1⟩:=vals1 r
  cases r1
  exact call_int_bool ⟨.int (if k then 1 else 0),H,I.tok _,⟨_,rfl⟩,q⟩
end
structure DP (h:Heap) (x dx C:Addr) (mA:Str→Option Value):Prop where
 obj:h.get? x=some (PySem.W.instObj C dx)
 ns:h.Ns1 dx mA
 ne:dx≠x
theorem vj {h:Heap} {dx:Addr} {mA:Str→Option Value} (n:h.Ns1 dx mA):∃ od,h.get? dx=some od∧∀ name,PySem.W.lookIn name od=some (mA name):=by
 obtain ⟨o,es,ep,ho,hd,hk,_,hm⟩:=n
 refine ⟨o,ho,fun name=>?_⟩
 have e:=hm name
 unfold nsFind findBy at e
 rw [← Array.find?_toList] at e
 unfold PySem.W.lookIn
 rw [hd]
 dsimp only
 split
 ·rename_i y q
  rw [q] at e
  exact congrArg some e
 ·rename_i q
  rw [q] at e
  have a:es.toList.any (·.refKey)=false:=by
   rw [List.any_eq_false]
   intro y hy
   obtain ⟨z,t,hkey⟩:=hk y (Array.mem_toList_iff.mp hy)
   simp [DictEntry.refKey,hkey]
  have a':¬ es.toList.any (·.refKey)=true:=by rw [a];exact Bool.false_ne_true
  rw [if_neg a']
  exact congrArg some e
theorem DP.look {h:Heap} {x dx C:Addr} {mA:Str→Option Value} (I:DP h x dx C mA):∃ od,PySem.W.InstAt h x (PySem.W.instObj C dx) C (some od)∧∀ name,PySem.W.lookIn name od=some (mA name):=
 let ⟨od,ho,hl⟩:=vj I.ns
 ⟨od,⟨I.obj,rfl,rfl,ho⟩,hl⟩
section
variable {prog:Program} {w:World} {A:Around} {E:Value→Shared→Prop} {s:Shared} {K:PySem.W.Frag} {x dx C f:Addr} {mA:Str→Option Value} {name:Str} {v:Value}
end
section
variable {P:Program} {w:World} {H H':Hp} {h h':Heap} {a C dx:Addr} {fs fs':List (Str×V)}
theorem Aw (hok:HOk P w H h) (e:H a=some (.ins C dx fs)):∃ mA,DP h a dx C mA∧(∀ f,Dl (fs.lookup f) (mA f))∧PySem.Within mA (fs.map (·.1))∧fs.length≤1000∧H dx=some (.own a):=by
 obtain ⟨d,z,ne,ob,mA,n,r,q⟩:=(show bh P w H h a (.ins C dx fs) from hok a _ e)
 exact ⟨mA,⟨ob,n,ne⟩,r,q,z,d⟩
end
structure Cls (K:PySem.W.Frag) (C:Addr):Prop where
 pg:PySem.W.plainGet K C Str.empty=true
 hd:PySem.W.hasDictIn K C=true
 po:PySem.W.plainOver K C=true
 sa:PySem.W.findIn K (.ref C) "__setattr__" = some (some (.builtin "object.__setattr__"))
theorem Cls.get {K:PySem.W.Frag} {C:Addr} (c:Cls K C) (f:Str):PySem.W.plainGet K C f=true:=c.pg
section
variable {X:Cx} {pins:List (Addr×Obj)} {σ:St} {H:Hp} {s:Shared} {a C dx:Addr} {fs:List (Str×V)} {f:Str} {v:V} {A:Around} {E:Value→Shared→Prop}
end
section
variable {X:Cx} {o e value:Expr} {f:Str} {pos pos' tpos:Pos} {ta tv:TE}
end
section
variable {X:Cx} {pins:List (Addr×Obj)} {σ:St} {H:Hp} {s:Shared} {A:Around} {E:Value→Shared→Prop} {Q:Value→Shared→Prop} {c:Value} {b:Bool}
inductive gF (K:PySem.W.Frag) (H:Hp):V→Value→Prop where
 | non:gF K H .non (.type "NoneType")
 | bl (x:Bool):gF K H (.bl x) (.type "bool")
 | int (i:Int):gF K H (.int i) (.type "int")
 | str (x:Str):gF K H (.str x) (.type "str")
 | flt (x:UInt64):gF K H (.flt x) (.type "float")
 | lst {a:Addr} {xs:List V} (e:H a=some (.lst xs)):gF K H (.ref a) (.type "list")
 | frz {a:Addr} {o:Obj} {xs:List V} (e:H a=some (.frz o (.lst xs))):gF K H (.ref a) (.type "list")
 | tup {a:Addr} {xs:List V} (e:H a=some (.tup xs)):gF K H (.ref a) (.type "tuple")
 | dK {a:Addr} {kvs:List (Key×V)} (e:H a=some (.dK kvs)):gF K H (.ref a) (.type "dict")
 | dT {a:Addr} {kvs:List (List Key×V)} (e:H a=some (.dT kvs)):gF K H (.ref a) (.type "dict")
 | ins {a C dx:Addr} {fs:List (Str×V)} (e:H a=some (.ins C dx fs)) (cl:Cls K C) (ha:PySem.W.findIn K (.ref C) "__class__" = some (some (.builtin "object.__class__")))
   (hn:PySem.W.specialIn K (.builtin "object.__class__") "__get__" = some (some (.builtin "getset_descriptor.__get__"))) (htk:PySem.W.takesIn K (.builtin "object.__class__")=some true)
   (hm:PySem.W.mroIn K C (.type "object")=some true):gF K H (.ref a) (.ref C)
theorem vn {x:V} {u t:Value} (I:Inv X pins σ H s) (rx:RelV x u) (ty:gF X.K H x t) (e:PySem.W.kitOne X.K t c=some b) (h:∀ tk,Q (.bool b) { s with toks:=tk }) :
  wpAny (model X.prog X.w) A (call (.builtin "isinstance") [u,c]) Q E s:=by
 cases ty with
 | non=>cases (show u=Value.none from rx);exact PySem.W.kia_one PySem.W.kitx_none I.kIn True.intro e (fun z=>nomatch z) h
 | bl y=>cases (show u=Value.bool y from rx);exact PySem.W.kia_one PySem.W.kitx_bool I.kIn True.intro e (fun z=>nomatch z) h
 | int i=>obtain ⟨t,q⟩:=(show ∃ t,u=Value.int i t from rx);cases q;exact PySem.W.kia_one PySem.W.kitx_int I.kIn True.intro e (fun z=>nomatch z) h
 | str y=>obtain ⟨t,q⟩:=(show ∃ t,u=Value.str y t from rx);cases q;exact PySem.W.kia_one PySem.W.kitx_str I.kIn True.intro e (fun z=>nomatch z) h
 | flt y=>obtain ⟨t,q⟩:=(show ∃ t,u=Value.float y t from rx);cases q;exact PySem.W.kia_one PySem.W.kitx_float I.kIn True.intro e (fun z=>nomatch z) h
 | @lst a xs ea=>
  cases (show u=Value.ref a from rx)
  obtain ⟨_,_,n,_,h1⟩:=(show bh X.prog X.w H s.heap a (.lst xs) from I.hok a _ ea)
  exact PySem.W.kia_one PySem.W.kitx_list I.kIn ⟨_,h1,rfl⟩ e (fun z=>nomatch z) h
 | @frz a ob xs ea=>
  cases (show u=Value.ref a from rx)
  obtain ⟨_,_,_,n,_,h1⟩:=(show bh X.prog X.w H s.heap a (.frz ob (.lst xs)) from I.hok a _ ea)
  exact PySem.W.kia_one PySem.W.kitx_list I.kIn ⟨_,h1,rfl⟩ e (fun z=>nomatch z) h
 | @tup a xs ea=>
  cases (show u=Value.ref a from rx)
  obtain ⟨_,_,_,p⟩:=(show bh X.prog X.w H s.heap a (.tup xs) from I.hok a _ ea)
  obtain ⟨o,h1,h2,_⟩:=p
  exact PySem.W.kia_one PySem.W.kitx_tuple I.kIn ⟨o,h1,h2⟩ e (fun z=>nomatch z) h
 | @dK a kvs ea=>
  cases (show u=Value.ref a from rx)
  obtain ⟨_,_,vs,_,p⟩:=(show bh X.prog X.w H s.heap a (.dK kvs) from I.hok a _ ea)
  obtain ⟨o,es,ep,h1,h2,_⟩:=p
  exact PySem.W.kia_one PySem.W.kitx_dict I.kIn ⟨o,h1,h2.1⟩ e (fun z=>nomatch z) h
 | @dT a kvs ea=>
  cases (show u=Value.ref a from rx)
  obtain ⟨_,_,xs,_,o,es,ep,h1,h2,_⟩:=(show bh X.prog X.w H s.heap a (.dT kvs) from I.hok a _ ea)
  exact PySem.W.kia_one PySem.W.kitx_dict I.kIn ⟨o,h1,h2.1⟩ e (fun z=>nomatch z) h
 | @ins a C dx fs ea cl ha hn htk hm=>
  cases (show u=Value.ref a from rx)
  obtain ⟨mA,O,_⟩:=Aw I.hok ea
  obtain ⟨od,J,_⟩:=O.look
  exact PySem.W.kia_one (PySem.W.kitx_own (cl.get _) cl.hd ha hn htk hm) I.kIn J e (fun z=>nomatch z) h
end
structure bE (k:Nat) (A:Around):Prop where
 hd:A.handled=none
 dp:A.depth+3*k+5<recursionLimit
 un:A.units+16*k+200<cLine
 gd:A.guards=some []
theorem bE.mono {j k:Nat} {A:Around} (r:bE k A) (h:j≤k):bE j A:=⟨r.hd,by have:=r.dp;omega,by have:=r.un;omega,r.gd⟩
theorem bE.deeper {k:Nat} {A:Around} (r:bE (k+1) A) (env:Env):bE k (A.deeper env):=
 ⟨r.hd,by have:=r.dp;show A.depth+1+3*k+5<_;omega,by have:=r.un;show A.units+3+16*k+200<_;omega,r.gd⟩
theorem bE.depth {k:Nat} {A:Around} (r:bE k A):A.depth<recursionLimit:=by have:=r.dp;omega
theorem bE.units {k:Nat} {A:Around} (r:bE k A):A.units+64<cLine:=by have:=r.un;omega
noncomputable def rm:TA:=fun _ H Q=>Q [] H
noncomputable def jj (ta:TE) (tr:TA):TA:=fun σ H Q=>ta σ H fun x H1=>tr σ H1 fun xs H2=>Q (x::xs) H2
section
variable {X:Cx} {e:Expr} {es:List Expr} {te:TE} {t:TA} {pos:Pos}
theorem g_:PA X [] rm:=fun _ _ _ _ H Q I h=>Calls.spliced_nil ⟨[],H,I,.nil,h⟩
theorem eL (ha:PE X e te) (hr:PA X es t) (hs:starEach (e::es) X.env=(false,eval e X.env)::starEach es X.env:=by rfl):PA X (e::es) (jj te t):=by
 intro pos pins s σ H Q I h
 rw [hs]
 show wpAny _ _ (spliced ((false,eval e X.env)::backTo pos (starEach es X.env))) _ _ s
 refine Calls.spliced_cons (thn (ha pins s σ H _ I h) fun u s1 ⟨x,H1,I1,r1,q1⟩=>?_)
 exact thn (hr pos pins s1 σ H1 _ I1 q1) fun us s2 ⟨xs,H2,I2,r2,q2⟩=>⟨x::xs,H2,I2,.cons r1 r2,q2⟩
noncomputable def GD (t:TA):TE:=fun σ H Q=>t σ H fun xs H1=>xs.length≤sizeLine∧∀ p,H1 p=none→Q (.ref p) (upd H1 p (.tup xs))
noncomputable def Ax (t:TA):TE:=fun σ H Q=>t σ H fun xs H1=>xs.length≤sizeLine∧∀ p,H1 p=none→Q (.ref p) (upd H1 p (.lst xs))
theorem DQ {x1} (h:PA X es t):PE X (.Tuple es x1 pos) (GD t):=by
 intro pins s σ H Q I hq
 refine wpAny_Tuple_spliced (thn (h pos pins s σ H _ I hq) fun us s1 ⟨xs,H1,I1,r,z,q⟩=>⟨by rw [← r.length];exact z,?_⟩)
 have hf:H1 s1.heap.objs.size=none:=I1.hok.fresh (Nat.le_refl _)
 refine ⟨.ref s1.heap.objs.size,upd H1 s1.heap.objs.size (.tup xs),I1.laid (t':=s1.toks) (fun b u e=>Heap.get?_push_of_some _ e) (Nat.le_refl _) ?_,rfl,q _ hf⟩
 exact ⟨z,us,r,⟨_,Heap.get?_push_size _ rfl,rfl,_,rfl⟩⟩
theorem rq (h:PA X es t):PE X (.List es pos) (Ax t):=by
 intro pins s σ H Q I hq
 refine wpAny_List_spliced (thn (h pos pins s σ H _ I hq) fun us s1 ⟨xs,H1,I1,r,z,q⟩=>⟨by rw [← r.length];exact z,?_⟩)
 have hf:H1 s1.heap.objs.size=none:=I1.hok.fresh (Nat.le_refl _)
 refine ⟨.ref s1.heap.objs.size,upd H1 s1.heap.objs.size (.lst xs),I1.laid (t':=s1.toks) (fun b u e=>Heap.get?_push_of_some _ e) (Nat.le_refl _) ?_,rfl,q _ hf⟩
 exact ⟨z,us,0,r,Heap.get?_push_size _ rfl⟩
end
noncomputable abbrev Sp:=List V→Hp→VK→XK→Prop
noncomputable abbrev CXT:=List Env→Hp→Shared→XK→Value→Shared→Prop
structure Ay (P:Program) (w:World) (K:PySem.W.Frag) (mg:Str→Option Value) (base:Heap) (A:Around) (outer:List Env) (s:Shared) (H:Hp):Prop where
 frames:A.frames=some outer
 mod:Mod K mg base
 bs:∀ b o,base.get? b=some o→s.heap.get? b=some o∧H b=none
 bsz:base.objs.size≤s.heap.objs.size
 jf:s.heap.FunFrames base outer
 frf:∀ b∈frs outer,H b=none
 hok:HOk P w H s.heap
 bare:AllBare s.gens
noncomputable def CE (outer:List Env) (P:Program) (w:World) (H:Hp) (s:Shared) (Q:VK) (u:Value) (s':Shared):Prop:=
 ∃ v H',s'.os=s.os∧AllBare s'.gens∧Un (frs outer) [] H H' s.heap s'.heap∧HOk P w H' s'.heap∧RelV v u∧Q v H'
noncomputable def CR (CX:CXT) (outer:List Env) (P:Program) (w:World) (H:Hp) (s:Shared) (Q:VK) (E:XK) (r:Result) (s':Shared):Prop:=
 match r with
 | .ok (.ret u)=>CE outer P w H s Q u s'
 | .ok _=>False
 | .error e=>CX outer H s E e s'
structure aR (P:Program) (w:World) (K:PySem.W.Frag) (mg:Str→Option Value) (base:Heap) (CX:CXT) (k:Nat) (f:Addr) (fd:FuncData) (ps:List Str) (sp:Sp):Prop where
 len:∀ vs H Q E,sp vs H Q E→vs.length=ps.length
 run:∀ (A:Around) (outer:List Env) (s:Shared) (H:Hp) (args:Args) (us:List Value) (vs:List V) (Q:VK) (E:XK),bE k A→Ay P w K mg base A outer s H→BindsTo s fd args (ps.zip us)→Vals vs us→sp vs H Q E →
  codeAny (model P w) A (.call (.ref f) args) (CR CX outer P w H s Q E) s
section
variable {X:Cx} {pins:List (Addr×Obj)} {σ:St} {H:Hp} {s s':Shared}
theorem Inv.Js (I:Inv X pins σ H s):Ay X.prog X.w X.K X.mg X.base X.A X.stack s H:=
 ⟨I.ok.frames,I.ok.mod,I.bs,Nat.le_trans I.ok.bsz I.sz,I.stack,I.tE,I.hok,I.bare⟩
theorem Inv.after {Q:VK} {u:Value} (I:Inv X pins σ H s) (h:CE X.stack X.prog X.w H s Q u s'):EP X pins σ Q u s':=by
 obtain ⟨v,H',os,bare,un,hok,r,q⟩:=h
 obtain ⟨hh,g,d,t,os'⟩:=s'
 obtain rfl:os'=s.os:=os
 exact ⟨v,H',I.call (h':=hh) (g':=g) (d':=d) (t':=t) (ch:=[]) un hok bare (fun b z=>absurd z (by simp)),r,q⟩
end
noncomputable def tO (sp:Sp) (dvs:List V) (E:XK) (t:TA):TE:=fun σ H Q=>t σ H fun vs H1=>sp (vs++dvs) H1 Q E
noncomputable def Binds (K:PySem.W.Frag) (fd:FuncData) (ps:List Str) (ds:List Value):Prop:=
 ∀ (s:Shared) (us:List Value),K.In s.heap→(us++ds).length=ps.length→BindsTo s fd ⟨us,[]⟩ (ps.zip (us++ds))
theorem Binds.all {K:PySem.W.Frag} {fd:FuncData} {ps:List Str} (h:∀ us:List Value,us.length=ps.length→bindArgs fd ⟨us,[]⟩=pure (ps.zip us)):Binds K fd ps []:=fun s us _ hl=>by
 rw [List.append_nil] at hl ⊢
 exact .of_eq (h us hl)
noncomputable def Passes (CX:CXT) (X:Cx) (E:XK):Prop:=∀ (pins:List (Addr×Obj)) (σ:St) (H:Hp) (s:Shared) (e:Value) (s':Shared),Inv X pins σ H s→CX X.stack H s E e s'→X.xe e s'
section
variable {X:Cx} {CX:CXT} {k:Nat} {f C:Addr} {fd:FuncData} {ps:List Str} {sp:Sp} {dvs:List V} {ds:List Value} {E:XK} {x m:Str} {p pos apos:Pos} {e o:Expr} {es:List Expr} {ta:TE} {t:TA}
theorem DR {pins:List (Addr×Obj)} {σ:St} {H:Hp} {s:Shared} {Q:VK} {us:List Value} {vs:List V} (F:aR X.prog X.w X.K X.mg X.base CX k f fd ps sp) (hr:bE k X.A) (hb:Binds X.K fd ps ds) (hd:Vals dvs ds) (hx:Passes CX X E)
  (I:Inv X pins σ H s) (r:Vals vs us) (h:sp (vs++dvs) H Q E):wpAny (model X.prog X.w) X.A (call (.ref f) us) (EP X pins σ Q) X.xe s:=by
 have r2:Vals (vs++dvs) (us++ds):=r.append hd
 have hl:(us++ds).length=ps.length:=by rw [← r2.length];exact F.len _ _ _ _ h
 refine wpAny_call (codeAny_mono (F.run X.A X.stack s H ⟨us,[]⟩ (us++ds) (vs++dvs) Q E hr I.Js (hb s us I.kIn hl) r2 h) fun r s' hq=>?_)
 cases r with
 | error e=>exact hx pins σ H s e s' I hq
 | ok fl=>
  cases fl with
  | ret u=>exact I.after hq
  | next=>exact False.elim hq
  | brk=>exact False.elim hq
  | cont=>exact False.elim hq
theorem m5 (F:aR X.prog X.w X.K X.mg X.base CX k f fd ps sp) (hr:bE k X.A) (hg:Gl X x) (hm:X.mg x=some (.ref f)) (hk:PySem.W.keepIn X.K (.ref f)=true) (hb:Binds X.K fd ps ds) (hd:Vals dvs ds) (hx:Passes CX X E)
  (ha:PA X (e::es) t) (hdb:(x == ("__debug__" : Str))=false:=by decide) (he:starEach (e::es) X.env=(false,eval e X.env)::starEach es X.env:=by rfl) (hpl:(backTo pos (starEach es X.env)).any (·.1)=false:=by rfl) :
  PE X (.Call (.Name x p) (e::es) [] pos) (tO sp dvs E t):=by
 intro pins s σ H Q I h
 refine wpAny_Call_Name_kw (tG I hg hm ?_ hdb)
 refine PySem.W.callWith_K (h₀:=X.base) I.ok.mod.kin hk (thn (ha pos pins s σ H _ I h) fun us s1 ⟨vs,H1,I1,r,q⟩=>⟨I1.kIn,?_⟩) he hpl
 exact DR F hr hb hd hx I1 r q
end
section
variable {X:Cx} {CX:CXT} {k:Nat} {f C:Addr} {fd:FuncData} {ps ks:List Str} {sp:Sp} {E:XK} {x m:Str} {p pos apos kpos:Pos} {e o:Expr} {es:List Expr} {kws:List Keyword} {te ta:TE} {t tk:TA} {nm:Option Str}
variable {g:List Value→List Value→List Value} {gV:List V→List V→List V}
end
structure au (N P:List Str) (sc:Scope):Prop where
 kind:sc.kind=.function
 co:sc.isCoroutine=false
 gen:sc.isGenerator=false
 nd:N.Nodup
 pre:N.take P.length=P
 par:∀ x∈P,sc.names.lookup x=some .local∨sc.names.lookup x=some .cell
 DU:∀ y∈sc.names,y.2≠.free
theorem lS {kindOf:Str→Option NameKind} {x:Str}:∀ {binds:List (Str×Value)} {m:Str→Option Value},(∀ v,(x,v)∉binds)→bindL kindOf binds m x=m x
 | [],_,_=>rfl
 | (n,v)::r,m,h=>by
  unfold bindL
  rw [lS fun w hw=>h w (List.mem_cons_of_mem _ hw)]
  split
  ·have:x≠n:=by rintro rfl;exact h v List.mem_cons_self
   simp [this]
  ·rfl
theorem lT {kindOf:Str→Option NameKind} {x:Str}:∀ {binds:List (Str×Value)} {m:Str→Option Value},(∀ v,(x,v)∉binds)→bindC kindOf binds m x=m x
 | [],_,_=>rfl
 | (n,v)::r,m,h=>by
  unfold bindC
  rw [lT fun w hw=>h w (List.mem_cons_of_mem _ hw)]
  split
  ·rfl
  ·have:x≠n:=by rintro rfl;exact h v List.mem_cons_self
   simp [this]
theorem lU {kindOf:Str→Option NameKind} {x:Str} {v:Value}:∀ {P:List Str} {vs:List Value} {i:Nat} {m:Str→Option Value},P.Nodup→P[i]?=some x→vs[i]?=some v→kindOf x=some .local →
  bindL kindOf (P.zip vs) m x=some v
 | [],_,_,_,_,h,_,_=>by simp at h
 | _::_,[],_,_,_,_,h,_=>by simp at h
 | p::P,w::vs,0,m,nd,h1,h2,hk=>by
  simp at h1 h2;subst h1;subst h2
  show bindL kindOf ((p,w)::P.zip vs) m p=_
  unfold bindL
  rw [lS fun v hv=>(List.nodup_cons.mp nd).1 (List.of_mem_zip hv).1,if_pos hk]
  simp
 | p::P,w::vs,i+1,m,nd,h1,h2,hk=>by
  show bindL kindOf ((p,w)::P.zip vs) m x=_
  unfold bindL
  exact lU (i:=i) (List.nodup_cons.mp nd).2 (by simpa using h1) (by simpa using h2) hk
theorem lV {kindOf:Str→Option NameKind} {x:Str} {v:Value}:∀ {P:List Str} {vs:List Value} {i:Nat} {m:Str→Option Value},P.Nodup→P[i]?=some x→vs[i]?=some v→kindOf x≠some .local →
  bindC kindOf (P.zip vs) m x=some v
 | [],_,_,_,_,h,_,_=>by simp at h
 | _::_,[],_,_,_,_,h,_=>by simp at h
 | p::P,w::vs,0,m,nd,h1,h2,hk=>by
  simp at h1 h2;subst h1;subst h2
  show bindC kindOf ((p,w)::P.zip vs) m p=_
  unfold bindC
  rw [lT fun v hv=>(List.nodup_cons.mp nd).1 (List.of_mem_zip hv).1,if_neg hk]
  simp
 | p::P,w::vs,i+1,m,nd,h1,h2,hk=>by
  show bindC kindOf ((p,w)::P.zip vs) m x=_
  unfold bindC
  exact lV (i:=i) (List.nodup_cons.mp nd).2 (by simpa using h1) (by simpa using h2) hk
noncomputable def start (N:List Str) (vs:List V):St:=vs.map some++List.replicate (N.length-vs.length) none
noncomputable def vp (CX:CXT) (P:Program) (w:World) (K:PySem.W.Frag) (mg:Str→Option Value) (base:Heap) (N:List Str) (qual:Str) (scope:Scope) (f:Addr) (cd:Value) (A:Around) (outer:List Env) (s:Shared) (H:Hp) (E:XK):Cx where
 prog:=P
 w:=w
 K:=K
 mg:=mg
 base:=base
 A:=A.deeper (envOfC qual scope s.heap.objs.size f cd)
 N:=N
 s₀:=s
 H₀:=H
 env:=envOfC qual scope s.heap.objs.size f cd
 outer:=outer
 stack:=envOfC qual scope s.heap.objs.size f cd::outer
 ex:=[]
 calm:=true
 fn:=fun _=>true
 pn:=[]
 xe:=fun e s'=>wpAny (model P w) (A.deeper (envOfC qual scope s.heap.objs.size f cd)) (leaving (envOfC qual scope s.heap.objs.size f cd) e) (fun _ s''=>CX outer H s E e s'') (fun e' s''=>CX outer H s E e' s'') s'
theorem oH {sc:Scope} {n:Nat} {x:Str} (h:sc.names.lookup x=some .cell):∃ c,(cellsFrom n sc.names []).lookup x=some c:=by
 have q:=PySem.W.cellsFrom_some sc.names n [] (.inl h)
 exact Option.isSome_iff_exists.mp q
theorem vq {CX:CXT} {P:Program} {w:World} {K:PySem.W.Frag} {mg:Str→Option Value} {base:Heap} {N ps:List Str} {qual:Str} {scope:Scope} {f:Addr} {cd:Value} {A:Around} {outer:List Env} {s s1:Shared} {H:Hp} {E:XK} {us:List Value} {vs:List V}
  (S:au N ps scope) (hd:A.handled=none) (e0:Ay P w K mg base A outer s H) (hl:vs.length=ps.length) (r:Vals vs us)
  (x:InCallC s s.heap.objs.size (bindL (envOfC qual scope s.heap.objs.size f cd).kindOf (ps.zip us) fun _=>none) (cellsFrom (s.heap.objs.size+1) scope.names []) (bindC (envOfC qual scope s.heap.objs.size f cd).kindOf (ps.zip us) fun _=>none) s1) :
  Inv (vp CX P w K mg base N qual scope f cd A outer s H E) [] (start N vs) H s1:=by
 have hpl:ps.length≤N.length:=by have:=congrArg List.length S.pre;rw [List.length_take] at this;omega
 obtain ⟨h1,tk,rfl,hk⟩:=x.done
 have noA:∀ b:Addr,b∉(vp CX P w K mg base N qual scope f cd A outer s H E).ex:=fun b z=>absurd (show b∈([]:List Addr) from z) (by simp)
 refine ⟨⟨e0.mod,S.kind,rfl,rfl,Nat.le_refl _,fun y z c h1 h2=>?_,fun y hy=>?_,fun y c _ h=>?_,fun _=>hd,Around.frames_deeper e0.frames,.inr ⟨rfl,rfl⟩,fun b z=>absurd z (noA b),e0.bs,e0.bsz,fun b _ _=>noA b,fun b z=>absurd z (noA b),e0.jf,e0.frf⟩,
  rfl,e0.bare,Un.kept hk,⟨_,x.toInCall.ns,fun i y v h1 h2 h3=>?_⟩,fun y c h=>⟨_,x.cell y c h⟩,e0.hok.fresh (Nat.le_refl _),fun y c h=>?_,fun p hp=>absurd (show p∈([]:List (Addr×Obj)) from hp) (by simp),e0.hok.kept hk,?_⟩
 ·exact name_of_addr x.apart (PySem.mem_of_lookup h1) (PySem.mem_of_lookup h2)
 ·have hy:scope.names.lookup y=some .cell∨scope.names.lookup y=some .free:=hy
  rcases hy with hy | hy
  ·exact oH hy
  ·exact absurd rfl (S.DU _ (PySem.mem_of_lookup hy))
 ·exact Nat.le_of_lt (x.above y c (PySem.mem_of_lookup h))
 ·have hi:i<vs.length:=by
   unfold start at h2
   by_cases hi:i<vs.length
   ·exact hi
   ·rw [List.getElem?_append_right (by simpa using hi)] at h2
    rw [List.getElem?_replicate] at h2
    split at h2<;>cases h2
  have ha:vs[i]?=some v:=by
   unfold start at h2
   rw [List.getElem?_append_left (by simpa using hi),List.getElem?_map] at h2
   cases e:vs[i]? with
   | none=>rw [e] at h2;cases h2
   | some a=>rw [e] at h2;cases h2;rfl
  obtain ⟨u,hu,rv⟩:=r.get ha
  have hp:ps[i]?=some y:=by
   rw [← S.pre,List.getElem?_take_of_lt (by omega)];exact h1
  have ndP:ps.Nodup:=by rw [← S.pre];exact S.nd.sublist (List.take_sublist _ _)
  refine ⟨u,rv,?_⟩
  rcases S.par y (List.mem_of_getElem? hp) with k | k
  ·exact .inl ⟨k,lU ndP hp hu k⟩
  ·obtain ⟨c,e⟩:=oH (n:=s.heap.objs.size+1) k
   refine .inr ⟨.inl k,c,e,?_⟩
   have q:=x.cell y c e
   rw [lV ndP hp hu (by show scope.names.lookup y≠_;rw [k];decide)] at q
   exact q
 ·exact e0.hok.fresh (Nat.le_of_lt (x.above y c (PySem.mem_of_lookup h)))
 ·unfold start
  show _=N.length
  rw [List.length_append,List.length_map,List.length_replicate]
  omega
theorem GF {CX:CXT} {P:Program} {w:World} {K:PySem.W.Frag} {mg:Str→Option Value} {base:Heap} {k:Nat} {f:Addr} {name qual:Str} {params:Arguments} {body:List Stmt} {scope:Scope} {dV kV doc pm cdv ct oc:Value} {an od:Option Addr}
  {osl:Array (Option Value)} {N ps:List Str} {sp:Sp} (lk:K.lookup f=some ⟨oc,od,.func (PySem.W.fnOf name qual params body scope dV kV doc pm an cdv ct),osl⟩) (hcd:PySem.W.codeIn K cdv qual=true) (S:au N ps scope)
  (len:∀ vs H Q E,sp vs H Q E→vs.length=ps.length)
  (hbody:∀ (A:Around) (outer:List Env) (s:Shared) (H:Hp) (vs:List V) (Q:VK) (E:XK),bE k (A.deeper (envOfC qual scope s.heap.objs.size f cdv))→sp vs H Q E →
   ∃ t,PSs (vp CX P w K mg base N qual scope f cdv A outer s H E) body t∧t { nx:=fun _ H'=>Q .non H',rt:=Q } (start N vs) H) :
  aR P w K mg base CX (k+1) f (PySem.W.fnOf name qual params body scope dV kV doc pm an cdv ct) ps sp:=by
 refine ⟨len,fun A outer s H args us vs Q E hr e0 hb r hsp=>?_⟩
 have hl:=len _ _ _ _ hsp
 have KX:K.In s.heap:=e0.mod.kin.keeps fun b o e=>(e0.bs b o e).1
 have lim:s.heap.NoLimit:=e0.mod.nolimit.keeps fun b o e=>(e0.bs b o e).1
 have hkind:∀ y∈ps.zip us,scope.names.lookup y.1=some .local∨(scope.names.lookup y.1=some .cell∧((cellsFrom (s.heap.objs.size+1) scope.names []).lookup y.1).isSome=true):=fun ⟨n,v⟩ hy=>by
  rcases S.par n (List.of_mem_zip hy).1 with q | q
  ·exact .inl q
  ·exact .inr ⟨q,PySem.W.cellsFrom_some _ _ _ (.inl q)⟩
 refine codeAny_call_function hr.depth (KX _ _ lk) rfl S.co S.gen rfl (PySem.W.codeRec_of KX hcd) (hb _ _ _ _ ?_)
 refine wpAny_newFunctionEnv_cells S.kind hkind fun env he s1 x=>?_
 subst he
 refine ⟨lim.keeps x.toInCall.keep,codeAny_func ?_⟩
 obtain ⟨t,ht,hq⟩:=hbody A outer s H vs Q E (hr.deeper _) hsp
 have I:Inv (vp CX P w K mg base N qual scope f cdv A outer s H E) [] (start N vs) H s1:=vq S hr.hd e0 hl r x
 refine wpAny_mono (ht [] s1 (start N vs) H _ I hq) (fun fl s' hs=>?_) fun e s' hs=>hs
 have fin:∀ {σ':St} {H':Hp} {v:V} {u:Value},Inv (vp CX P w K mg base N qual scope f cdv A outer s H E) [] σ' H' s'→RelV v u→Q v H'→CE outer P w H s Q u s':=
  fun {σ' H' v u} J rv q=>⟨v,H',J.os,J.bare,J.base,J.hok,rv,q⟩
 cases fl with
 | ret u=>
  obtain ⟨v,σ',H',J,rv,q⟩:=hs
  exact fin J rv q
 | next=>
  obtain ⟨σ',H',J,q⟩:=hs
  exact fin (v:=V.non) (u:=Value.none) J rfl q
 | brk=>
  obtain ⟨_,_,_,q⟩:=hs
  exact False.elim q
 | cont=>
  obtain ⟨_,_,_,q⟩:=hs
  exact False.elim q
section
variable {X:Cx} {x:Str} {p pos:Pos} {e:Expr} {es:List Expr} {t:TA} {id T:String} {r:List V→Hp→VK→Prop}
noncomputable def tCB (r:List V→Hp→VK→Prop) (t:TA):TE:=fun σ H Q=>t σ H fun vs H1=>r vs H1 Q
theorem jn (hc:cH X (.builtin id) r) (hg:Gl X x) (hm:X.mg x=none) (hv:bootBuiltins x=some (.builtin id)) (ha:PA X (e::es) t) (hn:x ≠ "__name__" := by decide) (hdb:(x == ("__debug__" : Str))=false:=by decide)
  (he:starEach (e::es) X.env=(false,eval e X.env)::starEach es X.env:=by rfl) (hpl:(backTo pos (starEach es X.env)).any (·.1)=false:=by rfl):PE X (.Call (.Name x p) (e::es) [] pos) (tCB r t):=by
 intro pins s σ H Q I h
 refine wpAny_Call_Name_kw (b7 I hg hm hv ?_ hn hdb)
 exact PyProof.Rows.callWith_builtin1 (thn (ha pos pins s σ H _ I h) fun us s1 ⟨vs,H1,I1,r1,q1⟩=>hc pins s1 σ H1 vs us Q I1 r1 q1) he hpl
theorem lW (hc:cH X (.type T) r) (hg:Gl X x) (hm:X.mg x=none) (hv:bootBuiltins x=some (.type T)) (ha:PA X (e::es) t) (hn:x ≠ "__name__" := by decide) (hdb:(x == ("__debug__" : Str))=false:=by decide)
  (he:starEach (e::es) X.env=(false,eval e X.env)::starEach es X.env:=by rfl) (hpl:(backTo pos (starEach es X.env)).any (·.1)=false:=by rfl):PE X (.Call (.Name x p) (e::es) [] pos) (tCB r t):=by
 intro pins s σ H Q I h
 refine wpAny_Call_Name_kw (b7 I hg hm hv ?_ hn hdb)
 exact PyProof.Rows.callWith_type1 (thn (ha pos pins s σ H _ I h) fun us s1 ⟨vs,H1,I1,r1,q1⟩=>hc pins s1 σ H1 vs us Q I1 r1 q1) he hpl
end
end L2
namespace HT
open PySem PyProof.Rows
section
open PySem.SeqAt
open PySem.AutoSeq1 (wpAny_loadPart')
open PySem.MeetsSeq PySem.MeetsSeq2 PySem.MeetsSeq3
end
section
variable {prog:Program} {w:World} {A:Around} {E:Value→Shared→Prop} {s:Shared}
end
end HT
namespace L2
open PySem PySem.Spec PyProof.Rows
noncomputable abbrev TO:=St→Hp→(Option Int→Hp→Prop)→Prop
noncomputable def PO (X:Cx) (e:Option Expr) (t:TO):Prop:=
 ∀ (pins:List (Addr×Obj)) (s:Shared) (σ:St) (H:Hp) (Q:Option Int→Hp→Prop),Inv X pins σ H s→t σ H Q →
  wpAny (model X.prog X.w) X.A (evalPart e X.env) (fun u s'=>∃ o H',Inv X pins σ H' s'∧IsPart u o∧Q o H') X.xe s
noncomputable def GG (t:TE):TO:=fun σ H Q=>t σ H fun x H1=>∃ i,x=.int i∧Q (some i) H1
section
variable {X:Cx} {e:Expr} {te:TE} {lo hi:Option Expr} {tl th:TO} {pos p2:Pos}
theorem Az (h:PE X e te):PO X (some e) (GG te):=by
 intro pins s σ H Q I hw
 rw [evalPart_some]
 refine thn (h pins s σ H _ I hw) fun u s1 ⟨x,H1,I1,r1,q1⟩=>?_
 obtain ⟨i,rfl,q⟩:=q1
 obtain ⟨t,rfl⟩:=r1
 exact ⟨some i,H1,I1,.int i t,q⟩
end
noncomputable def ixN (n:Nat) (i:Int):Option Nat:=if 0≤i then (if i<n then some i.toNat else none) else if -(n:Int)≤i then some (i+n).toNat else none
noncomputable def atI {α:Type} (xs:List α) (i:Int):Option α:=(ixN xs.length i).bind fun j=>xs[j]?
theorem tP {n:Nat} {i:Int} {j:Nat} (h:ixN n i=some j):seqIndex? i n=some j∧j<n∧-(n:Int)≤i∧i<n:=by
 unfold ixN at h
 by_cases h0:0≤i
 ·rw [if_pos h0] at h
  by_cases h1:i<n
  ·rw [if_pos h1] at h
   have e:i.toNat=j:=Option.some.inj h
   exact ⟨by rw [seqIndex_of h0 h1,e],by omega,by omega,h1⟩
  ·rw [if_neg h1] at h;cases h
 ·rw [if_neg h0] at h
  by_cases h1:-(n:Int)≤i
  ·rw [if_pos h1] at h
   have e:(i+n).toNat=j:=Option.some.inj h
   exact ⟨by rw [seqIndex_neg (by omega) h1,e],by omega,h1,by omega⟩
  ·rw [if_neg h1] at h;cases h
theorem tQ {α:Type} {xs:List α} {i:Int} {v:α} (h:atI xs i=some v):∃ j,seqIndex? i xs.length=some j∧xs[j]?=some v∧j<xs.length∧-(xs.length:Int)≤i∧i<xs.length:=by
 unfold atI at h
 cases e:ixN xs.length i with
 | none=>rw [e] at h;cases h
 | some j=>
  rw [e] at h
  obtain ⟨h1,h2,h3,h4⟩:=tP e
  exact ⟨j,h1,h,h2,h3,h4⟩
noncomputable def m6 (b:Expr):Prop:=∀ o i,subscripted b false o i=operate [o,i] (getItem o i)
noncomputable def IxR (X:Cx) (r:R2):Prop:=
 ∀ (value slice:Expr) (pins:List (Addr×Obj)) (s:Shared) (σ:St) (H:Hp) (x y:V) (v u:Value) (Q:VK),Inv X pins σ H s→RelV x v→RelV y u→r x y H Q →
  subscripted slice false v u=operate [v,u] (getItem v u)→wpAny (model X.prog X.w) X.A (subscriptTail value slice v u) (EP X pins σ Q) X.xe s
noncomputable def MtR (X:Cx) (id:String) (r:V→List V→Hp→VK→Prop):Prop:=
 ∀ (pins:List (Addr×Obj)) (s:Shared) (σ:St) (H:Hp) (x:V) (xs:List V) (v:Value) (us:List Value) (Q:VK),Inv X pins σ H s→RelV x v→Vals xs us→r x xs H Q →
  wpAny (model X.prog X.w) X.A (call (.builtin id) (v::us)) (EP X pins σ Q) X.xe s
section
variable {X:Cx} {a b:Expr} {ta tb:TE} {pos:Pos}
theorem IxR.or {r r':R2} (h:IxR X r) (h':IxR X r'):IxR X (fun x y H Q=>r x y H Q∨r' x y H Q):=by
 intro value slice pins s σ H x y v u Q I rx ry q hs
 rcases q with q | q
 ·exact h value slice pins s σ H x y v u Q I rx ry q hs
 ·exact h' value slice pins s σ H x y v u Q I rx ry q hs
theorem Ck {r:R2} (hr:IxR X r) (ha:PE X a ta) (hb:PE X b tb) (hs:m6 b):PE X (.Subscript a b pos) (tOp r ta tb):=by
 intro pins s σ H Q I h
 exact Subscript_ (DH ha hb I h fun v u s2 x y H2 I2 rx ry q=>hr a b pins s2 σ H2 x y v u Q I2 rx ry q (hs _ _))
noncomputable def DV (K:PySem.W.Frag):R2:=fun x y H Q=>∃ p xs i v,x=.ref p∧y=.int i∧SqL K H p xs∧atI xs i=some v∧Q v H
noncomputable def GH (K:PySem.W.Frag):R2:=fun x y H Q=>∃ p xs i v,x=.ref p∧y=.int i∧SqT K H p xs∧atI xs i=some v∧Q v H
theorem tR:IxR X (DV X.K):=by
 intro value slice pins s σ H x y v u Q I rx ry h hs
 obtain ⟨p,xs,i,z,rfl,rfl,hq,he,q⟩:=h
 cases rx
 obtain ⟨t,rfl⟩:=ry
 obtain ⟨its,r,pl,hz⟩:=I.list hq
 obtain ⟨j,h1,h2,h3,h4,h5⟩:=tQ he
 obtain ⟨w,ew,rw'⟩:=r.get h2
 have hl:=r.length
 have hn:=mZ
 have fin:EP X pins σ Q w s:=⟨z,H,I,rw',q⟩
 by_cases h0:0≤i
 ·have hj:i.toNat=j:=by
   rw [seqIndex_of h0 h5] at h1
   exact Option.some.inj h1
  exact item_listR pl.isList h0 (by omega) (by rw [hj];simpa using ew) fin hs
 ·have hj:(i+(its.toArray.size:Int)).toNat=j:=by
   rw [seqIndex_neg (by omega) h4] at h1
   rw [List.size_toArray,← hl]
   exact Option.some.inj h1
  exact subscriptTail_builtinR (x:=w) pl.isList.typeIs slot_list_getitem.lookup
   (wpAny_getItem_list_neg (Q:=fun r s'=>r=w∧EP X pins σ Q r s') pl.isList (by omega) (by rw [List.size_toArray]<;>omega) (by omega) (by rw [hj];simpa using ew) ⟨rfl,fin⟩) hs
theorem DX:IxR X (GH X.K):=by
 intro value slice pins s σ H x y v u Q I rx ry h hs
 obtain ⟨p,xs,i,z,rfl,rfl,hq,he,q⟩:=h
 cases rx
 obtain ⟨t,rfl⟩:=ry
 obtain ⟨its,r,pl,hz⟩:=I.tuple hq
 obtain ⟨j,h1,h2,h3,h4,h5⟩:=tQ he
 obtain ⟨w,ew,rw'⟩:=r.get h2
 have hl:=r.length
 have hn:=mZ
 have fin:EP X pins σ Q w s:=⟨z,H,I,rw',q⟩
 exact subscriptTail_builtinR (x:=w) pl.typeIs slot_tuple_getitem.lookup
  (getItem_tuple (j:=j) (Q:=fun r s'=>r=w∧EP X pins σ Q r s') pl (by omega) (by omega) (by rw [List.size_toArray,← hl];exact h1) (by simpa using ew) ⟨rfl,fin⟩) hs
theorem rz (its:List Value) (n j:Nat) (u:Value):Obj.mapSeq (·.setIfInBounds j u) { cls:=.type "list",data:=.seq its.toArray n }={ cls:=.type "list",data:=.seq (its.set j u).toArray n }:=by
 simp [Obj.mapSeq]
theorem Inv.lst {pins:List (Addr×Obj)} {σ:St} {H:Hp} {s:Shared} {p:Addr} {xs:List V} (I:Inv X pins σ H s) (h:H p=some (.lst xs)) :
  ∃ (its:List Value) (n:Nat),Vals xs its∧s.heap.get? p=some { cls:=.type "list",data:=.seq its.toArray n }∧xs.length≤sizeLine:=by
 obtain ⟨z,its,n,r,e⟩:=I.hok p _ h
 exact ⟨its,n,r,e,z⟩
theorem Inv.DY {pins:List (Addr×Obj)} {σ:St} {H:Hp} {s:Shared} {p:Addr} {xs ys:List V} {its its':List Value} {n n':Nat} {f:Obj→Obj} (I:Inv X pins σ H s) (h:H p=some (.lst xs))
  (ho:s.heap.get? p=some { cls:=.type "list",data:=.seq its.toArray n }) (hf:f { cls:=.type "list",data:=.seq its.toArray n }={ cls:=.type "list",data:=.seq its'.toArray n' }) (r:Vals ys its') (hz:ys.length≤sizeLine) (t:Nat) :
  Inv X pins σ (upd H p (.lst ys)) { s with heap:=s.heap.update p f,toks:=t }:=by
 have e:(s.heap.update p f).get? p=some { cls:=.type "list",data:=.seq its'.toArray n' }:=by
  rw [Heap.get?_update_self f ho (by rw [hf]<;>rfl),hf]
 refine I.write (x:=p) (e:=p) (by rw [h];trivial) (.inl rfl) (fun b u hb q=>(Heap.get?_update_other _ _ (Ne.symm hb)).trans q) ⟨_,e⟩ ?_
 exact ⟨hz,its',n',r,e⟩
noncomputable def Cm:V→V→V→Hp→(Hp→Prop)→Prop:=fun o i v H Q=>∃ p xs k j,o=.ref p∧i=.int k∧H p=some (.lst xs)∧ixN xs.length k=some j∧Q (upd H p (.lst (xs.set j v)))
theorem set_list:Gw X Cm:=by
 intro pins s σ H o i v ov iv u Q I ro ri rv h
 obtain ⟨p,xs,k,j,rfl,rfl,hp,hj,q⟩:=h
 cases ro
 obtain ⟨t,rfl⟩:=ri
 obtain ⟨its,n,r,ho,hz⟩:=I.lst hp
 obtain ⟨h1,h2,h3,h4⟩:=tP hj
 have hl:=r.length
 have hn:=mZ
 have I':Inv X pins σ (upd H p (.lst (xs.set j v))) { s with heap:=s.heap.update p (Obj.mapSeq (·.setIfInBounds j u)) }:=
  I.DY hp ho (rz its n j u) (r.set rv j) (by rw [List.length_set];exact hz) s.toks
 by_cases h0:0≤k
 ·have hk:k.toNat=j:=by
   rw [seqIndex_of h0 h4] at h1
   exact Option.some.inj h1
  exact PySem.W.ki_setAt ho h0 (by omega) (by rw [List.size_toArray,← hl];exact h4) (by rw [hk];exact ⟨_,I',q⟩)
 ·have hk:(k+(its.toArray.size:Int)).toNat=j:=by
   rw [seqIndex_neg (by omega) h3] at h1
   rw [List.size_toArray,← hl]
   exact Option.some.inj h1
  exact PySem.W.ki_setBack ho (by omega) (by rw [List.size_toArray,← hl];exact h3) (by omega) (by rw [hk];exact ⟨_,I',q⟩)
theorem m7:cH X (.builtin "len") (fun xs H Q=>∃ p ys,xs=[.ref p]∧(SqL X.K H p ys∨SqT X.K H p ys)∧Q (.int ys.length) H):=by
 intro pins s σ H xs us Q I r h
 obtain ⟨p,ys,rfl,hq,q⟩:=h
 obtain ⟨u,rfl,rx⟩:=vals1 r
 cases rx
 have hn:=mZ
 rcases hq with hq | hq
 ·obtain ⟨its,r',pl,hz⟩:=I.list hq
  have hlen:=r'.length
  exact Calls.call_len_list pl.isList (by simp only [List.size_toArray]<;>omega) ⟨.int ys.length,H,I.tok _,⟨s.toks+1,by rw [List.size_toArray,hlen]⟩,q⟩
 ·obtain ⟨its,r',pl,hz⟩:=I.tuple hq
  have hlen:=r'.length
  exact len_tuple pl (by simp only [List.size_toArray]<;>omega) ⟨.int ys.length,H,I.tok _,⟨s.toks+1,by rw [List.size_toArray,hlen]⟩,q⟩
noncomputable def tyV (K:PySem.W.Frag) (T:String) (x:V) (H:Hp):Prop:=match x with
 | .str _=>T = "str"
 | .int _=>T = "int"
 | .ref p=>(T = "list" ∧ ∃ xs,SqL K H p xs)∨(T = "tuple" ∧ ∃ o,K.lookup p=some o∧o.cls=.type "tuple" ∧ o.dict=none) ∨
   (T = "dict" ∧ ((∃ kvs,H p=some (.dK kvs))∨∃ kvs,H p=some (.dT kvs)))∨(T = "set" ∧ ∃ S n,H p=some (.set S n))
 | _=>False
theorem DZ {pins:List (Addr×Obj)} {σ:St} {H:Hp} {s:Shared} {T:String} {x:V} {v:Value} (I:Inv X pins σ H s) (r:RelV x v) (ty:tyV X.K T x H) :
  s.TypeIs v T∧∀ a,v=.ref a→∃ ob,s.heap.get? a=some ob∧ob.dict=none:=by
 cases x with
 | str z=>
  obtain ⟨t,rfl⟩:=r
  cases (show T = "str" from ty)
  exact ⟨typeIs_str s z t,fun _ e=>nomatch e⟩
 | int i=>
  obtain ⟨t,rfl⟩:=r
  cases (show T = "int" from ty)
  exact ⟨typeIs_int s i t,fun _ e=>nomatch e⟩
 | ref p=>
  cases r
  rcases ty with ⟨rfl,xs,hq⟩ | ⟨rfl,o,hk,hc,hd⟩ | ⟨rfl,hk⟩ | ⟨rfl,S,n,hk⟩
  ·obtain ⟨its,_,pl,_⟩:=I.list hq
   refine ⟨pl.isList.typeIs,fun a e=>?_⟩
   cases e
   obtain ⟨o,n,e,c,hd,_⟩:=pl
   exact ⟨o,e,hd⟩
  ·refine ⟨⟨o,I.kIn p o hk,hc⟩,fun a e=>?_⟩
   cases e
   exact ⟨o,I.kIn _ o hk,hd⟩
  ·have z:∃ o,s.heap.get? p=some o∧o.ExactDict:=by
    rcases hk with ⟨kvs,hk⟩ | ⟨kvs,hk⟩
    ·obtain ⟨_,_,_,_,o,_,_,e,ex,_⟩:=I.hok p _ hk
     exact ⟨o,e,ex⟩
    ·obtain ⟨_,_,_,_,o,_,_,e,ex,_⟩:=I.hok p _ hk
     exact ⟨o,e,ex⟩
   obtain ⟨o,e,ex⟩:=z
   refine ⟨⟨o,e,ex.1⟩,fun a e2=>?_⟩
   cases e2
   exact ⟨o,e,ex.2.1⟩
  ·obtain ⟨o,_,_,_,e,ex,_⟩:=I.hok p _ hk
   refine ⟨⟨o,e,ex.1⟩,fun a e2=>?_⟩
   cases e2
   exact ⟨o,e,ex.2.1⟩
 | _=>exact False.elim ty
noncomputable def tBM (K:PySem.W.Frag) (T:String) (r:V→List V→Hp→VK→Prop) (to:TE) (t:TA):TE:=fun σ H Q=>to σ H fun x H1=>tyV K T x H1∧t σ H1 fun xs H2=>r x xs H2 Q
variable {o e:Expr} {es:List Expr} {to:TE} {t:TA} {name:Str} {apos cpos:Pos} {T id:String} {r:V→List V→Hp→VK→Prop}
theorem Cn (pa:PlainAttrs T) (slot:Slot T name id) (hty:typeOf (.builtin id)=pure (.type "method_descriptor")) (hm:MtR X id r) (ho:PE X o to) (ha:PA X (e::es) t)
  (hbase:attributeBase o name X.env (eval o X.env)=eval o X.env:=by rfl)
  (hfew:((backTo cpos (starEach (e::es) X.env)).all (fun x=>!x.1)&&(backToKw cpos (keywordEach [] X.env)).all (fun x=>x.1.isSome)
   && decide ((e::es).length+([]:List Keyword).length+(if ([]:List Keyword).isEmpty then 0 else 1)<30))=true:=by rfl)
  (hline:(apos.endLine == cpos.line)=true:=by rfl) (hs:starEach (e::es) X.env=(false,eval e X.env)::starEach es X.env:=by rfl) (hplain:(backTo cpos (starEach es X.env)).any (·.1)=false:=by rfl) :
  PE X (.Call (.Attribute o name apos) (e::es) [] cpos) (tBM X.K T r to t):=by
 intro pins s σ H Q I h
 refine wpAny_Call_method_late hbase hfew hline rfl (thn (ho pins s σ H _ I h) fun v s1 ⟨x,H1,I1,r1,ty,q1⟩=>?_)
 obtain ⟨h1,h2⟩:=DZ I1 r1 ty
 refine ⟨T,id,pa,slot,hty,h1,h2,?_⟩
 have hA:=ha cpos pins s1 σ H1 _ I1 q1
 rw [hs] at hA ⊢
 refine Calls.callWith_builtin (by show (false||(backTo cpos (starEach es X.env)).any (·.1))=false;rw [hplain]<;>rfl) (Calls.evalArgs_plain ?_)
 exact thn hA fun us s2 ⟨vs,H2,I2,r2,q2⟩=>hm pins s2 σ H2 x vs v us Q I2 r1 r2 q2
end
noncomputable def MtM (X:Cx) (id:String) (r:V→List V→Hp→VK→Prop):Prop:=
 ∀ (pins:List (Addr×Obj)) (s:Shared) (σ:St) (H:Hp) (x:V) (xs:List V) (v:Value) (us:List Value) (Q:VK),Inv X pins σ H s→RelV x v→Vals xs us→r x xs H Q →
  wpAny (model X.prog X.w) X.A (call (.builtin id) (v::us)) (EP X pins σ Q) X.xe s
theorem Vals.one:∀ {x:V} {us:List Value},Vals [x] us→∃ u,us=[u]∧RelV x u
 | _,_,.cons r .nil=>⟨_,rfl,r⟩
theorem Vals.reverse {xs:List V} {us:List Value} (h:Vals xs us):Vals xs.reverse us.reverse:=by
 induction h with
 | nil=>exact .nil
 | cons r t ih=>rw [List.reverse_cons,List.reverse_cons];exact Vals.append ih (.cons r .nil)
theorem Vals.rep {xs:List V} {us:List Value} (h:Vals xs us):∀ k:Nat,Vals (List.replicate k xs).flatten (List.replicate k us).flatten
 | 0=>.nil
 | k+1=>by
  rw [List.replicate_succ,List.replicate_succ,List.flatten_cons,List.flatten_cons]
  exact Vals.append h (Vals.rep h k)
theorem foldl_rep (its:List Value):∀ (k:Nat) (acc:List Value),
  List.foldl (fun x1 x2=>x1++x2) acc.toArray (List.replicate k its.toArray)=(acc++(List.replicate k its).flatten).toArray
 | 0,acc=>by simp
 | k+1,acc=>by
  have e:acc.toArray++its.toArray=(acc++its).toArray:=by simp
  have e2:(acc++its)++(List.replicate k its).flatten=acc++(List.replicate (k+1) its).flatten:=by
   rw [List.replicate_succ,List.flatten_cons,List.append_assoc]
  rw [← e2,← foldl_rep its k (acc++its),← e,List.replicate_succ,List.foldl_cons]
section
variable {X:Cx} {pins:List (Addr×Obj)} {σ:St} {H:Hp} {s:Shared} {l b:Addr} {xs ys zs:List V}
theorem Inv.Jt {its its':List Value} {n:Nat} {f:Array Value→Array Value} {t':Nat} (I:Inv X pins σ H s) (hH:H l=some (.lst xs))
  (e:s.heap.get? l=some { cls:=.type "list",data:=.seq its.toArray n }) (hf:f its.toArray=its'.toArray) (hv:Vals ys its') (hz:ys.length≤sizeLine) :
  Inv X pins σ (upd H l (.lst ys)) { s with heap:=s.heap.update l (Obj.mapSeq f),toks:=t' }:=by
 have q:=PySem.IsL.update e f
 rw [hf] at q
 refine I.write (x:=l) (e:=l) (by rw [hH];exact trivial) (.inl rfl) (fun b' u hb hu=>(Heap.get?_update_other s.heap (Obj.mapSeq f) (Ne.symm hb)).trans hu) ⟨_,q⟩ ?_
 exact ⟨hz,its',_,hv,q⟩
theorem Inv.D0 {its:List Value} {t':Nat} (I:Inv X pins σ H s) (hv:Vals ys its) (hz:ys.length≤sizeLine) :
  Inv X pins σ (upd H s.heap.objs.size (.lst ys)) { s with heap:=s.heap.push { cls:=.type "list",data:=.seq its.toArray },toks:=t' }:=
 I.laid (fun _ _ q=>Heap.get?_push_of_some _ q) (Nat.le_refl _) ⟨hz,its,0,hv,Heap.get?_push_size _ rfl⟩
theorem Inv.fresh (I:Inv X pins σ H s):H s.heap.objs.size=none:=I.hok.fresh (Nat.le_refl _)
theorem Inv.Ju (I:Inv X pins σ H s) (hH:H l=some (.lst xs)):xs.length≤sizeLine∧∃ (its:List Value) (n:Nat),Vals xs its∧xs.length=its.length∧s.heap.get? l=some { cls:=.type "list",data:=.seq its.toArray n }:=by
 obtain ⟨z,its,n,r,e⟩:=I.hok l _ hH
 exact ⟨z,its,n,r,r.length,e⟩
theorem wZ {n:Nat} (h:n≤sizeLine):Builtin.List.listTooLong n=false:=by
 unfold Builtin.List.listTooLong
 exact decide_eq_false (by omega)
end
section
variable {X:Cx}
noncomputable def m8:V→List V→Hp→VK→Prop:=fun x vs H Q=>∃ l xs y,x=.ref l∧vs=[y]∧H l=some (.lst xs)∧xs.length<sizeLine∧Q .non (upd H l (.lst (xs++[y])))
theorem h_:MtM X "list.append" m8:=by
 intro pins s σ H x vs v us Q I rx rv h
 obtain ⟨l,xs,y,rfl,rfl,hH,hz,q⟩:=h
 cases rx
 obtain ⟨u,rfl,ru⟩:=rv.one
 obtain ⟨z,its,n,r,hl,e⟩:=I.Ju hH
 refine call_meets F.slot_list_append ⟨_,e,rfl⟩ F.entry_list_append (F.args_list_append_2 _ _) (PySem.list_append l its.toArray n u (by rw [List.size_toArray];omega)) ⟨e,?_⟩
 refine ⟨.non,_,I.Jt (its':=its++[u]) hH e (by simp) (r.append (.cons ru .nil)) ?_,rfl,q⟩
 rw [List.length_append,List.length_singleton]
 omega
theorem len_rep {α:Type} (xs:List α) (k:Nat):(List.replicate k xs).flatten.length=k*xs.length:=by
 induction k with
 | zero=>simp
 | succ k ih=>rw [List.replicate_succ,List.flatten_cons,List.length_append,ih,Nat.succ_mul,Nat.add_comm]
end
section
variable {prog:Program} {w:World} {A:Around} {E:Value→Shared→Prop} {s:Shared}
set_option maxRecDepth 100000 in
end
section
variable {X:Cx}
end
end L2
namespace Att
open PySem PySem.W PySem.Calls PyProof.Rows
theorem i8 {P:Params} {h:Heap}:∀ (ns:List Int) (vs:List Value),WellAll P h vs (ns.map WData.int)→IntsAre vs ns:=by
 intro ns
 induction ns with
 | nil=>
  intro vs w
  rw [List.map_nil] at w
  cases w
  exact .nil
 | cons n ns ih=>
  intro vs w
  rw [List.map_cons] at w
  cases w with
  | cons a b=>
   cases a
   exact .cons _ _ (ih _ b)
theorem vt {l:OpenLaw} {n:Nat} (hn:l.most=some n) {P:Params} {h:Heap} {args:List WData} {vals:List Value}
  (hpre:l.row.toRowW.claim.pre args=true) (hwl:WellAll P h vals args) :
  ∃ a vs ns,vals=[Value.ref a]∧args=[WData.list (ns.map WData.int)]∧h.get? a=some { cls:=.type "list",data:=.seq vs.toArray }∧IntsAre vs ns∧ns.length≤n:=by
 have hsh:WShape.hasAll [] args [.list .int]=true:=(pre_splitW hpre).1
 have hc:l.pre.holds [] { args:=args }=true:=(pre_splitW hpre).2
 obtain ⟨d,r,rfl,h1,h2⟩:=hasAllW_cons hsh
 obtain rfl:=hasAllW_nil h2
 obtain ⟨xs,rfl,h3⟩:=hasW_list h1
 obtain ⟨ns,rfl⟩:=items_int h3
 have hlen:ns.length≤n:=by
  unfold OpenLaw.pre at hc
  have h4:(WTm.not (.lt (.lit (.int (n:Int))) (.len (.arg 0)))).holds [] { args:=[.list (ns.map .int)] }=true:=by
   have h4:=(holds_andW hc).1
   rw [hn] at h4
   exact h4
  have h5:=condW_of h4 (w_not (w_lt w_lit (w_len_list (w_arg rfl))))
  rw [List.length_map] at h5
  refine Nat.le_of_not_lt fun q=>?_
  have q':(n:Int)<((ns.length:Nat):Int):=by omega
  first
   | (rw [decide_eq_true q'] at h5;exact absurd h5 (by decide))
   | (simp at h5;omega)
 cases hwl with
 | cons w1 w2=>
  cases w2
  cases w1 with
  | list ho hall=>exact ⟨_,_,ns,rfl,rfl,ho,i8 ns _ hall,hlen⟩
theorem vv (l:OpenLaw) (args:List WData):l.row.toRowW.claim.post args (.bool true) args=true:=
 postW_of (r:=l.row.toRowW) (X:=(true == true))
  (show WShape.has [] (.bool true) .bool=true by first | rfl | decide | simp [WShape.has,WShape.arms,WShape.armsAll])
  (show (WTm.eq .res (.lit (.bool true))).value [] { args:=args,res:=some (.bool true),after:=args }=some (.bool (true == true)) from w_eq_bool (w_res rfl) w_lit) rfl
theorem oJ {l:OpenLaw} {n:Nat} {q:Program} {loose:List Str} {XP:(Str→Option Value)→Heap→Prop} {YP:World→Heap→Prop} {d:DefRec}
  (hn:l.most=some n) (hdf:d.params.defaults=[])
  (call:∀ (w:World) (s₀ s₁:Shared) (mg mb:Str→Option Value) (fa:Addr) (o:Obj) (pm cd doc:Value) (a:Addr) (vs:List Value) (ns:List Int),
   Ground q loose [] XP w s₀ mg mb s₁.heap→YP w s₁.heap →
   s₁.heap.get? fa=some o→o.data=.func (docDef d.name d.params d.body d.scope pm cd doc)→s₁.heap.CodeRec cd d.name→mg d.name=some (.ref fa) →
   s₁.heap.get? a=some { cls:=.type "list",data:=.seq vs.toArray }→IntsAre vs ns→ns.length≤n→s₁.gens=#[] →
   codeAny (model l.prog w) callerA (.call (.ref fa) ⟨[.ref a],[]⟩) (fun r s'=>r=.ok (.ret (.bool true))∧OldK s₁.heap s'.heap∧s'.os=s₁.os∧AllBare s'.gens) s₁) :
  WalkO q loose XP YP l.row.toRowW d [] (fun f vs=>PySem.call f vs):=by
 intro w s₀ s₁ mg mb G Y fa o pm cd doc dV kV ho hd hcd hD hmg hg args vals as hpre hlay hrd hwl hlo
 obtain rfl:dV=.none:=Dflts.none hD hdf
 obtain rfl:kV=.none:=Dflts.noKw hD
 obtain ⟨a,vs,ns,rfl,rfl,hobj,hints,hlen⟩:=vt hn hpre hwl
 refine enter_call (codeAny_mono (call w s₀ s₁ mg mb fa o pm cd doc a vs ns G Y ho (fd_plain hd) hcd hmg hobj hints hlen hg) fun r s' hq=>?_)
 obtain ⟨rfl,h2,h3,h4⟩:=hq
 exact ⟨.inl ⟨.bool true,.bool true,[],rfl,fun _=>rfl,.bool true,vv l _,fun _=>⟨List.Pairwise.nil,fun _ hm=>(nomatch hm)⟩⟩,h2,h3,h4⟩
section
variable {prog:Program} {w:World} {A:Around} {E:Value→Shared→Prop} {s:Shared} {K:Frag}
end
end Att
namespace L2
open PySem PySem.Spec PyProof.Rows
theorem lZ:∀ {vs:List Value} {ns:List Int},IntsAre vs ns→Vals (ns.map V.int) vs
 | _,_,.nil=>.nil
 | _,_,.cons n t h=>.cons ⟨t,rfl⟩ (lZ h)
noncomputable def D3 (H:Hp):Prop:=∀ b,H b=none∨∃ o xs,H b=some (.frz o (.lst xs))
theorem w_ {P:Program} {w:World} {K:PySem.W.Frag} {mg mb:Str→Option Value} {CX:CXT} {k:Nat} {fa a:Addr} {fd:FuncData} {x:Str} {sp:Sp} {s₁:Shared} {vs:List Value} {ns:List Int}
  (KX:K.In s₁.heap) (hns:s₁.heap.Ns mainGlobals mg) (hb:s₁.heap.Ns builtinsNs mb) (hbb:∀ x:Str,x ≠ "__name__" → mb x=bootBuiltins x) (hlim:s₁.heap.NoLimit) (hg:s₁.gens=#[])
  (ha:s₁.heap.get? a=some { cls:=.type "list",data:=.seq vs.toArray }) (hi:IntsAre vs ns) (hl:ns.length≤sizeLine) (hr:bE k callerA)
  (F:∀ base:Heap,K.In base→base.Ns mainGlobals mg→aR P w K mg base CX k fa fd [x] sp) (hbind:∀ (s:Shared) (u:Value),BindsTo s fd ⟨[u],[]⟩ [(x,u)])
  (hsp:∀ H:Hp,D3 H→SqL K H a (ns.map V.int)→sp [.ref a] H (fun v _=>v=.bl true) fun _ _ _=>False)
  (hCX:∀ H e s',CX [] H s₁ (fun _ _ _=>False) e s'→False) :
  codeAny (model P w) callerA (.call (.ref fa) ⟨[.ref a],[]⟩) (fun r s'=>r=.ok (.ret (.bool true))∧OldK s₁.heap s'.heap∧s'.os=s₁.os∧AllBare s'.gens) s₁:=by
 have rv:=lZ hi
 have Jv:=hi.length
 have core:∀ H:Hp,D3 H→SqL K H a (ns.map V.int)→HOk P w H s₁.heap→(∀ b,H b≠none→b=a)→(H a≠none→K.lookup a=none) →
   codeAny (model P w) callerA (.call (.ref fa) ⟨[.ref a],[]⟩) (fun r s'=>r=.ok (.ret (.bool true))∧OldK s₁.heap s'.heap∧s'.os=s₁.os∧AllBare s'.gens) s₁:=by
  intro H hO hS hok hA hK
  have tS:∀ {b:Addr} {o:Obj},s₁.heap.get? b=some o→H b=none→(mV s₁.heap H).get? b=some o:=fun e n=>wC e n
  have noA:∀ {b:Addr} {o:Obj} {es:Array DictEntry} {ep:Nat},s₁.heap.get? b=some o→o.data=.dict es ep→H b=none:=fun {b o es ep} e d=>by
   cases q:H b with
   | none=>rfl
   | some u=>
    have e':b=a:=hA b (by rw [q];simp)
    subst e'
    rw [ha] at e;cases e
    have d':Data.seq vs.toArray _=Data.dict es ep:=d
    cases d'
  have nsK:∀ {b:Addr} {m:Str→Option Value},s₁.heap.Ns b m→(mV s₁.heap H).Ns b m:=fun {b m} ⟨o,es,ep,e,d,r⟩=>⟨o,es,ep,tS e (noA e d),d,r⟩
  have hKb:K.In (mV s₁.heap H):=fun b o e=>tS (KX b o e) (by
   cases q:H b with
   | none=>rfl
   | some u=>
    have e':b=a:=hA b (by rw [q];simp)
    subst e'
    rw [hK (by rw [q];simp)] at e;cases e)
  have hM:Mod K mg (mV s₁.heap H):=⟨hKb,nsK hns,⟨mb,nsK hb,hbb⟩,let ⟨mc,h1,h2⟩:=hlim;⟨mc,nsK h1,h2⟩⟩
  have e0:Ay P w K mg (mV s₁.heap H) callerA [] s₁ H:=⟨rfl,hM,fun b o e=>Am e,Nat.le_of_eq (u7 _ _),trivial,fun b hb=>absurd (show b∈([]:List Addr) from hb) (by simp),hok,.of_eq hg⟩
  refine codeAny_mono ((F _ hKb (nsK hns)).run callerA [] s₁ H ⟨[.ref a],[]⟩ [.ref a] [.ref a] _ _ hr e0 (hbind s₁ (.ref a)) (.cons rfl .nil) (hsp H hO hS)) fun r s' h=>?_
  cases r with
  | error e=>exact (hCX H e s' h).elim
  | ok fl=>
   cases fl with
   | next=>exact False.elim h
   | brk=>exact False.elim h
   | cont=>exact False.elim h
   | ret u=>
    obtain ⟨v,H',os,bare,un,Jw,r',q⟩:=h
    have q':v=.bl true:=q
    subst q'
    obtain rfl:u=Value.bool true:=r'
    refine ⟨rfl,OldK.of_keep fun b o e=>?_,os,bare⟩
    cases q:H b with
    | none=>exact un.keep b o e q (by intro z;exact absurd (show b∈([]:List Addr) from z) (by simp)) (by simp)
    | some u=>
     rcases hO b with z | ⟨ob,xs,z⟩
     ·rw [q] at z;cases z
     ·have z2:=un.mU b ob _ z
      obtain ⟨e1,_⟩:=hok b _ z
      obtain ⟨e2,_⟩:=Jw b _ z2
      rw [e] at e1;cases e1
      exact e2
 cases hk:K.lookup a with
 | some o=>
  have e:=KX a o hk
  rw [ha] at e
  cases e
  refine core (fun _=>none) (fun _=>.inl rfl) (.inr ⟨_,vs.toArray,_,hk,rfl,rfl,rfl,by rw [List.size_toArray,Jv];exact hl,by simpa using rv⟩) (fun b u z=>by have z':(none:Option HO)=some u:=z;cases z') (fun b z=>absurd rfl z) fun z=>absurd rfl z
 | none=>
  refine core (fun b=>if b=a then some (.frz { cls:=.type "list",data:=.seq vs.toArray } (.lst (ns.map V.int))) else none) (fun b=>?_) (.inl (.inr ⟨{ cls:=.type "list",data:=.seq vs.toArray },if_pos rfl⟩)) (fun b u z=>?_) (fun b z=>?_) fun _=>hk
  ·by_cases hb:b=a
   ·exact .inr ⟨_,_,if_pos hb⟩
   ·exact .inl (if_neg hb)
  ·by_cases hb:b=a
   ·have z':=(if_pos hb).symm.trans z
    cases z'
    subst hb
    exact ⟨ha,by rw [List.length_map];exact hl,vs,_,rv,ha⟩
   ·have z':=(if_neg hb).symm.trans z
    cases z'
  ·by_cases hb:b=a
   ·exact hb
   ·exact absurd (if_neg hb) z
theorem AA {l:PySem.W.OpenLaw} {n k:Nat} {q:Program} {loose:List Str} {XP:(Str→Option Value)→Heap→Prop} {YP:World→Heap→Prop} {d:DefRec} {K:Params→PySem.W.Frag} {CX:World→CXT} {sp:World→Sp} {x:Str}
  (hn:l.most=some n) (hn2:n≤sizeLine) (hdf:d.params.defaults=[]) (hr:bE k callerA)
  (hY:∀ (w:World) (h:Heap),YP w h→(K w.params).In h)
  (F:∀ (w:World) (mg:Str→Option Value) (fa:Addr) (h:Heap),(K w.params).In h→h.Ns mainGlobals mg→mg d.name=some (.ref fa) →
   ∃ fd:FuncData,(∀ (s:Shared) (u:Value),BindsTo s fd ⟨[u],[]⟩ [(x,u)]) ∧
    ∀ base:Heap,(K w.params).In base→base.Ns mainGlobals mg→aR l.prog w (K w.params) mg base (CX w) k fa fd [x] (sp w))
  (hsp:∀ (w:World) (H:Hp) (a:Addr) (ns:List Int),ns.length≤n→D3 H→SqL (K w.params) H a (ns.map V.int)→sp w [.ref a] H (fun v _=>v=.bl true) fun _ _ _=>False)
  (hCX:∀ (w:World) (H:Hp) (s:Shared) (e:Value) (s':Shared),CX w [] H s (fun _ _ _=>False) e s'→False) :
  PySem.W.WalkO q loose XP YP l.row.toRowW d [] (fun f vs=>PySem.call f vs):=by
 refine Att.oJ hn hdf fun w s₀ s₁ mg mb fa o pm cd doc a vs ns G Y ho hd hcd hmg hobj hints hlen hg=>?_
 have KX:=hY w _ Y
 obtain ⟨fd,hb,hF⟩:=F w mg fa _ KX G.T.g hmg
 exact w_ KX G.T.g G.T.b G.T.builtins G.T.nolimit hg hobj hints (Nat.le_trans hlen hn2) hr hF hb (fun H hO hS=>hsp w H a ns hlen hO hS) fun H e s'=>hCX w H s₁ e s'
noncomputable def bw (s:Stmt):Arguments:=match s with
 | .FunctionDef _ a _ _ _ _ _ _ _ _=>a
 | _=>{ posonlyargs:=[],args:=[],vararg:=none,kwonlyargs:=[],kw_defaults:=[],kwarg:=none,defaults:=[] }
noncomputable def aZ (s:Stmt):List Stmt:=match s with
 | .FunctionDef _ _ b _ _ _ _ _ _ _=>b
 | _=>[]
noncomputable def ah (s:Stmt):Scope:=match s with
 | .FunctionDef _ _ _ _ _ _ sc _ _ _=>sc
 | _=>{ kind:=.function,names:=[],isGenerator:=false,isCoroutine:=false }
noncomputable abbrev CX0:CXT:=fun _ _ _ _ _ _=>False
noncomputable abbrev E0:XK:=fun _ _ _=>False
theorem xg {X:Cx}:Passes CX0 X E0:=fun _ _ _ _ _ _ _ h=>h.elim
structure Fun (K:PySem.W.Frag) (x qual:Str) (st:Stmt) (f:Addr) (fd:FuncData):Prop where
 ex:∃ (oc:Value) (od:Option Addr) (kV doc pm:Value) (an:Option Addr) (cdv ct:Value) (osl:Array (Option Value)),
  fd=PySem.W.fnOf x qual (bw st) (aZ st) (ah st) .none kV doc pm an cdv ct∧K.lookup f=some ⟨oc,od,.func fd,osl⟩∧PySem.W.codeIn K cdv qual=true
 kp:PySem.W.keepIn K (.ref f)=true
section
variable {P:Program} {w:World} {K:PySem.W.Frag} {mg:Str→Option Value} {base:Heap}
theorem Fun.ok {x qual:Str} {st:Stmt} {f:Addr} {fd:FuncData} {N ps:List Str} {k:Nat} {sp:Sp} (F:Fun K x qual st f fd) (S:au N ps (ah st)) (len:∀ vs H Q E,sp vs H Q E→vs.length=ps.length)
  (hbody:∀ (cdv:Value) (A:Around) (outer:List Env) (s:Shared) (H:Hp) (vs:List V) (Q:VK) (E:XK),bE k (A.deeper (envOfC qual (ah st) s.heap.objs.size f cdv))→sp vs H Q E →
   ∃ t,PSs (vp CX0 P w K mg base N qual (ah st) f cdv A outer s H E).nox (aZ st) t∧t { nx:=fun _ H'=>Q .non H',rt:=Q } (start N vs) H):aR P w K mg base CX0 (k+1) f fd ps sp:=by
 obtain ⟨oc,od,kV,doc,pm,an,cdv,ct,osl,rfl,lk,hcd⟩:=F.ex
 refine GF lk hcd S len fun A outer s H vs Q E hr hsp=>?_
 obtain ⟨t,h,q⟩:=hbody cdv A outer s H vs Q E hr hsp
 exact ⟨t,h.nox,q⟩
theorem Fun.binds {x qual:Str} {st:Stmt} {f:Addr} {fd:FuncData} {ps:List Str} (F:Fun K x qual st f fd)
  (h:∀ (kV doc pm:Value) (an:Option Addr) (cdv ct:Value) (us:List Value),us.length=ps.length→bindArgs (PySem.W.fnOf x qual (bw st) (aZ st) (ah st) .none kV doc pm an cdv ct) ⟨us,[]⟩=pure (ps.zip us)):Binds K fd ps []:=by
 obtain ⟨oc,od,kV,doc,pm,an,cdv,ct,osl,rfl,lk,hcd⟩:=F.ex
 exact .all (h kV doc pm an cdv ct)
theorem D4 {x qual:Str} {st:Stmt} {f:Addr} {oc:Value} {od an:Option Addr} {osl:Array (Option Value)} {kV doc pm cdv ct:Value} (l:K.lookup f=some ⟨oc,od,.func (PySem.W.fnOf x qual (bw st) (aZ st) (ah st) .none kV doc pm an cdv ct),osl⟩)
  (c:PySem.W.codeIn K cdv qual=true) (k:PySem.W.keepIn K (.ref f)=true):Fun K x qual st f (PySem.W.fnOf x qual (bw st) (aZ st) (ah st) .none kV doc pm an cdv ct):=⟨⟨oc,od,kV,doc,pm,an,cdv,ct,osl,rfl,l,c⟩,k⟩
end
section
variable {X:Cx}
end
noncomputable def aj (H H':Hp):Prop:=∀ b o,H b=some o→H' b=some o
theorem aj.refl (H:Hp):aj H H:=fun _ _ h=>h
theorem aj.trans {H H1 H2:Hp} (a:aj H H1) (b:aj H1 H2):aj H H2:=fun c o h=>b c o (a c o h)
theorem aj.free {H H':Hp} (e:aj H H') {l:Addr} (h:H' l=Option.none):H l=Option.none:=by
 cases q:H l with
 | none=>rfl
 | some o=>
  rw [e l o q] at h
  cases h
section
variable {κ:Type} [DecidableEq κ]
end
section
variable {P:Program} {w:World} {H:Hp} {h:Heap} {a:Addr}
end
section
variable {X:Cx} {pins:List (Addr×Obj)} {σ:St} {H:Hp} {s:Shared} {a:Addr} {y v:V} {u r:Value} {o:Option V} {A:Around} {E:Value→Shared→Prop}
end
section
variable {X:Cx} {pins:List (Addr×Obj)} {σ:St} {H:Hp} {s:Shared} {a:Addr} {kvs:List (Key×V)} {k:Key} {u:Value} {A:Around} {E:Value→Shared→Prop}
end
section
variable {X:Cx} {o i e value:Expr} {pos pos' tpos:Pos} {td ty tv:TE}
end
section
variable {X:Cx} {pos:Pos}
end
section
variable {X:Cx} {pins:List (Addr×Obj)} {σ:St} {H:Hp} {s:Shared} {a:Addr} {y d:V} {u r:Value} {o:Option V} {A:Around} {E:Value→Shared→Prop}
end
section
variable {X:Cx} {o e f:Expr} {apos cpos:Pos} {td ty tx:TE}
end
section
variable {X:Cx} {pins:List (Addr×Obj)} {σ:St} {H:Hp} {s:Shared} {a:Addr} {kvs:List (Key×V)} {A:Around} {E:Value→Shared→Prop}
end
section
variable {X:Cx} {pins:List (Addr×Obj)} {σ:St} {H:Hp} {s:Shared} {a:Addr} {y:V} {u:Value} {A:Around} {E:Value→Shared→Prop}
end
end L2
namespace Dm
inductive Dat where
 | non
 | bl (b:Bool)
 | int (i:Int)
 | str (s:List Nat)
 | tup (xs:List Dat)
 | lst (xs:List Dat)
 | dct (ks:List Int) (vs:List Dat)
 | exc (C:Nat)
 | fn (a:Nat)
deriving Inhabited
inductive Cell where
 | un
 | sh (d:Dat)
 | ow (d:Dat)
deriving Inhabited
noncomputable abbrev Env:=List Cell
inductive Val where
 | val (d:Dat)
 | slot (i:Nat)
 | new (d:Dat)
inductive RV where
 | val (d:Dat)
 | new (d:Dat)
noncomputable def RV.dat:RV→Dat
 | .val d=>d
 | .new d=>d
noncomputable def RV.bz:RV→Val
 | .val d=>.val d
 | .new d=>.new d
noncomputable def SZ:Nat:=100000
noncomputable def dW:Dat→Bool
 | .tup _=>true
 | .lst _=>true
 | .dct _ _=>true
 | .exc _=>true
 | _=>false
noncomputable def pk (ρ:Env):Val→Option Dat
 | .val d=>some d
 | .new d=>some d
 | .slot i=>match ρ[i]? with
  | some (.ow d)=>some d
  | some (.sh d)=>some d
  | _=>none
noncomputable def tk (ρ:Env):Val→Option (Dat×Env)
 | .val d=>some (d,ρ)
 | .new d=>some (d,ρ)
 | .slot i=>match ρ[i]? with
  | some (.ow d)=>some (d,ρ.set i (.sh d))
  | some (.sh d)=>some (d,ρ)
  | _=>none
noncomputable def pks (ρ:Env):List Val→Option (List Dat)
 | []=>some []
 | x::r=>match pk ρ x with
  | none=>none
  | some d=>match pks ρ r with
   | none=>none
   | some ds=>some (d::ds)
noncomputable def tks (ρ:Env):List Val→Option (List Dat×Env)
 | []=>some ([],ρ)
 | x::r=>match tk ρ x with
  | none=>none
  | some (d,ρ1)=>match tks ρ1 r with
   | none=>none
   | some (ds,ρ2)=>some (d::ds,ρ2)
noncomputable abbrev FE:=Env→Option (Val×Env)
noncomputable abbrev FT:=Env→Option (Bool×Env)
noncomputable def eC (d:Dat):FE:=fun ρ=>some (.val d,ρ)
noncomputable def eV (i:Nat):FE:=fun ρ=>match ρ[i]? with
 | some (.sh d)=>some (.val d,ρ)
 | some (.ow _)=>some (.slot i,ρ)
 | _=>none
noncomputable def e1 (g:Dat→Option RV) (a:FE):FE:=fun ρ=>match a ρ with
 | none=>none
 | some (x,ρ1)=>match pk ρ1 x with
  | none=>none
  | some d=>match g d with
   | none=>none
   | some v=>some (v.bz,ρ1)
noncomputable def e2 (g:Dat→Dat→Option RV) (a b:FE):FE:=fun ρ=>match a ρ with
 | none=>none
 | some (x,ρ1)=>match b ρ1 with
  | none=>none
  | some (y,ρ2)=>match pk ρ2 x with
   | none=>none
   | some d=>match pk ρ2 y with
    | none=>none
    | some e=>match g d e with
     | none=>none
     | some v=>some (v.bz,ρ2)
noncomputable def eAs:List FE→Env→Option (List Val×Env)
 | [],ρ=>some ([],ρ)
 | a::r,ρ=>match a ρ with
  | none=>none
  | some (x,ρ1)=>match eAs r ρ1 with
   | none=>none
   | some (xs,ρ2)=>some (x::xs,ρ2)
noncomputable def eB (g:List Dat→Option RV) (as:List FE):FE:=fun ρ=>match eAs as ρ with
 | none=>none
 | some (xs,ρ1)=>match pks ρ1 xs with
  | none=>none
  | some ds=>match g ds with
   | none=>none
   | some v=>some (v.bz,ρ1)
noncomputable def eU (as:List FE):FE:=fun ρ=>match eAs as ρ with
 | none=>none
 | some (xs,ρ1)=>match tks ρ1 xs with
  | none=>none
  | some (ds,ρ2)=>if ds.length≤SZ then some (.val (.tup ds),ρ2) else none
noncomputable def eW (as:List FE):FE:=fun ρ=>match eAs as ρ with
 | none=>none
 | some (xs,ρ1)=>match tks ρ1 xs with
  | none=>none
  | some (ds,ρ2)=>if ds.length≤SZ then some (.new (.lst ds),ρ2) else none
noncomputable def eF (f:List Dat→Option RV) (as:List FE):FE:=fun ρ=>match eAs as ρ with
 | none=>none
 | some (xs,ρ1)=>match pks ρ1 xs with
  | none=>none
  | some ds=>match f ds with
   | none=>none
   | some v=>if dW v.dat then (match tks ρ1 xs with
     | none=>none
     | some (_,ρ2)=>some (v.bz,ρ2)) else some (v.bz,ρ1)
noncomputable def eIf (t:FT) (a b:FE):FE:=fun ρ=>match t ρ with
 | none=>none
 | some (true,ρ1)=>a ρ1
 | some (false,ρ1)=>b ρ1
noncomputable def ia (a b:FE):FE:=fun ρ=>match a ρ with
 | some (.val (.bl true),ρ1)=>b ρ1
 | some (.val (.bl false),ρ1)=>some (.val (.bl false),ρ1)
 | _=>none
noncomputable def AB (a:FE):FE:=fun ρ=>match a ρ with
 | some (.val (.bl c),ρ1)=>some (.val (.bl (!c)),ρ1)
 | _=>none
noncomputable def tV (a:FE):FT:=fun ρ=>match a ρ with
 | some (.val (.bl c),ρ1)=>some (c,ρ1)
 | _=>none
noncomputable def dc (t:FT):FT:=fun ρ=>match t ρ with
 | some (c,ρ1)=>some (!c,ρ1)
 | none=>none
noncomputable def jh (t u:FT):FT:=fun ρ=>match t ρ with
 | some (true,ρ1)=>u ρ1
 | some (false,ρ1)=>some (false,ρ1)
 | none=>none
noncomputable def tOr (t u:FT):FT:=fun ρ=>match t ρ with
 | some (true,ρ1)=>some (true,ρ1)
 | some (false,ρ1)=>u ρ1
 | none=>none
noncomputable def cS:FT:=fun ρ=>some (true,ρ)
noncomputable abbrev FI:=Env→Option (List Dat×Env)
noncomputable def iL (a:FE):FI:=fun ρ=>match a ρ with
 | none=>none
 | some (x,ρ1)=>match tk ρ1 x with
  | some (.lst ds,ρ2)=>some (ds,ρ2)
  | _=>none
noncomputable def iT (a:FE):FI:=fun ρ=>match a ρ with
 | none=>none
 | some (x,ρ1)=>match tk ρ1 x with
  | some (.tup ds,ρ2)=>some (ds,ρ2)
  | _=>none
noncomputable def iS (a:FE):FI:=fun ρ=>match a ρ with
 | none=>none
 | some (x,ρ1)=>match tk ρ1 x with
  | some (.lst ds,ρ2)=>some (ds,ρ2)
  | some (.tup ds,ρ2)=>some (ds,ρ2)
  | _=>none
noncomputable def ups (lo:Int) (n:Nat):List Dat:=(List.range n).map fun i=>Dat.int (lo+(i:Nat))
noncomputable def downs (hi:Int) (n:Nat):List Dat:=(List.range n).map fun i=>Dat.int (hi-(i:Nat))
noncomputable def BIG:Int:=1000000000
noncomputable def iR1 (a:FE):FI:=fun ρ=>match a ρ with
 | some (.val (.int j),ρ1)=>if j≤BIG∧-BIG≤j then some (ups 0 j.toNat,ρ1) else none
 | _=>none
noncomputable def iR2 (a b:FE):FI:=fun ρ=>match a ρ with
 | some (.val (.int i),ρ1)=>(match b ρ1 with
  | some (.val (.int j),ρ2)=>if j≤BIG∧-BIG≤j∧i≤BIG∧-BIG≤i then some (ups i (j-i).toNat,ρ2) else none
  | _=>none)
 | _=>none
noncomputable abbrev FB:=Dat→Env→Option Env
noncomputable def bN (i:Nat):FB:=fun d ρ=>if i=0 then none else some (ρ.set i (.sh d))
noncomputable def sets:List Nat→List Dat→Env→Option Env
 | [],[],ρ=>some ρ
 | i::is,d::ds,ρ=>if i=0 then none else sets is ds (ρ.set i (.sh d))
 | _,_,_=>none
noncomputable def bT (is:List Nat):FB:=fun d ρ=>match d with
 | .tup ds=>sets is ds ρ
 | _=>none
noncomputable def cI (bd:FB) (t:FT) (el:FE):List Dat→Env→List Dat→Option (List Dat×Env)
 | [],ρ,acc=>some (acc,ρ)
 | d::r,ρ,acc=>match bd d ρ with
  | none=>none
  | some ρ1=>match t ρ1 with
   | none=>none
   | some (false,ρ2)=>cI bd t el r ρ2 acc
   | some (true,ρ2)=>match el ρ2 with
    | none=>none
    | some (x,ρ3)=>match tk ρ3 x with
     | none=>none
     | some (y,ρ4)=>cI bd t el r ρ4 (acc++[y])
noncomputable def bG (it:FI) (own:Nat) (bd:FB) (t:FT) (el:FE):FE:=fun ρ=>match it ρ with
 | none=>none
 | some (ds,ρ1)=>if ds.length≤SZ then (match cI bd t el ds (ρ1++List.replicate own .un) [] with
  | none=>none
  | some (ys,ρ2)=>some (.new (.lst ys),ρ2.take ρ1.length)) else none
inductive Out where
 | nx (ρ:Env)
 | ret (r:RV) (ρ:Env)
 | bk (ρ:Env)
 | ct (ρ:Env)
noncomputable abbrev FS:=Env→Option Out
noncomputable def sNx:FS:=fun ρ=>some (.nx ρ)
noncomputable def aA (s u:FS):FS:=fun ρ=>match s ρ with
 | some (.nx ρ1)=>u ρ1
 | o=>o
noncomputable def sA (i:Nat) (e:FE):FS:=fun ρ=>if i=0 then none else match e ρ with
 | none=>none
 | some (.new d,ρ1)=>some (.nx (ρ1.set i (.ow d)))
 | some (x,ρ1)=>match tk ρ1 x with
  | none=>none
  | some (d,ρ2)=>some (.nx (ρ2.set i (.sh d)))
noncomputable def sU (is:List Nat) (e:FE):FS:=fun ρ=>match e ρ with
 | none=>none
 | some (x,ρ1)=>match tk ρ1 x with
  | some (.tup ds,ρ2)=>(match sets is ds ρ2 with
   | none=>none
   | some ρ3=>some (.nx ρ3))
  | _=>none
noncomputable def sE (e:FE):FS:=fun ρ=>match e ρ with
 | none=>none
 | some (_,ρ1)=>some (.nx ρ1)
noncomputable def sR (e:FE):FS:=fun ρ=>match e ρ with
 | none=>none
 | some (.new d,ρ1)=>some (.ret (.new d) ρ1)
 | some (.val d,ρ1)=>some (.ret (.val d) ρ1)
 | some (.slot i,ρ1)=>match ρ1[i]? with
  | some (.ow d)=>some (.ret (.new d) (ρ1.set i .un))
  | some (.sh d)=>some (.ret (.val d) ρ1)
  | _=>none
noncomputable def sIf (t:FT) (a b:FS):FS:=fun ρ=>match t ρ with
 | none=>none
 | some (true,ρ1)=>a ρ1
 | some (false,ρ1)=>b ρ1
noncomputable def sBk:FS:=fun ρ=>some (.bk ρ)
noncomputable def m9 (i:Nat) (e:FE):FS:=fun ρ=>match ρ[i]? with
 | some (.ow (.lst _))=>(match e ρ with
  | none=>none
  | some (x,ρ1)=>match tk ρ1 x with
   | none=>none
   | some (d,ρ2)=>match ρ2[i]? with
    | some (.ow (.lst ds))=>if ds.length<SZ then some (.nx (ρ2.set i (.ow (.lst (ds++[d]))))) else none
    | _=>none)
 | _=>none
noncomputable def ixN (n:Nat) (i:Int):Option Nat:=
 if 0≤i then (if i<n then some i.toNat else none) else if -(n:Int)≤i then some (i+n).toNat else none
noncomputable def oK (i:Nat) (j e:FE):FS:=fun ρ=>match e ρ with
 | none=>none
 | some (x,ρ1)=>match tk ρ1 x with
  | none=>none
  | some (d,ρ2)=>match ρ2[i]? with
   | some (.ow _)=>(match j ρ2 with
    | some (.val (.int k),ρ3)=>(match ρ3[i]? with
     | some (.ow (.lst ds))=>(match ixN ds.length k with
      | none=>none
      | some m=>some (.nx (ρ3.set i (.ow (.lst (ds.set m d))))))
     | _=>none)
    | _=>none)
   | _=>none
noncomputable def ic (bd:FB) (body:FS):List Dat→FS
 | [],ρ=>some (.nx ρ)
 | d::r,ρ=>match bd d ρ with
  | none=>none
  | some ρ1=>match body ρ1 with
   | some (.nx ρ2)=>ic bd body r ρ2
   | some (.ct ρ2)=>ic bd body r ρ2
   | some (.bk ρ2)=>some (.nx ρ2)
   | some (.ret v ρ2)=>some (.ret v ρ2)
   | none=>none
noncomputable def fy (it:FI) (bd:FB) (body:FS):FS:=fun ρ=>match it ρ with
 | none=>none
 | some (ds,ρ1)=>ic bd body ds ρ1
noncomputable def fn (n m:Nat) (body:FS) (ds:List Dat):Option RV:=if ds.length=n then (match body (ds.map Cell.sh++List.replicate m .un) with
 | some (.ret r _)=>some r
 | some (.nx _)=>some (.val .non)
 | _=>none) else none
noncomputable def b2i (b:Bool):Int:=if b then 1 else 0
mutual
noncomputable def eqD:Dat→Dat→Bool
 | .non,.non=>true
 | .bl a,.bl b=>a == b
 | .bl a,.int j=>b2i a == j
 | .int i,.bl b=>i == b2i b
 | .int i,.int j=>i == j
 | .str a,.str b=>a == b
 | .tup xs,.tup ys=>lI xs ys
 | .lst xs,.lst ys=>lI xs ys
 | _,_=>false
noncomputable def lI:List Dat→List Dat→Bool
 | [],[]=>true
 | x::xs,y::ys=>eqD x y&&lI xs ys
 | _,_=>false
end
noncomputable def okD:Nat→Dat→Bool
 | _,.dct _ _=>false
 | _,.exc _=>false
 | _,.fn _=>false
 | _,.str s=>s.all fun c=>decide (c<128)
 | 0,.tup _=>false
 | 0,.lst _=>false
 | n+1,.tup xs=>xs.all (okD n)
 | n+1,.lst xs=>xs.all (okD n)
 | _,_=>true
noncomputable abbrev vB (b:Bool):Option RV:=some (.val (.bl b))
noncomputable def oM (p:Dat→Bool):Dat→Option RV
 | .exc _=>none
 | .fn _=>none
 | d=>vB (p d)
noncomputable abbrev vI (i:Int):Option RV:=some (.val (.int i))
noncomputable def gEq (x y:Dat):Option RV:=if okD 8 x&&okD 8 y then vB (eqD x y) else none
noncomputable def gNe (x y:Dat):Option RV:=if okD 8 x&&okD 8 y then vB (!eqD x y) else none
noncomputable def gLt:Dat→Dat→Option RV
 | .int i,.int j=>vB (decide (i<j))
 | _,_=>none
noncomputable def gLe:Dat→Dat→Option RV
 | .int i,.int j=>vB (decide (i≤j))
 | _,_=>none
noncomputable def gGt:Dat→Dat→Option RV
 | .int i,.int j=>vB (decide (j<i))
 | _,_=>none
noncomputable def gGe:Dat→Dat→Option RV
 | .int i,.int j=>vB (decide (j≤i))
 | _,_=>none
noncomputable def B64:Int:=18446744073709551616
noncomputable def bF:Dat→Dat→Option RV
 | .int i,.int j=>vI (i+j)
 | .lst xs,.lst ys=>if xs.length+ys.length≤SZ then some (.new (.lst (xs++ys))) else none
 | _,_=>none
noncomputable def g9:Dat→Dat→Option RV
 | .int i,.int j=>vI (i-j)
 | _,_=>none
noncomputable def fB:Dat→Dat→Option RV
 | .int i,.int j=>if (-B64<i∧i<B64)∨(-B64<j∧j<B64) then vI (i*j) else none
 | .lst xs,.int k=>if k≤BIG∧-BIG≤k∧xs.length*k.toNat≤SZ then some (.new (.lst (List.replicate k.toNat xs).flatten)) else none
 | _,_=>none
noncomputable def dX:Int:=1606938044258990275541962092341162602522202993782792835301376
noncomputable def vz:Dat→Dat→Option RV
 | .int i,.int j=>if 0<j∧j<dX then vI (i / j) else none
 | _,_=>none
noncomputable def dh:Dat→Dat→Option RV
 | .int i,.int j=>if 0<j then vI (i % j) else none
 | _,_=>none
noncomputable def fC:Dat→Dat→Option RV
 | .int i,.int j=>if 0≤j∧j≤1000000∧i.natAbs<1000000 then vI (i ^ j.toNat) else none
 | _,_=>none
noncomputable def AD:Dat→Option RV
 | .int i=>vI (-i)
 | _=>none
noncomputable def atI (xs:List Dat) (i:Int):Option Dat:=(ixN xs.length i).bind fun j=>xs[j]?
noncomputable def gIx:Dat→Dat→Option RV
 | .lst xs,.int i=>(atI xs i).map .val
 | .tup xs,.int i=>(atI xs i).map .val
 | _,_=>none
noncomputable def inD (x:Dat) (xs:List Dat):Bool:=xs.any fun y=>eqD y x
noncomputable def gIn:Dat→Dat→Option RV
 | x,.lst xs=>if okD 8 x&&xs.all (okD 7) then vB (inD x xs) else none
 | x,.tup xs=>if okD 8 x&&xs.all (okD 7) then vB (inD x xs) else none
 | _,_=>none
noncomputable def ie:Dat→Dat→Option RV
 | x,.lst xs=>if okD 8 x&&xs.all (okD 7) then vB (!inD x xs) else none
 | x,.tup xs=>if okD 8 x&&xs.all (okD 7) then vB (!inD x xs) else none
 | _,_=>none
noncomputable def e_:List Dat→Option RV
 | [.lst xs]=>vI xs.length
 | [.tup xs]=>vI xs.length
 | _=>none
noncomputable def gG:List Dat→Option RV
 | [.int i,.int j]=>vI (if j<i then j else i)
 | _=>none
noncomputable def gH:List Dat→Option RV
 | [.int i,.int j]=>vI (if j>i then j else i)
 | _=>none
noncomputable def isI:Dat→Bool
 | .int _=>true
 | .bl _=>true
 | _=>false
noncomputable def isB:Dat→Bool
 | .bl _=>true
 | _=>false
noncomputable def isL:Dat→Bool
 | .lst _=>true
 | _=>false
noncomputable def isT:Dat→Bool
 | .tup _=>true
 | _=>false
noncomputable def bools:List Dat→Option (List Bool)
 | []=>some []
 | .bl b::r=>(bools r).map fun bs=>b::bs
 | _=>none
noncomputable def rA:List Dat→Option RV
 | [.lst xs]=>(match bools xs with
  | some bs=>vB (bs.all id)
  | none=>none)
 | _=>none
noncomputable def ir (g h:Dat→Dat→Option RV) (a b c:FE):FE:=fun ρ=>match a ρ with
 | none=>none
 | some (x,ρ1)=>match b ρ1 with
  | none=>none
  | some (y,ρ2)=>match pk ρ2 x with
   | none=>none
   | some d=>match pk ρ2 y with
    | none=>none
    | some e=>match g d e with
     | some (.val (.bl true))=>(match c ρ2 with
      | none=>none
      | some (z,ρ3)=>match pk ρ3 y with
       | none=>none
       | some e'=>match pk ρ3 z with
        | none=>none
        | some f=>match h e' f with
         | none=>none
         | some v=>some (v.bz,ρ3))
     | some (.val (.bl false))=>some (.val (.bl false),ρ2)
     | _=>none
noncomputable def vA:Dat→Option RV
 | .lst xs=>some (.new (.lst xs.reverse))
 | _=>none
noncomputable def xh:List Dat→Option RV
 | [.int i]=>vI i
 | [.bl b]=>vI (b2i b)
 | _=>none
end Dm
namespace Br
open PySem L2
mutual
inductive Rep (H:Hp):V→Dm.Dat→Prop
 | non:Rep H V.non Dm.Dat.non
 | bl (b:Bool):Rep H (V.bl b) (Dm.Dat.bl b)
 | int (i:Int):Rep H (V.int i) (Dm.Dat.int i)
 | str (s:List Nat):Rep H (V.str ⟨s.toArray⟩) (Dm.Dat.str s)
 | tup {a:Addr} {xs:List V} {ds:List Dm.Dat}:H a=some (.tup xs)→aF H xs ds→Rep H (V.ref a) (Dm.Dat.tup ds)
 | lst {a:Addr} {xs:List V} {ds:List Dm.Dat}:Rd H a (.lst xs)→aF H xs ds→Rep H (V.ref a) (Dm.Dat.lst ds)
 | dct {a:Addr} {kvs:List (Key×V)} {ks:List Int} {ds:List Dm.Dat}:H a=some (.dK kvs)→kvs.map (·.1)=ks.map Sum.inl→aF H (kvs.map (·.2)) ds→Rep H (V.ref a) (Dm.Dat.dct ks ds)
 | exc {a:Addr} {C:Nat}:H a=some (.ext fun h=>∃ o,h.get? a=some o∧o.cls=.ref C)→Rep H (V.ref a) (Dm.Dat.exc C)
 | fn (a:Addr):Rep H (V.ref a) (Dm.Dat.fn a)
inductive aF (H:Hp):List V→List Dm.Dat→Prop
 | nil:aF H [] []
 | cons {v:V} {d:Dm.Dat} {vs:List V} {ds:List Dm.Dat}:Rep H v d→aF H vs ds→aF H (v::vs) (d::ds)
end
theorem aj.rd {H H':Hp} (s:aj H H') {a:Addr} {u:HO} (h:Rd H a u):Rd H' a u:=by
 rcases h with h | ⟨o,h⟩
 ·exact .inl (s _ _ h)
 ·exact .inr ⟨o,s _ _ h⟩
mutual
theorem Rep.mono {H H':Hp} (s:aj H H'):∀ {v:V} {d:Dm.Dat},Rep H v d→Rep H' v d
 | _,_,.non=>.non
 | _,_,.bl b=>.bl b
 | _,_,.int i=>.int i
 | _,_,.str x=>.str x
 | _,_,.tup h r=>.tup (s _ _ h) (aF.mono s r)
 | _,_,.lst h r=>.lst (aj.rd s h) (aF.mono s r)
 | _,_,.dct h e r=>.dct (s _ _ h) e (aF.mono s r)
 | _,_,.exc h=>.exc (s _ _ h)
 | _,_,.fn a=>.fn a
theorem aF.mono {H H':Hp} (s:aj H H'):∀ {vs:List V} {ds:List Dm.Dat},aF H vs ds→aF H' vs ds
 | _,_,.nil=>.nil
 | _,_,.cons h r=>.cons (Rep.mono s h) (aF.mono s r)
end
theorem aF.length {H:Hp}:∀ {vs:List V} {ds:List Dm.Dat},aF H vs ds→vs.length=ds.length
 | _,_,.nil=>rfl
 | _,_,.cons _ r=>by simp [aF.length r]
theorem aF.get {H:Hp}:∀ {vs:List V} {ds:List Dm.Dat} {i:Nat} {d:Dm.Dat},aF H vs ds→ds[i]?=some d→∃ v,vs[i]?=some v∧Rep H v d
 | _,_,_,_,.nil,e=>by simp at e
 | _,_,0,_,.cons h _,e=>by simp at e;subst e;exact ⟨_,rfl,h⟩
 | _,_,i+1,_,.cons _ r,e=>by
  obtain ⟨v,h1,h2⟩:=aF.get (i:=i) r (by simpa using e)
  exact ⟨v,by simpa using h1,h2⟩
theorem aF.append {H:Hp}:∀ {vs ws:List V} {ds es:List Dm.Dat},aF H vs ds→aF H ws es→aF H (vs++ws) (ds++es)
 | _,_,_,_,.nil,s=>s
 | _,_,_,_,.cons h r,s=>.cons h (aF.append r s)
theorem aF.set {H:Hp} {v:V} {d:Dm.Dat} (h:Rep H v d):∀ {vs:List V} {ds:List Dm.Dat} (i:Nat),aF H vs ds→aF H (vs.set i v) (ds.set i d)
 | _,_,_,.nil=>.nil
 | _,_,0,.cons _ r=>.cons h r
 | _,_,i+1,.cons q r=>.cons q (aF.set h i r)
theorem aF.reverse {H:Hp}:∀ {vs:List V} {ds:List Dm.Dat},aF H vs ds→aF H vs.reverse ds.reverse
 | _,_,.nil=>.nil
 | _,_,.cons h r=>by
  rw [List.reverse_cons,List.reverse_cons]
  exact aF.append (aF.reverse r) (.cons h .nil)
theorem aF.rep {H:Hp} {vs:List V} {ds:List Dm.Dat} (r:aF H vs ds):∀ k:Nat,aF H (List.replicate k vs).flatten (List.replicate k ds).flatten
 | 0=>by simpa using aF.nil
 | k+1=>by
  rw [List.replicate_succ,List.replicate_succ,List.flatten_cons,List.flatten_cons]
  exact aF.append r (aF.rep r k)
noncomputable def Own (H0 H:Hp) (a:Addr):Dm.Dat→Prop
 | .lst ds=>∃ xs,H a=some (.lst xs)∧aF H0 xs ds
 | .dct ks ds=>∃ kvs:List (Key×V),H a=some (.dK kvs)∧kvs.map (·.1)=ks.map Sum.inl∧aF H0 (kvs.map (·.2)) ds
 | _=>False
theorem Own.some {H0 H:Hp} {a:Addr} {d:Dm.Dat} (h:Own H0 H a d):∃ o,H a=some o:=by
 cases d with
 | lst ds=>obtain ⟨xs,e,_⟩:=h;exact ⟨_,e⟩
 | dct ks ds=>obtain ⟨xs,e,_⟩:=h;exact ⟨_,e⟩
 | _=>exact False.elim h
theorem Own.mono {H0 H H0' H':Hp} {a:Addr} {d:Dm.Dat} (h:Own H0 H a d) (s:aj H0 H0') (e:H' a=H a):Own H0' H' a d:=by
 cases d with
 | lst ds=>obtain ⟨xs,q,r⟩:=h;exact ⟨xs,by rw [e];exact q,r.mono s⟩
 | dct ks ds=>obtain ⟨xs,q,k,r⟩:=h;exact ⟨xs,by rw [e];exact q,k,r.mono s⟩
 | _=>exact False.elim h
noncomputable def jo (H0 H:Hp) (v:V) (d:Dm.Dat):Prop:=Rep H0 v d∨∃ a,v=V.ref a∧Own H0 H a d
inductive oN (H0 H:Hp):List V→List Dm.Dat→Prop
 | nil:oN H0 H [] []
 | cons {v:V} {d:Dm.Dat} {vs:List V} {ds:List Dm.Dat}:jo H0 H v d→oN H0 H vs ds→oN H0 H (v::vs) (d::ds)
noncomputable def shr (H0 H:Hp) (a:Addr):Hp:=fun b=>if b=a then H a else H0 b
theorem cT {H0 H:Hp} {a:Addr}:shr H0 H a a=H a:=by unfold shr;rw [if_pos rfl]
theorem fD {H0 H:Hp} {a b:Addr} (h:b≠a):shr H0 H a b=H0 b:=by unfold shr;rw [if_neg h]
theorem gI {H0 H:Hp} {a:Addr} (h:H0 a=none):aj H0 (shr H0 H a):=fun b o e=>by
 by_cases q:b=a
 ·subst q;rw [h] at e;cases e
 ·rw [fD q];exact e
theorem tT {H0 H:Hp} {a:Addr} (s:aj H0 H):aj (shr H0 H a) H:=fun b o e=>by
 by_cases q:b=a
 ·subst q;rw [cT] at e;exact e
 ·rw [fD q] at e;exact s _ _ e
theorem Own.rep {H0 H:Hp} {a:Addr} {d:Dm.Dat} (h:Own H0 H a d) (n:H0 a=none):Rep (shr H0 H a) (V.ref a) d:=by
 cases d with
 | lst ds=>obtain ⟨xs,q,r⟩:=h;exact .lst (.inl (by rw [cT];exact q)) (r.mono (gI n))
 | dct ks ds=>obtain ⟨xs,q,k,r⟩:=h;exact .dct (by rw [cT];exact q) k (r.mono (gI n))
 | _=>exact False.elim h
noncomputable def ak (σ:St) (ρ:Dm.Env) (a:Addr):Prop:=∃ (i:Nat) (d:Dm.Dat),ρ[i]?=some (Dm.Cell.ow d)∧σ[i]?=some (some (V.ref a))
noncomputable abbrev Def (_:Dm.Env) (_:Nat):Prop:=True
structure az (H0 H:Hp) (σ:St) (ρ:Dm.Env):Prop where
 same:aj H0 H
 len:σ.length=ρ.length
 sh:∀ (i:Nat) (d:Dm.Dat),ρ[i]?=some (Dm.Cell.sh d)→∃ v,σ[i]?=some (some v)∧Rep H0 v d
 ow:∀ (i:Nat) (d:Dm.Dat),ρ[i]?=some (Dm.Cell.ow d)→∃ a,σ[i]?=some (some (V.ref a))∧H0 a=none∧Own H0 H a d
 dis:∀ (i j:Nat) (d e:Dm.Dat) (a:Addr),ρ[i]?=some (Dm.Cell.ow d)→ρ[j]?=some (Dm.Cell.ow e)→σ[i]?=some (some (V.ref a))→σ[j]?=some (some (V.ref a))→i=j
structure Stp (O:Addr→Prop) (H0 H H0' H':Hp):Prop where
 s0:aj H0 H0'
 s1:∀ a o,H a=some o→¬ O a→H' a=some o
 s2:∀ a o,H0' a=some o→H a=none∨H0 a=some o∨O a
 s3:∀ a o,H a=some o→∃ o',H' a=some o'
theorem Stp.refl (O:Addr→Prop) (H0 H:Hp):Stp O H0 H H0 H:=⟨aj.refl _,fun _ _ e _=>e,fun _ _ e=>.inr (.inl e),fun _ o e=>⟨o,e⟩⟩
theorem Stp.gone {O:Addr→Prop} {H0 H H0' H':Hp} (t:Stp O H0 H H0' H') {a:Addr} (h:H' a=none):H a=none:=by
 cases q:H a with
 | none=>rfl
 | some o=>obtain ⟨o',e⟩:=t.s3 a o q;rw [h] at e;cases e
theorem Stp.trans {O1 O2:Addr→Prop} {H0 H H1 H' H2 H'':Hp} (t:Stp O1 H0 H H1 H') (u:Stp O2 H1 H' H2 H'') (k:∀ a,O2 a→O1 a∨H a=none):Stp O1 H0 H H2 H'' where
 s0:=t.s0.trans u.s0
 s1:=fun a o e n=>u.s1 a o (t.s1 a o e n) fun z=>(k a z).elim n fun q=>by rw [q] at e;cases e
 s2:=fun a o e=>by
  rcases u.s2 a o e with q | q | q
  ·exact .inl (t.gone q)
  ·exact t.s2 a o q
  ·rcases k a q with z | z
   ·exact .inr (.inr z)
   ·exact .inl z
 s3:=fun a o e=>by
  obtain ⟨o',e'⟩:=t.s3 a o e
  exact u.s3 a o' e'
theorem Stp.wide {O O':Addr→Prop} {H0 H H0' H':Hp} (t:Stp O H0 H H0' H') (k:∀ a,O a→O' a):Stp O' H0 H H0' H':=
 ⟨t.s0,fun a o e n=>t.s1 a o e fun z=>n (k a z),fun a o e=>(t.s2 a o e).imp id (Or.imp id (k a)),t.s3⟩
structure aL (H0 H H0' H':Hp):Prop where
 s0:aj H0 H0'
 s1:aj H H'
 s2:∀ a o,H0' a=some o→H a=none∨H0 a=some o
 s3:aj H0' H'
theorem aL.refl {H0 H:Hp} (s:aj H0 H):aL H0 H H0 H:=⟨aj.refl _,aj.refl _,fun _ _ e=>.inr e,s⟩
theorem aL.stp {H0 H H0' H':Hp} (g:aL H0 H H0' H') (O:Addr→Prop):Stp O H0 H H0' H':=
 ⟨g.s0,fun a o e _=>g.s1 a o e,fun a o e=>(g.s2 a o e).imp id .inl,fun a o e=>⟨o,g.s1 a o e⟩⟩
theorem aL.D5 {H0 H:Hp} (s:aj H0 H) {p:Addr} {o:HO} (n:H p=none):aL H0 H (upd H0 p o) (upd H p o) where
 s0:=fun b u e=>by rw [av (aH e (s.free n))];exact e
 s1:=fun b u e=>by rw [av (aH e n)];exact e
 s2:=fun b u e=>by
  by_cases q:b=p
  ·subst q;exact .inl n
  ·rw [av q] at e;exact .inr e
 s3:=fun b u e=>by
  by_cases q:b=p
  ·subst q;rw [aD] at e ⊢;exact e
  ·rw [av q] at e ⊢;exact s _ _ e
theorem aL.ng {H0 H:Hp} (s:aj H0 H) {p:Addr} {o:HO} (n:H p=none):aL H0 H H0 (upd H p o) where
 s0:=aj.refl _
 s1:=fun b u e=>by rw [av (aH e n)];exact e
 s2:=fun b u e=>.inr e
 s3:=fun b u e=>by rw [av (aH (s _ _ e) n)];exact s _ _ e
noncomputable def dY (Hs H0 H:Hp) (σ:St) (ρ:Dm.Env) (v:V):Dm.Val→Prop
 | .val d=>Rep H0 v d
 | .slot i=>σ[i]?=some (some v)∧Def ρ i
 | .new d=>∃ a,v=V.ref a∧Hs a=none∧¬ ak σ ρ a∧H0 a=none∧Own H0 H a d
structure ESt (σ:St) (ρ:Dm.Env) (H0 H:Hp) (ρ':Dm.Env) (H0' H':Hp):Prop where
 st:az H0' H' σ ρ'
 stp:Stp (ak σ ρ) H0 H H0' H'
 own:∀ a,ak σ ρ' a→ak σ ρ a
 dfn:∀ i,Def ρ i→Def ρ' i
theorem ESt.refl {σ:St} {ρ:Dm.Env} {H0 H:Hp} (st:az H0 H σ ρ):ESt σ ρ H0 H ρ H0 H:=⟨st,Stp.refl _ _ _,fun _ z=>z,fun _ z=>z⟩
theorem ESt.trans {σ:St} {ρ ρ1 ρ2:Dm.Env} {H0 H H1 H' H2 H'':Hp} (t:ESt σ ρ H0 H ρ1 H1 H') (u:ESt σ ρ1 H1 H' ρ2 H2 H''):ESt σ ρ H0 H ρ2 H2 H'':=
 ⟨u.st,t.stp.trans u.stp fun a z=>.inl (t.own a z),fun a z=>t.own a (u.own a z),fun i z=>u.dfn i (t.dfn i z)⟩
theorem az.grow {σ:St} {ρ:Dm.Env} {H0 H H0' H':Hp} (st:az H0 H σ ρ) (g:aL H0 H H0' H'):az H0' H' σ ρ where
 same:=g.s3
 len:=st.len
 sh:=fun i d e=>by
  obtain ⟨v,q,r⟩:=st.sh i d e
  exact ⟨v,q,r.mono g.s0⟩
 ow:=fun i d e=>by
  obtain ⟨a,q,n,w⟩:=st.ow i d e
  obtain ⟨o,z⟩:=w.some
  refine ⟨a,q,?_,w.mono g.s0 ((g.s1 a o z).trans z.symm)⟩
  cases y:H0' a with
  | none=>rfl
  | some u=>
   rcases g.s2 a u y with k | k
   ·rw [z] at k;cases k
   ·rw [n] at k;cases k
 dis:=st.dis
theorem ESt.grow {σ:St} {ρ:Dm.Env} {H0 H H0' H':Hp} (st:az H0 H σ ρ) (g:aL H0 H H0' H'):ESt σ ρ H0 H ρ H0' H':=
 ⟨st.grow g,g.stp _,fun _ z=>z,fun _ z=>z⟩
theorem dY.mono {Hs H0 H H0' H':Hp} {σ:St} {ρ ρ':Dm.Env} {v:V} {x:Dm.Val} (r:dY Hs H0 H σ ρ v x) (t:ESt σ ρ H0 H ρ' H0' H'):dY Hs H0' H' σ ρ' v x:=by
 cases x with
 | val d=>exact Rep.mono t.stp.s0 r
 | slot i=>exact ⟨r.1,t.dfn i r.2⟩
 | new d=>
  obtain ⟨a,e,n,no,n0,w⟩:=r
  obtain ⟨o,z⟩:=w.some
  refine ⟨a,e,n,fun y=>no (t.own a y),?_,w.mono t.stp.s0 ((t.stp.s1 a o z no).trans z.symm)⟩
  cases y:H0' a with
  | none=>rfl
  | some u=>
   rcases t.stp.s2 a u y with k | k | k
   ·rw [z] at k;cases k
   ·rw [n0] at k;cases k
   ·exact absurd k no
theorem dY.early {Hs Hs' H0 H:Hp} {σ:St} {ρ:Dm.Env} {v:V} {x:Dm.Val} (r:dY Hs H0 H σ ρ v x) (k:∀ a,Hs a=none→Hs' a=none):dY Hs' H0 H σ ρ v x:=by
 cases x with
 | val d=>exact r
 | slot i=>exact r
 | new d=>obtain ⟨a,e,n,z⟩:=r;exact ⟨a,e,k a n,z⟩
theorem dY.look {Hs H0 H:Hp} {σ:St} {ρ:Dm.Env} {v:V} {x:Dm.Val} {d:Dm.Dat} (r:dY Hs H0 H σ ρ v x) (st:az H0 H σ ρ) (e:Dm.pk ρ x=some d):jo H0 H v d:=by
 cases x with
 | val d'=>cases e;exact .inl r
 | new d'=>
  cases e
  obtain ⟨a,e,_,_,_,w⟩:=r
  exact .inr ⟨a,e,w⟩
 | slot i=>
  obtain ⟨q,_⟩:=r
  unfold Dm.pk at e
  dsimp only at e
  split at e
  ·rename_i d' h
   cases e
   obtain ⟨a,z,_,w⟩:=st.ow i d h
   rw [q] at z
   cases z
   exact .inr ⟨a,rfl,w⟩
  ·rename_i d' h
   cases e
   obtain ⟨u,z,w⟩:=st.sh i d h
   rw [q] at z
   cases z
   exact .inl w
  ·cases e
noncomputable def rB (Hs H0 H:Hp) (v:V):Dm.RV→Prop
 | .val d=>Rep H0 v d
 | .new d=>∃ a,v=V.ref a∧Hs a=none∧H0 a=none∧Own H0 H a d
theorem rB.toV {H H0' H' H0:Hp} {σ:St} {ρ:Dm.Env} {v:V} {z:Dm.RV} (r:rB H H0' H' v z) (st:az H0 H σ ρ):dY H H0' H' σ ρ v z.bz:=by
 cases z with
 | val d=>exact r
 | new d=>
  obtain ⟨a,e,n,n0,w⟩:=r
  refine ⟨a,e,n,fun ⟨i,d',h1,h2⟩=>?_,n0,w⟩
  obtain ⟨a',q,_,w'⟩:=st.ow i d' h1
  rw [h2] at q
  cases q
  obtain ⟨o,z⟩:=w'.some
  rw [n] at z;cases z
noncomputable def tD (f:Dm.FE):TE:=fun σ H Q=>∃ H0 ρ x ρ',az H0 H σ ρ∧f ρ=some (x,ρ')∧∀ v H0' H',ESt σ ρ H0 H ρ' H0' H'→dY H H0' H' σ ρ' v x→Q v H'
noncomputable def tDT (f:Dm.FT):TT:=fun σ H Q=>∃ H0 ρ b ρ',az H0 H σ ρ∧f ρ=some (b,ρ')∧∀ H0' H',ESt σ ρ H0 H ρ' H0' H'→Q b H'
inductive cC (Hs H0 H:Hp) (σ:St) (ρ:Dm.Env):List V→List Dm.Val→Prop
 | nil:cC Hs H0 H σ ρ [] []
 | cons {v:V} {x:Dm.Val} {vs:List V} {xs:List Dm.Val}:dY Hs H0 H σ ρ v x→cC Hs H0 H σ ρ vs xs→cC Hs H0 H σ ρ (v::vs) (x::xs)
noncomputable def tDA (fs:List Dm.FE):TA:=fun σ H Q=>∃ H0 ρ xs ρ',az H0 H σ ρ∧Dm.eAs fs ρ=some (xs,ρ')∧∀ vs H0' H',ESt σ ρ H0 H ρ' H0' H'→cC H H0' H' σ ρ' vs xs→Q vs H'
noncomputable abbrev DE (X:Cx) (e:Expr) (f:Dm.FE):Prop:=PE X e (tD f)
noncomputable abbrev DT (X:Cx) (e:Expr) (f:Dm.FT):Prop:=PT X e (tDT f)
noncomputable abbrev DA (X:Cx) (es:List Expr) (fs:List Dm.FE):Prop:=PA X es (tDA fs)
theorem PE.weak {X:Cx} {e:Expr} {t t':TE} (h:PE X e t) (k:∀ σ H Q,t' σ H Q→t σ H Q):PE X e t':=fun pins s σ H Q I q=>h pins s σ H Q I (k σ H Q q)
theorem PT.weak {X:Cx} {e:Expr} {t t':TT} (h:PT X e t) (k:∀ σ H Q,t' σ H Q→t σ H Q):PT X e t':=fun pins s σ H Q I q=>h pins s σ H Q I (k σ H Q q)
theorem PA.weak {X:Cx} {es:List Expr} {t t':TA} (h:PA X es t) (k:∀ σ H Q,t' σ H Q→t σ H Q):PA X es t':=fun pos pins s σ H Q I q=>h pos pins s σ H Q I (k σ H Q q)
theorem PS.weak {X:Cx} {st:Stmt} {t t':TS} (h:PS X st t) (k:∀ D σ H,t' D σ H→t D σ H):PS X st t':=fun pins s σ H D I q=>h pins s σ H D I (k D σ H q)
theorem PSs.weak {X:Cx} {st:List Stmt} {t t':TS} (h:PSs X st t) (k:∀ D σ H,t' D σ H→t D σ H):PSs X st t':=fun pins s σ H D I q=>h pins s σ H D I (k D σ H q)
theorem cz {H0 H:Hp} {a:Addr} (s:aj H0 H):aj H0 (shr H0 H a):=fun b o e=>by
 by_cases q:b=a
 ·subst q;rw [cT];exact s _ _ e
 ·rw [fD q];exact e
theorem Own.GI {H0 H0c H:Hp} {a:Addr} {d:Dm.Dat} (h:Own H0 H a d) (b:aj H0 H0c) (s:aj H0c H):Rep (shr H0c H a) (V.ref a) d:=by
 cases d with
 | lst ds=>obtain ⟨xs,q,r⟩:=h;exact .lst (.inl (by rw [cT];exact q)) (r.mono (b.trans (cz s)))
 | dct ks ds=>obtain ⟨xs,q,k,r⟩:=h;exact .dct (by rw [cT];exact q) k (r.mono (b.trans (cz s)))
 | _=>exact False.elim h
theorem dY.rho {Hs H0 H:Hp} {σ:St} {ρ ρ':Dm.Env} {v:V} {x:Dm.Val} (r:dY Hs H0 H σ ρ v x) (o:∀ a,ak σ ρ' a→ak σ ρ a) (d:∀ i,Def ρ i→Def ρ' i):dY Hs H0 H σ ρ' v x:=by
 cases x with
 | val d=>exact r
 | slot i=>exact ⟨r.1,d i r.2⟩
 | new d=>obtain ⟨a,e,n,no,z⟩:=r;exact ⟨a,e,n,fun y=>no (o a y),z⟩
theorem cC.rho {Hs H0 H:Hp} {σ:St} {ρ ρ':Dm.Env} (o:∀ a,ak σ ρ' a→ak σ ρ a) (d:∀ i,Def ρ i→Def ρ' i):∀ {vs:List V} {xs:List Dm.Val},cC Hs H0 H σ ρ vs xs→cC Hs H0 H σ ρ' vs xs
 | _,_,.nil=>.nil
 | _,_,.cons h r=>.cons (h.rho o d) (cC.rho o d r)
theorem cC.early {Hs Hs' H0 H:Hp} {σ:St} {ρ:Dm.Env} (k:∀ a,Hs a=none→Hs' a=none):∀ {vs:List V} {xs:List Dm.Val},cC Hs H0 H σ ρ vs xs→cC Hs' H0 H σ ρ vs xs
 | _,_,.nil=>.nil
 | _,_,.cons h r=>.cons (h.early k) (cC.early k r)
theorem aM {ρ:Dm.Env} {i j:Nat} {c d:Dm.Cell} (h:(ρ.set i c)[j]?=some d):(j=i∧d=c)∨(j≠i∧ρ[j]?=some d):=by
 by_cases e:j=i
 ·subst e
  by_cases l:j<ρ.length
  ·rw [List.getElem?_set_self l] at h
   exact .inl ⟨rfl,(Option.some.inj h).symm⟩
  ·rw [List.getElem?_eq_none (by simpa using Nat.not_lt.mp l)] at h
   cases h
 ·rw [List.getElem?_set_ne (Ne.symm e)] at h
  exact .inr ⟨e,h⟩
theorem rC {H0 H:Hp} {σ:St} {ρ:Dm.Env} {i:Nat} {a:Addr} {d:Dm.Dat} (st:az H0 H σ ρ) (e:ρ[i]?=some (.ow d)) (q:σ[i]?=some (some (V.ref a))) :
  az (shr H0 H a) H σ (ρ.set i (.sh d))∧(∀ b,ak σ (ρ.set i (.sh d)) b→ak σ ρ b)∧∀ j,Def ρ j→Def (ρ.set i (.sh d)) j:=by
 obtain ⟨a',q',n,w⟩:=st.ow i d e
 rw [q] at q'
 cases q'
 have hil:i<ρ.length:=(List.getElem?_eq_some_iff.mp e).1
 refine ⟨⟨tT st.same,by rw [List.length_set];exact st.len,fun j d' h=>?_,fun j d' h=>?_,fun j k d1 d2 b h1 h2 h3 h4=>?_⟩,fun b ⟨j,d',h1,h2⟩=>?_,fun j h=>?_⟩
 ·rcases aM h with ⟨rfl,z⟩ | ⟨_,h⟩
  ·cases z
   exact ⟨_,q,w.rep n⟩
  ·obtain ⟨v,z,r⟩:=st.sh j d' h
   exact ⟨v,z,r.mono (gI n)⟩
 ·rcases aM h with ⟨_,z⟩ | ⟨hj,h⟩
  ·cases z
  ·obtain ⟨b,z,n',w'⟩:=st.ow j d' h
   have nb:b≠a:=fun y=>hj (st.dis j i d' d a h e (y▸z) q)
   exact ⟨b,z,by rw [fD nb];exact n',w'.mono (gI n) rfl⟩
 ·rcases aM h1 with ⟨_,z⟩ | ⟨_,h1⟩
  ·cases z
  ·rcases aM h2 with ⟨_,z⟩ | ⟨_,h2⟩
   ·cases z
   ·exact st.dis j k d1 d2 b h1 h2 h3 h4
 ·rcases aM h1 with ⟨_,z⟩ | ⟨_,h1⟩
  ·cases z
  ·exact ⟨j,d',h1,h2⟩
 ·trivial
theorem vC {H0 H:Hp} {σ:St} {ρ:Dm.Env} {a:Addr} (st:az H0 H σ ρ) (no:¬ ak σ ρ a):az (shr H0 H a) H σ ρ where
 same:=tT st.same
 len:=st.len
 sh:=fun j d h=>by
  obtain ⟨v,z,r⟩:=st.sh j d h
  exact ⟨v,z,r.mono (cz st.same)⟩
 ow:=fun j d h=>by
  obtain ⟨b,z,n',w'⟩:=st.ow j d h
  have nb:b≠a:=fun y=>no ⟨j,d,h,y▸z⟩
  exact ⟨b,z,by rw [fD nb];exact n',w'.mono (cz st.same) rfl⟩
 dis:=st.dis
theorem take1 {Hs H0s H0 H0c H:Hp} {σ:St} {ρs ρ ρ':Dm.Env} {v:V} {x:Dm.Val} {d:Dm.Dat} (t:ESt σ ρs H0s Hs ρ H0c H) (b:aj H0 H0c) (r:dY Hs H0 H σ ρ v x) (e:Dm.tk ρ x=some (d,ρ')) :
  ∃ rD,ESt σ ρs H0s Hs ρ' rD H∧aj H0c rD∧Rep rD v d∧(∀ a,ak σ ρ' a→ak σ ρ a)∧∀ i,Def ρ i→Def ρ' i:=by
 cases x with
 | val d'=>cases e;exact ⟨H0c,t,aj.refl _,Rep.mono b r,fun _ z=>z,fun _ z=>z⟩
 | new d'=>
  cases e
  obtain ⟨a,e,n,no,n0,w⟩:=r
  subst e
  have ss:=cz (a:=a) t.st.same
  refine ⟨shr H0c H a,⟨vC t.st no,⟨t.stp.s0.trans ss,t.stp.s1,fun c o q=>?_,t.stp.s3⟩,t.own,t.dfn⟩,ss,w.GI b t.st.same,fun _ z=>z,fun _ z=>z⟩
  by_cases y:c=a
  ·subst y;exact .inl n
  ·rw [fD y] at q;exact t.stp.s2 c o q
 | slot i=>
  obtain ⟨q,_⟩:=r
  unfold Dm.tk at e
  dsimp only at e
  split at e
  ·rename_i d' h
   cases e
   obtain ⟨a,z,n,w⟩:=t.st.ow i _ h
   rw [q] at z
   cases z
   obtain ⟨s1,s2,s3⟩:=rC t.st h q
   have ss:=cz (a:=a) t.st.same
   refine ⟨shr H0c H a,⟨s1,⟨t.stp.s0.trans ss,t.stp.s1,fun c o q'=>?_,t.stp.s3⟩,fun b z=>t.own b (s2 b z),fun j z=>s3 j (t.dfn j z)⟩,ss,w.GI (aj.refl _) t.st.same,s2,s3⟩
   by_cases y:c=a
   ·subst y;exact .inr (.inr (t.own c ⟨i,_,h,q⟩))
   ·rw [fD y] at q';exact t.stp.s2 c o q'
  ·rename_i d' h
   cases e
   obtain ⟨u,z,w⟩:=t.st.sh i _ h
   rw [q] at z
   cases z
   exact ⟨H0c,t,aj.refl _,w,fun _ z=>z,fun _ z=>z⟩
  ·cases e
theorem takes {Hs H0s H0 H:Hp} {σ:St} {ρs:Dm.Env}:∀ {xs:List Dm.Val} {vs:List V} {ρ ρ':Dm.Env} {ds:List Dm.Dat} {H0c:Hp},ESt σ ρs H0s Hs ρ H0c H→aj H0 H0c→cC Hs H0 H σ ρ vs xs→Dm.tks ρ xs=some (ds,ρ') →
  ∃ rD,ESt σ ρs H0s Hs ρ' rD H∧aj H0c rD∧aF rD vs ds
 | [],_,ρ,ρ',ds,H0c,t,b,r,e=>by
  cases r
  cases e
  exact ⟨H0c,t,aj.refl _,.nil⟩
 | x::xs,_,ρ,ρ',ds,H0c,t,b,r,e=>by
  cases r with
  | cons h r=>
   unfold Dm.tks at e
   split at e
   ·cases e
   ·rename_i d ρ1 e1
    split at e
    ·cases e
    ·rename_i ds' ρ2 e2
     cases e
     obtain ⟨H1,t1,b1,r1,o1,d1⟩:=take1 t b h e1
     obtain ⟨H2,t2,b2,r2⟩:=takes t1 (b.trans b1) (r.rho o1 d1) e2
     exact ⟨H2,t2,b1.trans b2,.cons (r1.mono b2) r2⟩
theorem GJ {ρ ρ':Dm.Env} {x:Dm.Val} {d:Dm.Dat} (e:Dm.tk ρ x=some (d,ρ')) (y:Dm.Val):Dm.pk ρ' y=Dm.pk ρ y:=by
 cases x with
 | val d'=>cases e;rfl
 | new d'=>cases e;rfl
 | slot i=>
  unfold Dm.tk at e
  dsimp only at e
  split at e
  ·rename_i d' h
   cases e
   cases y with
   | val _=>rfl
   | new _=>rfl
   | slot j=>
    unfold Dm.pk
    dsimp only
    by_cases z:j=i
    ·subst z
     rw [List.getElem?_set_self (List.getElem?_eq_some_iff.mp h).1,h]
    ·rw [List.getElem?_set_ne (Ne.symm z)]
  ·cases e;rfl
  ·cases e
theorem xj {ρ:Dm.Env} {x:Dm.Val} {d:Dm.Dat} (e:Dm.pk ρ x=some d):∃ ρ',Dm.tk ρ x=some (d,ρ'):=by
 cases x with
 | val d'=>cases e;exact ⟨ρ,rfl⟩
 | new d'=>cases e;exact ⟨ρ,rfl⟩
 | slot i=>
  unfold Dm.pk at e
  dsimp only at e
  unfold Dm.tk
  dsimp only
  split at e
  ·rename_i d' h;cases e;exact ⟨_,rfl⟩
  ·rename_i d' h;cases e;exact ⟨_,rfl⟩
  ·cases e
theorem jq:∀ {xs:List Dm.Val} {ρ:Dm.Env} {ds:List Dm.Dat},Dm.pks ρ xs=some ds→∃ ρ',Dm.tks ρ xs=some (ds,ρ')
 | [],ρ,ds,e=>by cases e;exact ⟨ρ,rfl⟩
 | x::xs,ρ,ds,e=>by
  unfold Dm.pks at e
  split at e
  ·cases e
  ·rename_i d e1
   split at e
   ·cases e
   ·rename_i ds' e2
    cases e
    obtain ⟨ρ1,h1⟩:=xj e1
    have key:∀ ys:List Dm.Val,Dm.pks ρ1 ys=Dm.pks ρ ys:=fun ys=>by
     induction ys with
     | nil=>rfl
     | cons y ys ih=>unfold Dm.pks;rw [GJ h1 y,ih]
    obtain ⟨ρ2,h2⟩:=jq (xs:=xs) (ρ:=ρ1) (ds:=ds') (by rw [key];exact e2)
    exact ⟨ρ2,by unfold Dm.tks;rw [h1];dsimp only;rw [h2]⟩
theorem looks {Hs H0 H:Hp} {σ:St} {ρ:Dm.Env} (st:az H0 H σ ρ):∀ {xs:List Dm.Val} {vs:List V} {ds:List Dm.Dat},cC Hs H0 H σ ρ vs xs→Dm.pks ρ xs=some ds→oN H0 H vs ds
 | [],_,ds,r,e=>by cases r;cases e;exact .nil
 | x::xs,_,ds,r,e=>by
  cases r with
  | cons h r=>
   unfold Dm.pks at e
   split at e
   ·cases e
   ·rename_i d e1
    split at e
    ·cases e
    ·rename_i ds' e2
     cases e
     exact .cons (h.look st e1) (looks st r e2)
noncomputable def OpD (r:R2) (g:Dm.Dat→Dm.Dat→Option Dm.RV):Prop:=∀ (H0 H:Hp) (x y:V) (dx dy:Dm.Dat) (z:Dm.RV) (Q:VK),aj H0 H→jo H0 H x dx→jo H0 H y dy→g dx dy=some z →
 (∀ v H0' H',aL H0 H H0' H'→rB H H0' H' v z→Q v H')→r x y H Q
noncomputable def UnD (r:V→Hp→VK→Prop) (g:Dm.Dat→Option Dm.RV):Prop:=∀ (H0 H:Hp) (x:V) (dx:Dm.Dat) (z:Dm.RV) (Q:VK),aj H0 H→jo H0 H x dx→g dx=some z →
 (∀ v H0' H',aL H0 H H0' H'→rB H H0' H' v z→Q v H')→r x H Q
noncomputable def CallD (r:List V→Hp→VK→Prop) (g:List Dm.Dat→Option Dm.RV):Prop:=∀ (H0 H:Hp) (vs:List V) (ds:List Dm.Dat) (z:Dm.RV) (Q:VK),aj H0 H→oN H0 H vs ds→g ds=some z →
 (∀ v H0' H',aL H0 H H0' H'→rB H H0' H' v z→Q v H')→r vs H Q
noncomputable def spD (f:List Dm.Dat→Option Dm.RV):Sp:=fun vs H Q _=>∃ H0 ds z,aj H0 H∧aF H0 vs ds∧f ds=some z∧∀ v H0' H',aL H0 H H0' H'→rB H H0' H' v z→Q v H'
section
variable {σ:St} {H:Hp} {Q:VK}
theorem GK {i:Nat} (h:tD (Dm.eV i) σ H Q):wF i σ H Q:=by
 obtain ⟨H0,ρ,x,ρ',st,e,k⟩:=h
 unfold Dm.eV at e
 split at e
 ·rename_i d h1
  cases e
  obtain ⟨v,q,r⟩:=st.sh i d h1
  exact ⟨v,q,k v H0 H (.refl st) r⟩
 ·rename_i d h1
  cases e
  obtain ⟨a,q,_⟩:=st.ow i d h1
  exact ⟨_,q,k _ H0 H (.refl st) ⟨q,trivial⟩⟩
 ·cases e
theorem ni {d:Dm.Dat} {v:V} (c:∀ H0:Hp,Rep H0 v d) (h:tD (Dm.eC d) σ H Q):tC v σ H Q:=by
 obtain ⟨H0,ρ,x,ρ',st,e,k⟩:=h
 cases e
 exact k v H0 H (.refl st) (c H0)
theorem AE {r:R2} {g:Dm.Dat→Dm.Dat→Option Dm.RV} {fa fb:Dm.FE} (o:OpD r g) (h:tD (Dm.e2 g fa fb) σ H Q):tOp r (tD fa) (tD fb) σ H Q:=by
 obtain ⟨H0,ρ,x,ρ',st,e,k⟩:=h
 unfold Dm.e2 at e
 split at e
 ·cases e
 rename_i x1 ρ1 e1
 split at e
 ·cases e
 rename_i y1 ρ2 e2
 split at e
 ·cases e
 rename_i dx p1
 split at e
 ·cases e
 rename_i dy p2
 split at e
 ·cases e
 rename_i z gz
 cases e
 refine ⟨H0,ρ,x1,ρ1,st,e1,fun v H1 Hb t1 r1=>⟨H1,ρ1,y1,_,t1.st,e2,fun u H2 Hc t2 r2=>?_⟩⟩
 refine o H2 Hc v u dx dy z Q t2.st.same ((r1.mono t2).look t2.st p1) (r2.look t2.st p2) gz fun w H3 Hd g3 r3=>?_
 exact k w H3 Hd (t1.trans (t2.trans (.grow t2.st g3))) ((r3.toV t2.st).early fun a n=>(t1.trans t2).stp.gone n)
theorem GL {r:V→Hp→VK→Prop} {g:Dm.Dat→Option Dm.RV} {fa:Dm.FE} (o:UnD r g) (h:tD (Dm.e1 g fa) σ H Q):tUn r (tD fa) σ H Q:=by
 obtain ⟨H0,ρ,x,ρ',st,e,k⟩:=h
 unfold Dm.e1 at e
 split at e
 ·cases e
 rename_i x1 ρ1 e1
 split at e
 ·cases e
 rename_i dx p1
 split at e
 ·cases e
 rename_i z gz
 cases e
 refine ⟨H0,ρ,x1,_,st,e1,fun v H1 Hb t1 r1=>?_⟩
 refine o H1 Hb v dx z Q t1.st.same (r1.look t1.st p1) gz fun w H3 Hd g3 r3=>?_
 exact k w H3 Hd (t1.trans (.grow t1.st g3)) ((r3.toV t1.st).early fun a n=>t1.stp.gone n)
theorem GN {Q:List V→Hp→Prop} (h:tDA [] σ H Q):rm σ H Q:=by
 obtain ⟨H0,ρ,xs,ρ',st,e,k⟩:=h
 cases e
 exact k [] H0 H (.refl st) .nil
theorem D6 {f:Dm.FE} {fs:List Dm.FE} {Q:List V→Hp→Prop} (h:tDA (f::fs) σ H Q):jj (tD f) (tDA fs) σ H Q:=by
 obtain ⟨H0,ρ,xs,ρ',st,e,k⟩:=h
 unfold Dm.eAs at e
 split at e
 ·cases e
 rename_i x1 ρ1 e1
 split at e
 ·cases e
 rename_i xs1 ρ2 e2
 cases e
 refine ⟨H0,ρ,x1,ρ1,st,e1,fun v H1 Hb t1 r1=>⟨H1,ρ1,xs1,_,t1.st,e2,fun vs H2 Hc t2 r2=>?_⟩⟩
 exact k (v::vs) H2 Hc (t1.trans t2) (.cons (r1.mono t2) (r2.early fun a n=>t1.stp.gone n))
theorem D7 {r:List V→Hp→VK→Prop} {g:List Dm.Dat→Option Dm.RV} {fs:List Dm.FE} (o:CallD r g) (h:tD (Dm.eB g fs) σ H Q):tCB r (tDA fs) σ H Q:=by
 obtain ⟨H0,ρ,x,ρ',st,e,k⟩:=h
 unfold Dm.eB at e
 split at e
 ·cases e
 rename_i xs ρ1 e1
 split at e
 ·cases e
 rename_i ds p1
 split at e
 ·cases e
 rename_i z gz
 cases e
 refine ⟨H0,ρ,xs,_,st,e1,fun vs H1 Hb t1 r1=>?_⟩
 refine o H1 Hb vs ds z Q t1.st.same (looks t1.st r1 p1) gz fun w H3 Hd g3 r3=>?_
 exact k w H3 Hd (t1.trans (.grow t1.st g3)) ((r3.toV t1.st).early fun a n=>t1.stp.gone n)
theorem jc {n:Nat} (h:n≤Dm.SZ):n≤sizeLine:=Nat.le_trans h (by decide)
theorem GO {fs:List Dm.FE} (h:tD (Dm.eU fs) σ H Q):GD (tDA fs) σ H Q:=by
 obtain ⟨H0,ρ,x,ρ',st,e,k⟩:=h
 unfold Dm.eU at e
 split at e
 ·cases e
 rename_i xs ρ1 e1
 split at e
 ·cases e
 rename_i ds ρ2 e2
 split at e
 ·rename_i hz
  cases e
  refine ⟨H0,ρ,xs,ρ1,st,e1,fun vs H1 Hb t1 r1=>?_⟩
  obtain ⟨H2,t2,b2,r2⟩:=takes t1 (aj.refl _) r1 e2
  refine ⟨by rw [r2.length];exact jc hz,fun p hp=>?_⟩
  have g:=aL.D5 (o:=HO.tup vs) t2.st.same hp
  exact k _ _ _ (t2.trans (.grow t2.st g)) (.tup aD (r2.mono g.s0))
 ·cases e
theorem GP {fs:List Dm.FE} (h:tD (Dm.eW fs) σ H Q):Ax (tDA fs) σ H Q:=by
 obtain ⟨H0,ρ,x,ρ',st,e,k⟩:=h
 unfold Dm.eW at e
 split at e
 ·cases e
 rename_i xs ρ1 e1
 split at e
 ·cases e
 rename_i ds ρ2 e2
 split at e
 ·rename_i hz
  cases e
  refine ⟨H0,ρ,xs,ρ1,st,e1,fun vs H1 Hb t1 r1=>?_⟩
  obtain ⟨H2,t2,b2,r2⟩:=takes t1 (aj.refl _) r1 e2
  refine ⟨by rw [r2.length];exact jc hz,fun p hp=>?_⟩
  have g:=aL.ng (o:=HO.lst vs) t2.st.same hp
  refine k _ _ _ (t2.trans (.grow t2.st g)) ⟨p,rfl,t2.stp.gone hp,fun ⟨i,d,h1,h2⟩=>?_,t2.st.same.free hp,vs,aD,r2⟩
  obtain ⟨a,q,_,w⟩:=t2.st.ow i d h1
  rw [h2] at q
  cases q
  obtain ⟨o,z⟩:=w.some
  rw [hp] at z;cases z
 ·cases e
theorem Rep.plain {H0 H1:Hp} {v:V} {d:Dm.Dat} (r:Rep H0 v d) (n:Dm.dW d=false):Rep H1 v d:=by
 cases r with
 | non=>exact .non
 | bl b=>exact .bl b
 | int i=>exact .int i
 | str s=>exact .str s
 | tup _ _=>cases n
 | lst _ _=>cases n
 | dct _ _ _=>cases n
 | exc _=>cases n
 | fn a=>exact .fn a
theorem Own.box {H0 H:Hp} {a:Addr} {d:Dm.Dat} (w:Own H0 H a d):Dm.dW d=true:=by
 cases d with
 | lst ds=>rfl
 | dct ks ds=>rfl
 | _=>exact False.elim w
theorem D8 {f:List Dm.Dat→Option Dm.RV} {fs:List Dm.FE} {E:XK} (h:tD (Dm.eF f fs) σ H Q):tO (spD f) [] E (tDA fs) σ H Q:=by
 obtain ⟨H0,ρ,x,ρ',st,e,k⟩:=h
 unfold Dm.eF at e
 split at e
 ·cases e
 rename_i xs ρ1 e1
 split at e
 ·cases e
 rename_i ds p1
 split at e
 ·cases e
 rename_i z fz
 refine ⟨H0,ρ,xs,ρ1,st,e1,fun vs H1 Hb t1 r1=>?_⟩
 dsimp only
 rw [List.append_nil]
 obtain ⟨ρ2,e2⟩:=jq p1
 obtain ⟨H2,t2,b2,r2⟩:=takes t1 (aj.refl _) r1 e2
 split at e
 ·rw [e2] at e
  cases e
  exact ⟨H2,ds,z,t2.st.same,r2,fz,fun w H3 Hd g3 r3=>k w H3 Hd (t2.trans (.grow t2.st g3)) ((r3.toV t2.st).early fun a n=>t2.stp.gone n)⟩
 ·rename_i nb
  cases e
  refine ⟨H2,ds,z,t2.st.same,r2,fz,fun w H3 Hd g3 r3=>?_⟩
  have g:aL H1 Hb H1 Hd:=⟨aj.refl _,g3.s1,fun a o q=>.inr q,t1.st.same.trans g3.s1⟩
  refine k w H1 Hd (t1.trans (.grow t1.st g)) ?_
  cases z with
  | val d=>exact Rep.plain r3 (by simpa [Dm.RV.dat] using nb)
  | new d=>
   obtain ⟨a,_,_,_,w⟩:=r3
   exact absurd w.box (by simpa [Dm.RV.dat] using nb)
theorem Jx {t:Dm.FT} {a b:Dm.FE} (h:tD (Dm.eIf t a b) σ H Q):tIf (tDT t) (tD a) (tD b) σ H Q:=by
 obtain ⟨H0,ρ,x,ρ',st,e,k⟩:=h
 unfold Dm.eIf at e
 split at e
 ·cases e
 ·rename_i ρ1 e1
  refine ⟨H0,ρ,true,ρ1,st,e1,fun H1 Hb t1=>?_⟩
  dsimp only
  rw [if_pos rfl]
  exact ⟨H1,ρ1,x,ρ',t1.st,e,fun v H2 Hc t2 r2=>k v H2 Hc (t1.trans t2) (r2.early fun a n=>t1.stp.gone n)⟩
 ·rename_i ρ1 e1
  refine ⟨H0,ρ,false,ρ1,st,e1,fun H1 Hb t1=>?_⟩
  dsimp only
  rw [if_neg Bool.false_ne_true]
  exact ⟨H1,ρ1,x,ρ',t1.st,e,fun v H2 Hc t2 r2=>k v H2 Hc (t1.trans t2) (r2.early fun a n=>t1.stp.gone n)⟩
theorem Rep.nj {H0:Hp} {v:V} {c:Bool} (r:Rep H0 v (.bl c)):v=.bl c:=by cases r;rfl
theorem Rep.isInt {H0:Hp} {v:V} {c:Int} (r:Rep H0 v (.int c)):v=.int c:=by cases r;rfl
theorem GQ {a b:Dm.FE} (h:tD (Dm.ia a b) σ H Q):Ca (tD a) (tD b) σ H Q:=by
 obtain ⟨H0,ρ,x,ρ',st,e,k⟩:=h
 unfold Dm.ia at e
 split at e
 ·rename_i ρ1 e1
  refine ⟨H0,ρ,_,_,st,e1,fun v H1 Hb t1 r1=>⟨true,Rep.nj r1,?_⟩⟩
  try dsimp only
  rw [if_pos rfl]
  exact ⟨H1,ρ1,x,ρ',t1.st,e,fun v H2 Hc t2 r2=>k v H2 Hc (t1.trans t2) (r2.early fun a n=>t1.stp.gone n)⟩
 ·rename_i ρ1 e1
  cases e
  refine ⟨H0,ρ,_,_,st,e1,fun v H1 Hb t1 r1=>⟨false,Rep.nj r1,?_⟩⟩
  try dsimp only
  rw [if_neg Bool.false_ne_true]
  exact k _ H1 Hb t1 (Rep.bl false)
 ·cases e
theorem GR {a:Dm.FE} (h:tD (Dm.AB a) σ H Q):Cb (tD a) σ H Q:=by
 obtain ⟨H0,ρ,x,ρ',st,e,k⟩:=h
 unfold Dm.AB at e
 split at e
 ·rename_i c ρ1 e1
  cases e
  exact ⟨H0,ρ,_,_,st,e1,fun v H1 Hb t1 r1=>⟨c,Rep.nj r1,k _ H1 Hb t1 (Rep.bl (!c))⟩⟩
 ·cases e
variable {Qt:Bool→Hp→Prop}
theorem xm {a:Dm.FE} (h:tDT (Dm.tV a) σ H Qt):Cj (tD a) σ H Qt:=by
 obtain ⟨H0,ρ,x,ρ',st,e,k⟩:=h
 unfold Dm.tV at e
 split at e
 ·rename_i c ρ1 e1
  cases e
  exact ⟨H0,ρ,_,_,st,e1,fun v H1 Hb t1 r1=>⟨_,Rep.nj r1,k H1 Hb t1⟩⟩
 ·cases e
theorem D9 {t:Dm.FT} (h:tDT (Dm.dc t) σ H Qt):dc (tDT t) σ H Qt:=by
 obtain ⟨H0,ρ,x,ρ',st,e,k⟩:=h
 unfold Dm.dc at e
 split at e
 ·rename_i c ρ1 e1
  cases e
  exact ⟨H0,ρ,_,_,st,e1,fun H1 Hb t1=>k H1 Hb t1⟩
 ·cases e
theorem D_ {t u:Dm.FT} (h:tDT (Dm.jh t u) σ H Qt):jh (tDT t) (tDT u) σ H Qt:=by
 obtain ⟨H0,ρ,x,ρ',st,e,k⟩:=h
 unfold Dm.jh at e
 split at e
 ·rename_i ρ1 e1
  refine ⟨H0,ρ,_,ρ1,st,e1,fun H1 Hb t1=>?_⟩
  dsimp only
  rw [if_pos rfl]
  exact ⟨H1,ρ1,x,ρ',t1.st,e,fun H2 Hc t2=>k H2 Hc (t1.trans t2)⟩
 ·rename_i ρ1 e1
  cases e
  refine ⟨H0,ρ,_,_,st,e1,fun H1 Hb t1=>?_⟩
  dsimp only
  rw [if_neg Bool.false_ne_true]
  exact k H1 Hb t1
 ·cases e
theorem GS {t u:Dm.FT} (h:tDT (Dm.tOr t u) σ H Qt):tOr (tDT t) (tDT u) σ H Qt:=by
 obtain ⟨H0,ρ,x,ρ',st,e,k⟩:=h
 unfold Dm.tOr at e
 split at e
 ·rename_i ρ1 e1
  cases e
  refine ⟨H0,ρ,_,_,st,e1,fun H1 Hb t1=>?_⟩
  dsimp only
  rw [if_pos rfl]
  exact k H1 Hb t1
 ·rename_i ρ1 e1
  refine ⟨H0,ρ,_,ρ1,st,e1,fun H1 Hb t1=>?_⟩
  dsimp only
  rw [if_neg Bool.false_ne_true]
  exact ⟨H1,ρ1,x,ρ',t1.st,e,fun H2 Hc t2=>k H2 Hc (t1.trans t2)⟩
 ·cases e
end
structure SSt (σ:St) (ρ:Dm.Env) (H0 H:Hp) (σ':St) (ρ':Dm.Env) (H0' H':Hp):Prop where
 st:az H0' H' σ' ρ'
 stp:Stp (ak σ ρ) H0 H H0' H'
 own:∀ a,ak σ' ρ' a→ak σ ρ a∨H a=none
 fx:σ'[0]?=σ[0]?
theorem ESt.sst {σ:St} {ρ ρ':Dm.Env} {H0 H H0' H':Hp} (t:ESt σ ρ H0 H ρ' H0' H'):SSt σ ρ H0 H σ ρ' H0' H':=⟨t.st,t.stp,fun a z=>.inl (t.own a z),rfl⟩
theorem SSt.refl {σ:St} {ρ:Dm.Env} {H0 H:Hp} (st:az H0 H σ ρ):SSt σ ρ H0 H σ ρ H0 H:=(ESt.refl st).sst
theorem SSt.trans {σ σ1 σ2:St} {ρ ρ1 ρ2:Dm.Env} {H0 H H1 H' H2 H'':Hp} (t:SSt σ ρ H0 H σ1 ρ1 H1 H') (u:SSt σ1 ρ1 H1 H' σ2 ρ2 H2 H''):SSt σ ρ H0 H σ2 ρ2 H2 H'':=
 ⟨u.st,t.stp.trans u.stp t.own,fun a z=>(u.own a z).elim (t.own a) fun n=>.inr (t.stp.gone n),u.fx.trans t.fx⟩
noncomputable def GU (σ:St) (ρ:Dm.Env) (H H0' H':Hp) (v:V):Dm.RV→Prop
 | .val d=>Rep H0' v d
 | .new d=>∃ a,v=V.ref a∧(H a=none∨ak σ ρ a)∧H0' a=none∧Own H0' H' a d
noncomputable def l0 (D:Ends) (σ:St) (ρ:Dm.Env) (H0 H:Hp):Dm.Out→Prop
 | .nx ρ'=>∀ σ' H0' H',SSt σ ρ H0 H σ' ρ' H0' H'→D.nx σ' H'
 | .bk ρ'=>∀ σ' H0' H',SSt σ ρ H0 H σ' ρ' H0' H'→D.bk σ' H'
 | .ct ρ'=>∀ σ' H0' H',SSt σ ρ H0 H σ' ρ' H0' H'→D.ct σ' H'
 | .ret z ρ'=>∀ σ' v H0' H',SSt σ ρ H0 H σ' ρ' H0' H'→GU σ ρ H H0' H' v z→(∀ d a,z=.new d→v=.ref a→¬ ak σ' ρ' a)→D.rt v H'
noncomputable def tDS (g:Dm.FS):TS:=fun D σ H=>∃ H0 ρ o,az H0 H σ ρ∧g ρ=some o∧l0 D σ ρ H0 H o
theorem l0.pre {D:Ends} {σ σ1:St} {ρ ρ1:Dm.Env} {H0 H H1 H':Hp} {o:Dm.Out} (t:SSt σ ρ H0 H σ1 ρ1 H1 H') (k:l0 D σ ρ H0 H o):l0 D σ1 ρ1 H1 H' o:=by
 cases o with
 | nx ρ'=>exact fun σ' H0' H' u=>k σ' H0' H' (t.trans u)
 | bk ρ'=>exact fun σ' H0' H' u=>k σ' H0' H' (t.trans u)
 | ct ρ'=>exact fun σ' H0' H' u=>k σ' H0' H' (t.trans u)
 | ret z ρ'=>
  refine fun σ' v H0' H'' u r no=>k σ' v H0' H'' (t.trans u) ?_ no
  cases z with
  | val d=>exact r
  | new d=>
   obtain ⟨a,e,n,n0,w⟩:=r
   refine ⟨a,e,?_,n0,w⟩
   rcases n with n | n
   ·exact .inl (t.stp.gone n)
   ·exact (t.own a n).symm
theorem az.mask {H0 H:Hp} {σ:L2.St} {ρ:Dm.Env} (st:az H0 H σ ρ) (i:Nat):az H0 H σ (ρ.set i .un) where
 same:=st.same
 len:=by rw [List.length_set];exact st.len
 sh:=fun j d h=>by
  by_cases q:i=j
  ·subst q;rw [List.getElem?_set] at h;simp only [if_true] at h;split at h<;>cases h
  ·rw [List.getElem?_set_ne q] at h;exact st.sh j d h
 ow:=fun j d h=>by
  by_cases q:i=j
  ·subst q;rw [List.getElem?_set] at h;simp only [if_true] at h;split at h<;>cases h
  ·rw [List.getElem?_set_ne q] at h;exact st.ow j d h
 dis:=fun j j' d d' a h1 h2 h3 h4=>by
  by_cases q:i=j
  ·subst q;rw [List.getElem?_set] at h1;simp only [if_true] at h1;split at h1<;>cases h1
  ·by_cases q':i=j'
   ·subst q';rw [List.getElem?_set] at h2;simp only [if_true] at h2;split at h2<;>cases h2
   ·rw [List.getElem?_set_ne q] at h1
    rw [List.getElem?_set_ne q'] at h2
    exact st.dis j j' d d' a h1 h2 h3 h4
theorem bU {σ:L2.St} {ρ:Dm.Env} {i:Nat} {a:Addr} (h:ak σ (ρ.set i .un) a):∃ (j:Nat) (d:Dm.Dat),j≠i∧ρ[j]?=some (Dm.Cell.ow d)∧σ[j]?=some (some (V.ref a)):=by
 obtain ⟨j,d,h1,h2⟩:=h
 by_cases q:i=j
 ·subst q;rw [List.getElem?_set] at h1;simp only [if_true] at h1;split at h1<;>cases h1
 ·rw [List.getElem?_set_ne q] at h1;exact ⟨j,d,fun z=>q z.symm,h1,h2⟩
section
variable {D:Ends} {σ:St} {H:Hp}
theorem Jy (h:tDS Dm.sNx D σ H):wI D σ H:=by
 obtain ⟨H0,ρ,o,st,e,k⟩:=h
 cases e
 exact k σ H0 H (.refl st)
theorem Jz (h:tDS Dm.sBk D σ H):wK D σ H:=by
 obtain ⟨H0,ρ,o,st,e,k⟩:=h
 cases e
 exact k σ H0 H (.refl st)
theorem GV {s u:Dm.FS} (h:tDS (Dm.aA s u) D σ H):wJ (tDS s) (tDS u) D σ H:=by
 obtain ⟨H0,ρ,o,st,e,k⟩:=h
 unfold Dm.aA at e
 split at e
 ·rename_i ρ1 e1
  exact ⟨H0,ρ,.nx ρ1,st,e1,fun σ' H0' H' t=>⟨H0',ρ1,o,t.st,e,k.pre t⟩⟩
 ·rename_i h1
  cases o with
  | nx ρ1=>exact absurd e (h1 ρ1)
  | bk ρ1=>exact ⟨H0,ρ,_,st,e,k⟩
  | ct ρ1=>exact ⟨H0,ρ,_,st,e,k⟩
  | ret z ρ1=>exact ⟨H0,ρ,_,st,e,k⟩
theorem Ea {f:Dm.FE} (h:tDS (Dm.sE f) D σ H):tL (tD f) D σ H:=by
 obtain ⟨H0,ρ,o,st,e,k⟩:=h
 unfold Dm.sE at e
 split at e
 ·cases e
 ·rename_i x ρ1 e1
  cases e
  exact ⟨H0,ρ,x,ρ1,st,e1,fun v H0' H' t r=>k σ H0' H' t.sst⟩
theorem GW {f:Dm.FE} (h:tDS (Dm.sR f) D σ H):Gv (tD f) D σ H:=by
 obtain ⟨H0,ρ,o,st,e,k⟩:=h
 unfold Dm.sR at e
 split at e
 ·cases e
 ·rename_i d ρ1 e1
  cases e
  refine ⟨H0,ρ,_,ρ1,st,e1,fun v H0' H' t r=>?_⟩
  obtain ⟨a,e,n,no,n0,w⟩:=r
  exact k σ v H0' H' t.sst ⟨a,e,.inl n,n0,w⟩ fun d' a' _ e' z=>by
   rw [e] at e'
   cases e'
   exact no z
 ·rename_i d ρ1 e1
  cases e
  exact ⟨H0,ρ,_,ρ1,st,e1,fun v H0' H' t r=>k σ v H0' H' t.sst r fun d' a' z=>by cases z⟩
 ·rename_i i ρ1 e1
  split at e
  ·rename_i d h1
   cases e
   refine ⟨H0,ρ,_,ρ1,st,e1,fun v H0' H' t r=>?_⟩
   obtain ⟨q,_⟩:=r
   obtain ⟨a,q',n0,w⟩:=t.st.ow i d h1
   rw [q] at q'
   cases q'
   refine k σ _ H0' H' ⟨t.st.mask i,t.stp,fun b z=>?_,rfl⟩ ⟨a,rfl,.inr (t.own a ⟨i,d,h1,q⟩),n0,w⟩ fun d' a' _ e' z=>?_
   ·obtain ⟨j,d2,_,z1,z2⟩:=bU z
    exact .inl (t.own b ⟨j,d2,z1,z2⟩)
   ·cases e'
    obtain ⟨j,d2,hj,z1,z2⟩:=bU z
    exact hj (t.st.dis j i d2 d a z1 h1 z2 q)
  ·rename_i d h1
   cases e
   refine ⟨H0,ρ,_,ρ1,st,e1,fun v H0' H' t r=>?_⟩
   obtain ⟨q,_⟩:=r
   obtain ⟨u,q',w⟩:=t.st.sh i d h1
   rw [q] at q'
   cases q'
   exact k σ _ H0' H' t.sst w fun d' a' z=>by cases z
  ·cases e
theorem GX {t:Dm.FT} {a b:Dm.FS} (h:tDS (Dm.sIf t a b) D σ H):Dy (tDT t) (tDS a) (tDS b) D σ H:=by
 obtain ⟨H0,ρ,o,st,e,k⟩:=h
 unfold Dm.sIf at e
 split at e
 ·cases e
 ·rename_i ρ1 e1
  refine ⟨H0,ρ,true,ρ1,st,e1,fun H1 Hb t1=>?_⟩
  dsimp only
  rw [if_pos rfl]
  exact ⟨H1,ρ1,o,t1.st,e,k.pre t1.sst⟩
 ·rename_i ρ1 e1
  refine ⟨H0,ρ,false,ρ1,st,e1,fun H1 Hb t1=>?_⟩
  dsimp only
  rw [if_neg Bool.false_ne_true]
  exact ⟨H1,ρ1,o,t1.st,e,k.pre t1.sst⟩
end
theorem dZ {σ:St} {i j:Nat} {c d:Option V} (h:(σ.set i c)[j]?=some d):(j=i∧d=c)∨(j≠i∧σ[j]?=some d):=by
 by_cases e:j=i
 ·subst e
  by_cases l:j<σ.length
  ·rw [List.getElem?_set_self l] at h
   exact .inl ⟨rfl,(Option.some.inj h).symm⟩
  ·rw [List.getElem?_eq_none (by simpa using Nat.not_lt.mp l)] at h
   cases h
 ·rw [List.getElem?_set_ne (Ne.symm e)] at h
  exact .inr ⟨e,h⟩
theorem az.inσ {H0 H:Hp} {σ:St} {ρ:Dm.Env} {i:Nat} {c d:Dm.Cell} (st:az H0 H σ ρ) (h:(ρ.set i c)[i]?=some d):i<σ.length:=by
 have:=(List.getElem?_eq_some_iff.mp h).1
 rw [List.length_set] at this
 rw [st.len];exact this
theorem cj {σ:St} {ρ:Dm.Env} {i:Nat} {v:V} {d:Dm.Dat} {b:Addr} (h:ak (σ.set i (some v)) (ρ.set i (.sh d)) b):ak σ ρ b:=by
 obtain ⟨j,d',h1,h2⟩:=h
 rcases aM h1 with ⟨_,z⟩ | ⟨hj,h1⟩
 ·cases z
 ·rcases dZ h2 with ⟨z,_⟩ | ⟨_,h2⟩
  ·exact absurd z hj
  ·exact ⟨j,d',h1,h2⟩
theorem az.nq {H0 H:Hp} {σ:St} {ρ:Dm.Env} {i:Nat} {v:V} {d:Dm.Dat} (st:az H0 H σ ρ) (r:Rep H0 v d):az H0 H (σ.set i (some v)) (ρ.set i (.sh d)) where
 same:=st.same
 len:=by rw [List.length_set,List.length_set];exact st.len
 sh:=fun j d' h=>by
  rcases aM h with ⟨rfl,z⟩ | ⟨hj,h'⟩
  ·cases z
   exact ⟨v,List.getElem?_set_self (st.inσ h),r⟩
  ·obtain ⟨u,q,w⟩:=st.sh j d' h'
   exact ⟨u,by rw [List.getElem?_set_ne (Ne.symm hj)];exact q,w⟩
 ow:=fun j d' h=>by
  rcases aM h with ⟨_,z⟩ | ⟨hj,h'⟩
  ·cases z
  ·obtain ⟨u,q,w⟩:=st.ow j d' h'
   exact ⟨u,by rw [List.getElem?_set_ne (Ne.symm hj)];exact q,w⟩
 dis:=fun j k d1 d2 b h1 h2 h3 h4=>by
  rcases aM h1 with ⟨_,z⟩ | ⟨hj,h1⟩
  ·cases z
  rcases aM h2 with ⟨_,z⟩ | ⟨hk,h2⟩
  ·cases z
  rw [List.getElem?_set_ne (Ne.symm hj)] at h3
  rw [List.getElem?_set_ne (Ne.symm hk)] at h4
  exact st.dis j k d1 d2 b h1 h2 h3 h4
theorem az.rE {H0 H:Hp} {σ:St} {ρ:Dm.Env} {i:Nat} {a:Addr} {d:Dm.Dat} (st:az H0 H σ ρ) (no:¬ ak σ ρ a) (n0:H0 a=none) (w:Own H0 H a d):az H0 H (σ.set i (some (.ref a))) (ρ.set i (.ow d)) where
 same:=st.same
 len:=by rw [List.length_set,List.length_set];exact st.len
 sh:=fun j d' h=>by
  rcases aM h with ⟨_,z⟩ | ⟨hj,h'⟩
  ·cases z
  ·obtain ⟨u,q,w⟩:=st.sh j d' h'
   exact ⟨u,by rw [List.getElem?_set_ne (Ne.symm hj)];exact q,w⟩
 ow:=fun j d' h=>by
  rcases aM h with ⟨rfl,z⟩ | ⟨hj,h'⟩
  ·cases z
   exact ⟨a,List.getElem?_set_self (st.inσ h),n0,w⟩
  ·obtain ⟨u,q,w⟩:=st.ow j d' h'
   exact ⟨u,by rw [List.getElem?_set_ne (Ne.symm hj)];exact q,w⟩
 dis:=fun j k d1 d2 b h1 h2 h3 h4=>by
  rcases aM h1 with ⟨e1,z1⟩ | ⟨hj,h1'⟩
  ·rcases aM h2 with ⟨e2,z2⟩ | ⟨hk,h2'⟩
   ·rw [e1,e2]
   ·rcases dZ h3 with ⟨_,z⟩ | ⟨z,_⟩
    ·cases z
     rw [List.getElem?_set_ne (Ne.symm hk)] at h4
     exact absurd ⟨k,d2,h2',h4⟩ no
    ·exact absurd e1 z
  ·rcases aM h2 with ⟨e2,z2⟩ | ⟨hk,h2'⟩
   ·rcases dZ h4 with ⟨_,z⟩ | ⟨z,_⟩
    ·cases z
     rw [List.getElem?_set_ne (Ne.symm hj)] at h3
     exact absurd ⟨j,d1,h1',h3⟩ no
    ·exact absurd e2 z
   ·rw [List.getElem?_set_ne (Ne.symm hj)] at h3
    rw [List.getElem?_set_ne (Ne.symm hk)] at h4
    exact st.dis j k d1 d2 b h1' h2' h3 h4
theorem ck {σ:St} {ρ:Dm.Env} {i:Nat} {a b:Addr} {d:Dm.Dat} (h:ak (σ.set i (some (.ref a))) (ρ.set i (.ow d)) b):b=a∨ak σ ρ b:=by
 obtain ⟨j,d',h1,h2⟩:=h
 rcases aM h1 with ⟨e,_⟩ | ⟨hj,h1⟩
 ·rcases dZ h2 with ⟨_,z⟩ | ⟨z,_⟩
  ·cases z;exact .inl rfl
  ·exact absurd e z
 ·rcases dZ h2 with ⟨z,_⟩ | ⟨_,h2⟩
  ·exact absurd z hj
  ·exact .inr ⟨j,d',h1,h2⟩
theorem az.write {H0 H:Hp} {σ:St} {ρ:Dm.Env} {i:Nat} {a:Addr} {d d':Dm.Dat} {o:HO} (st:az H0 H σ ρ) (e:ρ[i]?=some (.ow d)) (q:σ[i]?=some (some (V.ref a))) (w':Own H0 (upd H a o) a d') :
  az H0 (upd H a o) σ (ρ.set i (.ow d')):=by
 obtain ⟨a',q',n,w⟩:=st.ow i d e
 rw [q] at q'
 cases q'
 refine ⟨fun b u z=>?_,by rw [List.length_set];exact st.len,fun j d1 h=>?_,fun j d1 h=>?_,fun j k d1 d2 b h1 h2 h3 h4=>?_⟩
 ·rw [av (aH z n)];exact st.same _ _ z
 ·rcases aM h with ⟨_,z⟩ | ⟨hj,h'⟩
  ·cases z
  ·exact st.sh j d1 h'
 ·rcases aM h with ⟨rfl,z⟩ | ⟨hj,h'⟩
  ·cases z
   exact ⟨a,q,n,w'⟩
  ·obtain ⟨b,q1,n1,w1⟩:=st.ow j d1 h'
   have nb:b≠a:=fun y=>hj (st.dis j i d1 d a h' e (y▸q1) q)
   exact ⟨b,q1,n1,w1.mono (aj.refl _) (av nb)⟩
 ·have f:∀ {j:Nat} {d1:Dm.Dat},(ρ.set i (.ow d'))[j]?=some (.ow d1)→∃ d2,ρ[j]?=some (.ow d2):=fun {j d1} h=>by
   rcases aM h with ⟨rfl,_⟩ | ⟨_,h'⟩
   ·exact ⟨d,e⟩
   ·exact ⟨d1,h'⟩
  obtain ⟨x1,y1⟩:=f h1
  obtain ⟨x2,y2⟩:=f h2
  exact st.dis j k x1 x2 b y1 y2 h3 h4
theorem iO {σ:St} {ρ:Dm.Env} {i:Nat} {d d':Dm.Dat} {b:Addr} (e:ρ[i]?=some (.ow d)) (h:ak σ (ρ.set i (.ow d')) b):ak σ ρ b:=by
 obtain ⟨j,d1,h1,h2⟩:=h
 rcases aM h1 with ⟨rfl,_⟩ | ⟨_,h'⟩
 ·exact ⟨j,d,e,h2⟩
 ·exact ⟨j,d1,h',h2⟩
theorem Stp.write {σ:St} {ρ:Dm.Env} {H0 H:Hp} {a:Addr} {o:HO} (w:ak σ ρ a):Stp (ak σ ρ) H0 H H0 (upd H a o):=
 ⟨aj.refl _,fun b u e n=>by rw [av (show b≠a from fun z=>n (by rw [z];exact w))];exact e,fun b u e=>.inr (.inl e),fun b u e=>by
  by_cases z:b=a
  ·subst z;exact ⟨o,aD⟩
  ·exact ⟨u,by rw [av z];exact e⟩⟩
section
variable {D:Ends} {σ:St} {H:Hp}
theorem Co {i:Nat} {f:Dm.FE} (h:tDS (Dm.sA i f) D σ H):oB (tD f) (gD i) D σ H:=by
 obtain ⟨H0,ρ,o,st,e,k⟩:=h
 unfold Dm.sA at e
 split at e
 ·cases e
 rename_i hi0
 split at e
 ·cases e
 ·rename_i d ρ1 e1
  cases e
  refine ⟨H0,ρ,_,ρ1,st,e1,fun v H0' H' t r=>?_⟩
  obtain ⟨a,e,n,no,n0,w⟩:=r
  subst e
  refine k _ H0' H' ⟨t.st.rE no n0 w,t.stp,fun b z=>?_,List.getElem?_set_ne hi0⟩
  rcases ck z with rfl | z
  ·exact .inr n
  ·exact .inl (t.own b z)
 ·rename_i x ρ1 _ e1
  split at e
  ·cases e
  ·rename_i d ρ2 e2
   cases e
   refine ⟨H0,ρ,_,ρ1,st,e1,fun v H0' H' t r=>?_⟩
   obtain ⟨H1,t1,b1,r1,_,_⟩:=take1 t (aj.refl _) r e2
   exact k _ H1 H' ⟨t1.st.nq r1,t1.stp,fun b z=>.inl (t1.own b (cj z)),List.getElem?_set_ne hi0⟩
theorem tU {ρ:Dm.Env} {i:Nat} {d:Dm.Dat} {j:Nat} (h:Def ρ j):Def (ρ.set i (.sh d)) j:=trivial
noncomputable def cO:List Nat→TGs
 | []=>Gx
 | i::is=>Cd (gD i) (cO is)
theorem nt {H0 H:Hp} {Q:St→Hp→Prop}:∀ {is:List Nat} {xs:List V} {ds:List Dm.Dat} {σ:St} {ρ ρ':Dm.Env},az H0 H σ ρ→aF H0 xs ds→Dm.sets is ds ρ=some ρ' →
  (∀ σ',az H0 H σ' ρ'→(∀ a,ak σ' ρ' a→ak σ ρ a)→(∀ j,j∉is→σ'[j]?=σ[j]?)→(∀ j,Def ρ j→Def ρ' j)→σ'[0]?=σ[0]?→Q σ' H)→cO is xs σ H Q
 | [],_,[],σ,ρ,ρ',st,r,e,k=>by
  cases r
  cases e
  exact ⟨rfl,k σ st (fun _ z=>z) (fun _ _=>rfl) (fun _ z=>z) rfl⟩
 | i::is,_,d::ds,σ,ρ,ρ',st,r,e,k=>by
  cases r with
  | cons h r=>
   unfold Dm.sets at e
   split at e
   ·cases e
   rename_i hi0
   refine ⟨_,_,rfl,?_⟩
   refine nt (st.nq h) r e fun σ' st' o' n' d' f'=>k σ' st' (fun a z=>cj (o' a z)) (fun j hj=>?_) (fun j z=>d' j (tU z)) (f'.trans (List.getElem?_set_ne hi0))
   rw [n' j fun z=>hj (List.mem_cons_of_mem _ z)]
   exact List.getElem?_set_ne fun z=>hj (by rw [z];exact List.mem_cons_self)
 | [],_,_::_,_,_,_,_,_,e,_=>by cases e
 | _::_,_,[],_,_,_,_,_,e,_=>by cases e
theorem jr:∀ {is:List Nat} {ds:List Dm.Dat} {ρ ρ':Dm.Env},Dm.sets is ds ρ=some ρ'→ds.length=is.length
 | [],[],_,_,_=>rfl
 | i::is,_::ds,_,_,e=>by
  unfold Dm.sets at e
  split at e
  ·cases e
  ·simp [jr (is:=is) (ds:=ds) e]
 | [],_::_,_,_,e=>by cases e
 | _::_,[],_,_,e=>by cases e
noncomputable def BD (is:List Nat) (g:TG) (bd:Dm.FB):Prop:=∀ (H0 H:Hp) (σ:St) (ρ ρ':Dm.Env) (x:V) (d:Dm.Dat) (Q:St→Hp→Prop),az H0 H σ ρ→Rep H0 x d→bd d ρ=some ρ' →
 (∀ σ',az H0 H σ' ρ'→(∀ a,ak σ' ρ' a→ak σ ρ a)→(∀ j,j∉is→σ'[j]?=σ[j]?)→(∀ j,Def ρ j→Def ρ' j)→σ'[0]?=σ[0]?→Q σ' H)→g x σ H Q
theorem tW (i:Nat):BD [i] (gD i) (Dm.bN i):=by
 intro H0 H σ ρ ρ' x d Q st r e k
 unfold Dm.bN at e
 split at e
 ·cases e
 rename_i hi0
 cases e
 refine k _ (st.nq r) (fun a z=>cj z) (fun j hj=>?_) (fun j h=>tU h) (List.getElem?_set_ne hi0)
 exact List.getElem?_set_ne (fun z=>hj (by rw [z];exact List.mem_singleton.mpr rfl))
theorem xo {K:PySem.W.Frag} {is:List Nat} {n:Nat} {f:Dm.FE} (hn:is.length=n) (h:tDS (Dm.sU is f) D σ H):oB (tD f) (DC K n (cO is)) D σ H:=by
 obtain ⟨H0,ρ,o,st,e,k⟩:=h
 unfold Dm.sU at e
 split at e
 ·cases e
 ·rename_i x ρ1 e1
  split at e
  ·rename_i ds ρ2 e2
   split at e
   ·cases e
   ·rename_i ρ3 e3
    cases e
    refine ⟨H0,ρ,_,ρ1,st,e1,fun v H0' H' t r=>?_⟩
    obtain ⟨H1,t1,b1,r1,_,_⟩:=take1 t (aj.refl _) r e2
    cases r1 with
    | tup q rs=>
     refine ⟨_,_,rfl,SqT.of (t1.st.same _ _ q),by rw [rs.length,jr e3,hn],?_⟩
     exact nt t1.st rs e3 fun σ' st' o' _ _ f'=>k σ' H1 H' ⟨st',t1.stp,fun a z=>.inl (t1.own a (o' a z)),f'⟩
  ·cases e
theorem xq {K:PySem.W.Frag} (is:List Nat) {n:Nat} (hn:is.length=n):BD is (DC K n (cO is)) (Dm.bT is):=by
 intro H0 H σ ρ ρ' x d Q st r e k
 unfold Dm.bT at e
 split at e
 ·cases r with
  | tup q rs=>exact ⟨_,_,rfl,SqT.of (st.same _ _ q),by rw [rs.length,jr e,hn],nt st rs e k⟩
 ·cases e
theorem GY {K:PySem.W.Frag} {i:Nat} {f:Dm.FE} (h:tDS (Dm.m9 i f) D σ H):tL (tBM K "list" m8 (wF i) (tDA [f])) D σ H:=by
 obtain ⟨H0,ρ,o,st,e,k⟩:=h
 unfold Dm.m9 at e
 split at e
 ·rename_i ds0 h0
  obtain ⟨a0,q0,n0,w0⟩:=st.ow i _ h0
  refine ⟨_,q0,?_⟩
  split at e
  ·cases e
  rename_i x ρ1 e1
  split at e
  ·cases e
  rename_i d ρ2 e2
  split at e
  ·rename_i ds h2
   split at e
   ·rename_i hz
    cases e
    obtain ⟨xs0,y0,_⟩:=w0
    refine ⟨.inl ⟨rfl,xs0,.inl (.inl y0)⟩,?_⟩
    refine ⟨H0,ρ,[x],ρ1,st,by unfold Dm.eAs;rw [e1];rfl,fun vs H0' H' t r=>?_⟩
    cases r with
    | cons r rr=>
     cases rr
     obtain ⟨H1,t1,b1,r1,_,_⟩:=take1 t (aj.refl _) r e2
     obtain ⟨a,q,n,w⟩:=t1.st.ow i _ h2
     rw [q0] at q
     cases q
     obtain ⟨xs,y,rs⟩:=w
     refine ⟨a0,xs,_,rfl,rfl,y,by rw [rs.length];exact Nat.lt_of_lt_of_le hz (by decide),?_⟩
     have ow:ak σ ρ2 a0:=⟨i,_,h2,q0⟩
     refine k σ H1 _ ⟨t1.st.write h2 q0 ⟨_,aD,rs.append (.cons r1 .nil)⟩,t1.stp.trans (Stp.write ow) fun b z=>.inl (t1.own b z),fun b z=>.inl (t1.own b (iO h2 z)),rfl⟩
   ·cases e
  ·cases e
 ·cases e
theorem Eb (n:Nat) (i:Int):Dm.ixN n i=L2.ixN n i:=rfl
theorem GZ {i:Nat} {j f:Dm.FE} (h:tDS (Dm.oK i j f) D σ H):oB (tD f) (g9 (wF i) (tD j) Cm) D σ H:=by
 obtain ⟨H0,ρ,o,st,e,k⟩:=h
 unfold Dm.oK at e
 split at e
 ·cases e
 rename_i x ρ1 e1
 split at e
 ·cases e
 rename_i d ρ2 e2
 split at e
 case h_2=>cases e
 rename_i d0 h2
 split at e
 ·rename_i m ρ3 e3
  split at e
  ·rename_i ds h3
   split at e
   ·cases e
   ·rename_i p e4
    cases e
    refine ⟨H0,ρ,_,ρ1,st,e1,fun v H0' H' t r=>?_⟩
    obtain ⟨H1,t1,b1,r1,_,_⟩:=take1 t (aj.refl _) r e2
    obtain ⟨a0,q0,_,_⟩:=t1.st.ow i _ h2
    refine ⟨_,q0,H1,ρ2,_,ρ3,t1.st,e3,fun u H2 Hc t2 r2=>?_⟩
    obtain ⟨a,q,n,w⟩:=t2.st.ow i _ h3
    rw [q0] at q
    cases q
    obtain ⟨xs,y,rs⟩:=w
    refine ⟨a0,xs,m,p,rfl,Rep.isInt r2,y,by rw [rs.length];exact e4,?_⟩
    have ow:ak σ ρ3 a0:=⟨i,_,h3,q0⟩
    have tt:=t1.trans t2
    refine k σ H2 _ ⟨t2.st.write h3 q0 ⟨_,aD,rs.set (r1.mono t2.stp.s0) p⟩,tt.stp.trans (Stp.write ow) fun b z=>.inl (tt.own b z),fun b z=>.inl (tt.own b (iO h3 z)),rfl⟩
  ·cases e
 ·cases e
noncomputable def JW (J:It) (H00:Hp) (ys:List Dm.Dat):Prop:=∀ H0 H,aj H00 H0→aj H0 H→(∀ i,ys.length≤i→J.stop i H) ∧
 ∀ (i:Nat) (d:Dm.Dat),ys[i]?=some d→J.go i H∧∀ x H',J.yld i H x H'→∃ H0',aL H0 H H0' H'∧Rep H0' x d
noncomputable def tDI (fi:Dm.FI):TI:=fun σ H R=>∃ H0 ρ ys ρ',az H0 H σ ρ∧fi ρ=some (ys,ρ')∧∀ J H0' H',ESt σ ρ H0 H ρ' H0' H'→JW J H0' ys→R J H'
theorem G0 {fi:Dm.FI} {bd:Dm.FB} {g:TG} {body:Dm.FS} {is:List Nat} (hb:BD is g bd) (h:tDS (Dm.fy fi bd body) D σ H):DG (tDI fi) g (tDS body) D σ H:=by
 obtain ⟨H0,ρ,o,st,e,k⟩:=h
 unfold Dm.fy at e
 split at e
 ·cases e
 rename_i ys ρ1 e1
 refine ⟨H0,ρ,ys,ρ1,st,e1,fun J H00 Hb t1 jw=>?_⟩
 refine ⟨fun i m σ H=>∃ H0 ρ o,az H0 H σ ρ∧aj H00 H0∧m=ys.length-i∧i≤ys.length∧Dm.ic bd body (ys.drop i) ρ=some o∧l0 D σ ρ H0 H o,
  ⟨ys.length,H00,ρ1,o,t1.st,aj.refl _,by simp,Nat.zero_le _,by simpa using e,k.pre t1.sst⟩,?_⟩
 rintro i m σ H ⟨H0,ρ,o,st,s00,rfl,hi,e,k⟩
 obtain ⟨js,jg⟩:=jw H0 H s00 st.same
 by_cases hlt:i<ys.length
 ·have hd:ys[i]?=some ys[i]:=by simp [hlt]
  obtain ⟨g1,g2⟩:=jg i ys[i] hd
  rw [List.drop_eq_getElem_cons hlt] at e
  unfold Dm.ic at e
  refine .inr ⟨g1,fun σ' H'=>∃ H0 ρ o,az H0 H' σ' ρ∧aj H00 H0∧Dm.ic bd body (ys.drop (i+1)) ρ=some o∧l0 D σ' ρ H0 H' o,?_,fun x H' y=>?_⟩
  ·rintro σ' H' ⟨H0',ρ',o',h1,h2,h3,h4⟩
   exact ⟨ys.length-(i+1),by omega,H0',ρ',o',h1,h2,rfl,hlt,h3,h4⟩
  ·obtain ⟨H0',gr,rx⟩:=g2 x H' y
   split at e
   ·cases e
   ·rename_i ρ2 e2
    have t2:=ESt.grow st gr
    refine hb H0' H' σ ρ ρ2 x ys[i] _ t2.st rx e2 fun σ2 st2 o2 _ _ f2=>?_
    have t3:SSt σ ρ H0 H σ2 ρ2 H0' H':=⟨st2,t2.stp,fun a z=>.inl (o2 a z),f2⟩
    have k3:=k.pre t3
    have s3:aj H00 H0':=s00.trans gr.s0
    split at e
    ·rename_i ρ3 e3
     exact ⟨H0',ρ2,_,st2,e3,fun σ4 H4 Hd t4=>⟨H4,ρ3,o,t4.st,s3.trans t4.stp.s0,e,k3.pre t4⟩⟩
    ·rename_i ρ3 e3
     exact ⟨H0',ρ2,_,st2,e3,fun σ4 H4 Hd t4=>⟨H4,ρ3,o,t4.st,s3.trans t4.stp.s0,e,k3.pre t4⟩⟩
    ·rename_i ρ3 e3
     cases e
     exact ⟨H0',ρ2,_,st2,e3,k3⟩
    ·rename_i v ρ3 e3
     cases e
     exact ⟨H0',ρ2,_,st2,e3,k3⟩
    ·cases e
 ·have e':i=ys.length:=by omega
  subst e'
  rw [List.drop_length] at e
  cases e
  exact .inl ⟨js _ (Nat.le_refl _),k σ H0 H (.refl st)⟩
theorem AF {K:PySem.W.Frag} {H0:Hp} {a:Addr} {xs:List V} {ds:List Dm.Dat} (hq:Rd H0 a (.lst xs)) (rs:aF H0 xs ds):JW (Itl K a) H0 ds:=by
 intro H0' H s0 s1
 have q:SqL K H a xs:=.inl (aj.rd s1 (aj.rd s0 hq))
 refine ⟨fun i hi=>⟨xs,q,by rw [rs.length];exact hi⟩,fun i d e=>?_⟩
 obtain ⟨v,hv,rv⟩:=rs.get e
 refine ⟨⟨xs,v,q,hv⟩,fun x H' y=>?_⟩
 obtain ⟨e1,y⟩:=y
 subst e1
 have z:=y xs q
 rw [hv] at z
 cases z
 exact ⟨H0',aL.refl s1,rv.mono s0⟩
theorem Ec {K:PySem.W.Frag} {H0:Hp} {a:Addr} {xs:List V} {ds:List Dm.Dat} (hq:H0 a=some (.tup xs)) (rs:aF H0 xs ds):JW (Itt K a) H0 ds:=by
 intro H0' H s0 s1
 have q:SqT K H a xs:=.inl (.inl (s1 _ _ (s0 _ _ hq)))
 refine ⟨fun i hi=>⟨xs,q,by rw [rs.length];exact hi⟩,fun i d e=>?_⟩
 obtain ⟨v,hv,rv⟩:=rs.get e
 refine ⟨⟨xs,v,q,hv⟩,fun x H' y=>?_⟩
 obtain ⟨e1,y⟩:=y
 subst e1
 have z:=y xs q
 rw [hv] at z
 cases z
 exact ⟨H0',aL.refl s1,rv.mono s0⟩
theorem oO {H0:Hp} {lo:Int} {n:Nat}:JW (Itr lo n) H0 (Dm.ups lo n):=by
 intro H0' H s0 s1
 have el:(Dm.ups lo n).length=n:=by simp [Dm.ups]
 refine ⟨fun i hi=>by rw [el] at hi;exact hi,fun i d e=>?_⟩
 have hi:i<n:=by have:=(List.getElem?_eq_some_iff.mp e).1;rw [el] at this;exact this
 have hd:d=.int (lo+i):=by
  unfold Dm.ups at e
  rw [List.getElem?_map,List.getElem?_range hi] at e
  exact (Option.some.inj e).symm
 refine ⟨hi,fun x H' y=>?_⟩
 obtain ⟨rfl,rfl⟩:=y
 subst hd
 exact ⟨H0',aL.refl s1,.int _⟩
variable {R:It→Hp→Prop}
theorem JA {K:PySem.W.Frag} {f:Dm.FE} (h:tDI (Dm.iL f) σ H R):oF K (tD f) σ H R:=by
 obtain ⟨H0,ρ,ys,ρ',st,e,k⟩:=h
 unfold Dm.iL at e
 split at e
 ·cases e
 rename_i x ρ1 e1
 split at e
 ·rename_i ds ρ2 e2
  cases e
  refine ⟨H0,ρ,_,ρ1,st,e1,fun v H0' H' t r=>?_⟩
  obtain ⟨H1,t1,b1,r1,_,_⟩:=take1 t (aj.refl _) r e2
  cases r1 with
  | lst q rs=>exact ⟨_,rfl,⟨_,.inl (aj.rd t1.st.same q)⟩,k _ H1 H' t1 (AF q rs)⟩
 ·cases e
theorem JB {K:PySem.W.Frag} {f:Dm.FE} (h:tDI (Dm.iT f) σ H R):wQ K (tD f) σ H R:=by
 obtain ⟨H0,ρ,ys,ρ',st,e,k⟩:=h
 unfold Dm.iT at e
 split at e
 ·cases e
 rename_i x ρ1 e1
 split at e
 ·rename_i ds ρ2 e2
  cases e
  refine ⟨H0,ρ,_,ρ1,st,e1,fun v H0' H' t r=>?_⟩
  obtain ⟨H1,t1,b1,r1,_,_⟩:=take1 t (aj.refl _) r e2
  cases r1 with
  | tup q rs=>exact ⟨_,rfl,⟨_,.inl (.inl (t1.st.same _ _ q))⟩,k _ H1 H' t1 (Ec q rs)⟩
 ·cases e
theorem G1 {f:Dm.FE} (h:tDI (Dm.iR1 f) σ H R):Ce (tDA [f]) σ H R:=by
 obtain ⟨H0,ρ,ys,ρ',st,e,k⟩:=h
 unfold Dm.iR1 at e
 split at e
 ·rename_i j ρ1 e1
  split at e
  ·rename_i hb
   cases e
   refine ⟨H0,ρ,[.val (.int j)],_,st,by unfold Dm.eAs;rw [e1];rfl,fun vs H0' H' t r=>?_⟩
   cases r with
   | cons r rr=>
    cases rr
    cases Rep.isInt r
    have h1:=hb.1
    have h2:=hb.2
    unfold Dm.BIG at h1 h2
    exact ⟨j,rfl,by omega,by omega,k _ H0' H' t oO⟩
  ·cases e
 ·cases e
theorem G3 {f g:Dm.FE} (h:tDI (Dm.iR2 f g) σ H R):Cf (tDA [f,g]) σ H R:=by
 obtain ⟨H0,ρ,ys,ρ',st,e,k⟩:=h
 unfold Dm.iR2 at e
 split at e
 ·rename_i i ρ1 e1
  split at e
  ·rename_i j ρ2 e2
   split at e
   ·rename_i hb
    cases e
    refine ⟨H0,ρ,[.val (.int i),.val (.int j)],_,st,by unfold Dm.eAs;rw [e1];dsimp only;unfold Dm.eAs;rw [e2];rfl,fun vs H0' H' t r=>?_⟩
    cases r with
    | cons r rr=>
     cases rr with
     | cons r' rr=>
      cases rr
      cases Rep.isInt r
      cases Rep.isInt r'
      obtain ⟨h1,h2,h3,h4⟩:=hb
      unfold Dm.BIG at h1 h2 h3 h4
      exact ⟨i,j,rfl,⟨by omega,by omega,by omega,by omega⟩,k _ H0' H' t oO⟩
   ·cases e
  ·cases e
 ·cases e
noncomputable def tLC (wi:TI) (own:Nat) (g:TG) (tt:TT) (te:TE):TE:=fun σ H Q=>wi σ H fun J H1=>∀ D,H1 D=none→∃ W:Nat→Nat→St→Hp→Prop,
 (∃ m,W 0 m (σ++List.replicate own none) (upd H1 D (.lst [])))∧∀ i m σ' H',W i m σ' H' →
  (J.stop i H'∧Q (.ref D) H')∨(J.go i H'∧∀ x H2,J.yld i H' x H2→g x σ' H2 fun σ2 H3=>tt σ2 H3 fun b H4=>if b=true
   then te σ2 H4 fun y H5=>∃ acc,H5 D=some (.lst acc)∧acc.length<sizeLine∧∃ m',m'<m∧W (i+1) m' σ2 (upd H5 D (.lst (acc++[y])))
   else ∃ m',m'<m∧W (i+1) m' σ2 H4)
theorem az.aside {H0 H:Hp} {σ:St} {ρ:Dm.Env} {a:Addr} {o:HO} (st:az H0 H σ ρ) (n0:H0 a=none) (no:¬ ak σ ρ a):az H0 (upd H a o) σ ρ where
 same:=fun b u z=>by rw [av (aH z n0)];exact st.same _ _ z
 len:=st.len
 sh:=st.sh
 ow:=fun j d h=>by
  obtain ⟨b,q,n,w⟩:=st.ow j d h
  have nb:b≠a:=fun y=>no ⟨j,d,h,y▸q⟩
  exact ⟨b,q,n,w.mono (aj.refl _) (av nb)⟩
 dis:=st.dis
theorem az.cU {H0 H:Hp} {σ:St} {ρ:Dm.Env} {a:Addr} (st:az H0 H σ ρ) (h:H a=none):¬ ak σ ρ a:=fun ⟨i,d,h1,h2⟩=>by
 obtain ⟨b,q,n,w⟩:=st.ow i d h1
 rw [h2] at q
 cases q
 obtain ⟨o,z⟩:=w.some
 rw [h] at z;cases z
theorem gJ {α:Type} {l:List α} {r:List α} {i:Nat} {x:α} (h:(l++r)[i]?=some x) (n:x∉r):i<l.length∧l[i]?=some x:=by
 by_cases hi:i<l.length
 ·rw [List.getElem?_append_left hi] at h
  exact ⟨hi,h⟩
 ·rw [List.getElem?_append_right (Nat.not_lt.mp hi)] at h
  exact absurd (List.mem_of_getElem? h) n
theorem xr {d:Dm.Dat} {k:Nat}:Dm.Cell.sh d∉List.replicate k Dm.Cell.un:=fun h=>by
 have:=List.eq_of_mem_replicate h
 cases this
theorem gK {d:Dm.Dat} {k:Nat}:Dm.Cell.ow d∉List.replicate k Dm.Cell.un:=fun h=>by
 have:=List.eq_of_mem_replicate h
 cases this
theorem az.ext {H0 H:Hp} {σ:St} {ρ:Dm.Env} (st:az H0 H σ ρ) (k:Nat):az H0 H (σ++List.replicate k none) (ρ++List.replicate k .un) where
 same:=st.same
 len:=by simp [st.len]
 sh:=fun i d h=>by
  obtain ⟨hi,h⟩:=gJ h xr
  obtain ⟨v,q,r⟩:=st.sh i d h
  exact ⟨v,by rw [List.getElem?_append_left (by rw [st.len];exact hi)];exact q,r⟩
 ow:=fun i d h=>by
  obtain ⟨hi,h⟩:=gJ h gK
  obtain ⟨v,q,r⟩:=st.ow i d h
  exact ⟨v,by rw [List.getElem?_append_left (by rw [st.len];exact hi)];exact q,r⟩
 dis:=fun i j d e a h1 h2 h3 h4=>by
  obtain ⟨hi,h1⟩:=gJ h1 gK
  obtain ⟨hj,h2⟩:=gJ h2 gK
  rw [List.getElem?_append_left (by rw [st.len];exact hi)] at h3
  rw [List.getElem?_append_left (by rw [st.len];exact hj)] at h4
  exact st.dis i j d e a h1 h2 h3 h4
theorem l6 {H0 H:Hp} {σ:St} {ρ:Dm.Env} (st:az H0 H σ ρ) {k:Nat} {a:Addr} (h:ak (σ++List.replicate k none) (ρ++List.replicate k .un) a):ak σ ρ a:=by
 obtain ⟨i,d,h1,h2⟩:=h
 obtain ⟨hi,h1⟩:=gJ h1 gK
 rw [List.getElem?_append_left (by rw [st.len];exact hi)] at h2
 exact ⟨i,d,h1,h2⟩
theorem Stp.aside {O:Addr→Prop} {H0 H H0' H':Hp} {D:Addr} {o:HO} (t:Stp O H0 H H0' H') (hD:H D=none):Stp O H0 H H0' (upd H' D o):=
 ⟨t.s0,fun a u e n=>by rw [av (aH e hD)];exact t.s1 a u e n,t.s2,fun a u e=>by rw [av (aH e hD)];exact t.s3 a u e⟩
theorem ESt.cV {σ:St} {ρ ρ':Dm.Env} {H0 H H0' H':Hp} (t:ESt σ ρ H0 H ρ' H0' H') {D:Addr} {o:HO} (h:H D=some o) (n0:H0 D=none) (no:¬ ak σ ρ D):H' D=some o∧H0' D=none∧¬ ak σ ρ' D:=by
 refine ⟨t.stp.s1 D o h no,?_,fun z=>no (t.own D z)⟩
 cases q:H0' D with
 | none=>rfl
 | some u=>
  rcases t.stp.s2 D u q with z | z | z
  ·rw [h] at z;cases z
  ·rw [n0] at z;cases z
  ·exact absurd z no
noncomputable def JWa (J:It) (H00:Hp) (pa:Option (Addr×HO)) (ys:List Dm.Dat):Prop:=∀ H0 H,aj H00 H0→aj H0 H→(∀ q,pa=some q→H q.1=some q.2)→(∀ i,ys.length≤i→J.stop i H) ∧
 ∀ (i:Nat) (d:Dm.Dat),ys[i]?=some d→J.go i H∧∀ x H',J.yld i H x H'→∃ H0',aL H0 H H0' H'∧Rep H0' x d
theorem oQ {σ:St} {own:Nat} {bd:Dm.FB} {g:TG} {t:Dm.FT} {el:Dm.FE} {is:List Nat} {Q:VK} {H00 Hb:Hp} {ρ1 ρ2:Dm.Env} {ds ys:List Dm.Dat} {J:It} {pa:Option (Addr×HO)} (hb:BD is g bd) (hl:∀ i∈is,σ.length≤i)
  (st1:az H00 Hb σ ρ1) (hp:∀ q,pa=some q→Hb q.1=some q.2∧H00 q.1=none∧¬ ak σ ρ1 q.1) (jw:JWa J H00 pa ds) (hsz:ds.length≤Dm.SZ) (e2:Dm.cI bd t el ds (ρ1++List.replicate own .un) []=some (ys,ρ2))
  (k:∀ v H0' H',ESt σ ρ1 H00 Hb (ρ2.take ρ1.length) H0' H'→dY Hb H0' H' σ (ρ2.take ρ1.length) v (.new (.lst ys))→(∀ q,pa=some q→H' q.1=some q.2∧H0' q.1=none)→Q v H') (D:Addr) (hD:Hb D=none) :
  ∃ W:Nat→Nat→St→Hp→Prop,(∃ m,W 0 m (σ++List.replicate own none) (upd Hb D (.lst [])))∧∀ i m σ' H',W i m σ' H' →
  (J.stop i H'∧Q (.ref D) H')∨(J.go i H'∧∀ x H2,J.yld i H' x H2→g x σ' H2 fun σ2 H3=>tDT t σ2 H3 fun b H4=>if b=true
   then tD el σ2 H4 fun y H5=>∃ acc,H5 D=some (.lst acc)∧acc.length<sizeLine∧∃ m',m'<m∧W (i+1) m' σ2 (upd H5 D (.lst (acc++[y])))
   else ∃ m',m'<m∧W (i+1) m' σ2 H4):=by
 have hpD:∀ q,pa=some q→q.1≠D:=fun q e z=>by have:=(hp q e).1;rw [z,hD] at this;cases this
 have noD:¬ ak σ ρ1 D:=st1.cU hD
 refine ⟨fun i m σ' H'=>∃ (H0c:Hp) (ρc:Dm.Env) (vD:List Dm.Dat) (rF:List V),az H0c H' σ' ρc∧aj H00 H0c∧m=ds.length-i∧i≤ds.length∧Dm.cI bd t el (ds.drop i) ρc vD=some (ys,ρ2) ∧
  H' D=some (.lst rF)∧aF H0c rF vD∧H0c D=none∧vD.length≤i∧Stp (ak σ ρ1) H00 Hb H0c H'∧(∀ j,j<σ.length→σ'[j]?=σ[j]?)∧(∀ a,ak σ' ρc a→ak σ ρ1 a)∧(∀ j,Def ρ1 j→Def ρc j)∧(∀ q,pa=some q→H' q.1=some q.2∧H0c q.1=none∧¬ ak σ' ρc q.1),
  ⟨ds.length,H00,ρ1++List.replicate own .un,[],[],(st1.aside (st1.same.free hD) noD).ext own,aj.refl _,by simp,Nat.zero_le _,by simpa using e2,aD,.nil,st1.same.free hD,Nat.zero_le _,(Stp.refl _ _ _).aside hD,
   fun j hj=>List.getElem?_append_left hj,fun a z=>l6 st1 z,fun j z=>trivial,fun q e=>⟨by rw [av (hpD q e)];exact (hp q e).1,(hp q e).2.1,fun z=>(hp q e).2.2 (l6 st1 z)⟩⟩,?_⟩
 rintro i m σ' H' ⟨H0c,ρc,vD,rF,sc,s00,rfl,hi,ec,hDl,ra,n0,hal,sp,hσ,ho,hdf,hpc⟩
 have nOc:¬ ak σ' ρc D:=fun z=>noD (ho D z)
 obtain ⟨js,jg⟩:=jw H0c H' s00 sc.same fun q e=>(hpc q e).1
 by_cases hlt:i<ds.length
 ·have hd:ds[i]?=some ds[i]:=by simp [hlt]
  obtain ⟨g1,g2⟩:=jg i ds[i] hd
  rw [List.drop_eq_getElem_cons hlt] at ec
  unfold Dm.cI at ec
  refine .inr ⟨g1,fun y H2 yy=>?_⟩
  obtain ⟨H0',gr,rx⟩:=g2 y H2 yy
  split at ec
  ·cases ec
  rename_i ρ3 e3
  have t2:=ESt.grow sc gr
  obtain ⟨hD2,n02,no2⟩:=t2.cV hDl n0 nOc
  have hp2:=fun q e=>t2.cV (hpc q e).1 (hpc q e).2.1 (hpc q e).2.2
  refine hb H0' H2 σ' ρc ρ3 y ds[i] _ t2.st rx e3 fun σ3 st3 o3 k3 d3 _=>?_
  have no3:¬ ak σ3 ρ3 D:=fun z=>no2 (o3 D z)
  have po3:∀ q,pa=some q→¬ ak σ3 ρ3 q.1:=fun q e z=>(hp2 q e).2.2 (o3 q.1 z)
  have hσ3:∀ j,j<σ.length→σ3[j]?=σ[j]?:=fun j hj=>(k3 j fun z=>Nat.not_lt.mpr (hl j z) hj).trans (hσ j hj)
  have ho3:∀ a,ak σ3 ρ3 a→ak σ ρ1 a:=fun a z=>ho a (o3 a z)
  have G4:∀ j,Def ρ1 j→Def ρ3 j:=fun j z=>d3 j (hdf j z)
  have sp3:Stp (ak σ ρ1) H00 Hb H0' H2:=sp.trans t2.stp fun a z=>.inl (ho a z)
  have ra3:=ra.mono gr.s0
  have s3:aj H00 H0':=s00.trans gr.s0
  split at ec
  ·cases ec
  ·rename_i ρ4 e4
   refine ⟨H0',ρ3,false,ρ4,st3,e4,fun Ed H'' t4=>?_⟩
   dsimp only
   rw [if_neg Bool.false_ne_true]
   obtain ⟨hD4,n04,no4⟩:=t4.cV hD2 n02 no3
   have hp4:=fun q e=>t4.cV (hp2 q e).1 (hp2 q e).2.1 (po3 q e)
   exact ⟨ds.length-(i+1),by omega,Ed,ρ4,vD,rF,t4.st,s3.trans t4.stp.s0,rfl,hlt,ec,hD4,ra3.mono t4.stp.s0,n04,Nat.le_succ_of_le hal,sp3.trans t4.stp fun a z=>.inl (ho3 a z),hσ3,fun a z=>ho3 a (t4.own a z),fun j z=>t4.dfn j (G4 j z),hp4⟩
  ·rename_i ρ4 e4
   refine ⟨H0',ρ3,true,ρ4,st3,e4,fun Ed H'' t4=>?_⟩
   dsimp only
   rw [if_pos rfl]
   obtain ⟨hD4,n04,no4⟩:=t4.cV hD2 n02 no3
   have hp4:=fun q e=>t4.cV (hp2 q e).1 (hp2 q e).2.1 (po3 q e)
   split at ec
   ·cases ec
   rename_i x5 ρ5 e5
   split at ec
   ·cases ec
   rename_i y6 ρ6 e6
   refine ⟨Ed,ρ4,x5,ρ5,t4.st,e5,fun v H5 Hc t5 r5=>?_⟩
   obtain ⟨H6,t6,b6,r6,_,_⟩:=take1 t5 (aj.refl _) r5 e6
   obtain ⟨hD6,n06,no6⟩:=t6.cV hD4 n04 no4
   have hp6:=fun q e=>t6.cV (hp4 q e).1 (hp4 q e).2.1 (hp4 q e).2.2
   refine ⟨rF,hD6,?_,ds.length-(i+1),by omega,H6,ρ6,vD++[y6],rF++[v],t6.st.aside n06 no6,(s3.trans t4.stp.s0).trans t6.stp.s0,rfl,hlt,ec,aD,?_,n06,?_,?_,hσ3,fun a z=>ho3 a (t4.own a (t6.own a z)),fun j z=>t6.dfn j (t4.dfn j (G4 j z)),fun q e=>⟨by rw [av (hpD q e)];exact (hp6 q e).1,(hp6 q e).2.1,(hp6 q e).2.2⟩⟩
   ·rw [ra.length]
    unfold Dm.SZ at hsz
    exact Nat.lt_of_le_of_lt (Nat.le_trans hal (Nat.le_trans (Nat.le_of_lt hlt) hsz)) (by decide)
   ·exact ((ra3.mono t4.stp.s0).mono t6.stp.s0).append (.cons r6 .nil)
   ·rw [List.length_append,List.length_singleton];omega
   ·exact ((sp3.trans t4.stp fun a z=>.inl (ho3 a z)).trans t6.stp fun a z=>.inl (ho3 a (t4.own a z))).aside hD
 ·have e':i=ds.length:=by omega
  subst e'
  rw [List.drop_length] at ec
  cases ec
  refine .inl ⟨js _ (Nat.le_refl _),k _ H0c H' ?_ ?_ fun q e=>⟨(hpc q e).1,(hpc q e).2.1⟩⟩
  ·have hlen:σ.length≤ρ2.length:=by
    rw [← sc.len]
    refine Nat.not_lt.mp fun z=>?_
    have q:=hσ σ'.length z
    rw [List.getElem?_eq_none (Nat.le_refl _),List.getElem?_eq_getElem z] at q
    cases q
   have tk:∀ {j:Nat} {c:Dm.Cell},(ρ2.take ρ1.length)[j]?=some c→j<σ.length∧ρ2[j]?=some c:=fun {j c} h=>by
    have hj:j<ρ1.length:=by
     have:=(List.getElem?_eq_some_iff.mp h).1
     rw [List.length_take] at this
     omega
    rw [List.getElem?_take_of_lt hj] at h
    exact ⟨by rw [st1.len];exact hj,h⟩
   have own':∀ a,ak σ (ρ2.take ρ1.length) a→ak σ' ρ2 a:=fun a ⟨j,d,h1,h2⟩=>by
    obtain ⟨hj,h1⟩:=tk h1
    exact ⟨j,d,h1,(hσ j hj).trans h2⟩
   refine ⟨⟨sc.same,?_,fun j d h=>?_,fun j d h=>?_,fun j j' d d' a h1 h2 h3 h4=>?_⟩,sp,fun a z=>ho a (own' a z),fun j z=>?_⟩
   ·rw [List.length_take,← st1.len];omega
   ·obtain ⟨hj,h⟩:=tk h
    obtain ⟨v,q,r⟩:=sc.sh j d h
    exact ⟨v,(hσ j hj).symm.trans q,r⟩
   ·obtain ⟨hj,h⟩:=tk h
    obtain ⟨v,q,r⟩:=sc.ow j d h
    exact ⟨v,(hσ j hj).symm.trans q,r⟩
   ·obtain ⟨hj,h1⟩:=tk h1
    obtain ⟨hj',h2⟩:=tk h2
    exact sc.dis j j' d d' a h1 h2 ((hσ j hj).trans h3) ((hσ j' hj').trans h4)
   ·trivial
  ·refine ⟨D,rfl,hD,fun ⟨j,d,h1,h2⟩=>?_,n0,rF,hDl,ra⟩
   have hj:j<ρ1.length:=by
    have:=(List.getElem?_eq_some_iff.mp h1).1
    rw [List.length_take] at this
    omega
   rw [List.getElem?_take_of_lt hj] at h1
   exact nOc ⟨j,d,h1,(hσ j (by rw [st1.len];exact hj)).trans h2⟩
theorem rG {fi:Dm.FI} {own:Nat} {bd:Dm.FB} {g:TG} {t:Dm.FT} {el:Dm.FE} {is:List Nat} {Q:VK} (hb:BD is g bd) (hl:∀ i∈is,σ.length≤i) (h:tD (Dm.bG fi own bd t el) σ H Q) :
  tLC (tDI fi) own g (tDT t) (tD el) σ H Q:=by
 obtain ⟨H0,ρ,x,ρ',st,e,k⟩:=h
 unfold Dm.bG at e
 split at e
 ·cases e
 rename_i ds ρ1 e1
 split at e
 case isFalse=>cases e
 rename_i hsz
 split at e
 ·cases e
 rename_i ys ρ2 e2
 cases e
 refine ⟨H0,ρ,ds,ρ1,st,e1,fun J H00 Hb t1 jw D hD=>oQ (pa:=none) hb hl t1.st (fun q e=>by cases e) (fun H0 H s0 s1 _=>jw H0 H s0 s1) hsz e2 (fun v H0' H' t2 r2 _=>k v H0' H' (t1.trans t2) (r2.early fun a n=>t1.stp.gone n)) D hD⟩
theorem aI {n m:Nat} {body:Dm.FS} {vs:List V} {H:Hp} {Q:VK} {E:XK} (h:spD (Dm.fn n m body) vs H Q E):vs.length=n:=by
 obtain ⟨H0,ds,z,s,rs,e,k⟩:=h
 unfold Dm.fn at e
 split at e
 ·rename_i hl
  rw [rs.length];exact hl
 ·cases e
theorem bC {N:List Str} {n m:Nat} {body:Dm.FS} {vs:List V} {Q:VK} {E:XK} (hm:N.length=n+m) (h:spD (Dm.fn n m body) vs H Q E) :
  tDS body { nx:=fun _ H'=>Q .non H',rt:=Q } (start N vs) H:=by
 have hvn:=aI h
 obtain ⟨H0,ds,z,s,rs,e,k⟩:=h
 have hl:=rs.length
 have no:∀ a,¬ ak (start N vs) (ds.map Dm.Cell.sh++List.replicate m .un) a:=fun a ⟨i,d,h1,_⟩=>by
  by_cases hi:i<ds.length
  ·rw [List.getElem?_append_left (by simpa using hi),List.getElem?_map] at h1
   cases q:ds[i]? with
   | none=>rw [q] at h1;cases h1
   | some y=>rw [q] at h1;cases h1
  ·rw [List.getElem?_append_right (by simpa using hi),List.getElem?_replicate] at h1
   split at h1<;>cases h1
 have st:az H0 H (start N vs) (ds.map Dm.Cell.sh++List.replicate m .un):=by
  refine ⟨s,?_,fun i d h=>?_,fun i d h=>?_,fun i j d e a h1 h2 _ _=>?_⟩
  ·unfold L2.start
   simp only [List.length_append,List.length_map,List.length_replicate]
   omega
  ·have hi:i<ds.length:=by
    by_cases hi:i<ds.length
    ·exact hi
    ·rw [List.getElem?_append_right (by simpa using hi),List.getElem?_replicate] at h
     split at h<;>cases h
   rw [List.getElem?_append_left (by simpa using hi),List.getElem?_map] at h
   cases q:ds[i]? with
   | none=>rw [q] at h;cases h
   | some y=>
    rw [q] at h
    cases h
    obtain ⟨v,hv,r⟩:=rs.get q
    refine ⟨v,?_,r⟩
    unfold L2.start
    rw [List.getElem?_append_left (by simpa [hl] using hi),List.getElem?_map,hv]
    rfl
  ·by_cases hi:i<ds.length
   ·rw [List.getElem?_append_left (by simpa using hi),List.getElem?_map] at h
    cases q:ds[i]? with
    | none=>rw [q] at h;cases h
    | some y=>rw [q] at h;cases h
   ·rw [List.getElem?_append_right (by simpa using hi),List.getElem?_replicate] at h
    split at h<;>cases h
  ·by_cases hi:i<ds.length
   ·rw [List.getElem?_append_left (by simpa using hi),List.getElem?_map] at h1
    cases q:ds[i]? with
    | none=>rw [q] at h1;cases h1
    | some y=>rw [q] at h1;cases h1
   ·rw [List.getElem?_append_right (by simpa using hi),List.getElem?_replicate] at h1
    split at h1<;>cases h1
 have gr:∀ {H0' H'},Stp (ak (start N vs) (ds.map Dm.Cell.sh++List.replicate m .un)) H0 H H0' H'→aj H0' H'→aL H0 H H0' H':=fun {H0' H'} t ss=>
  ⟨t.s0,fun a o e=>t.s1 a o e (no a),fun a o e=>(t.s2 a o e).imp id fun q=>q.elim id fun z=>absurd z (no a),ss⟩
 unfold Dm.fn at e
 rw [if_pos (by rw [← hl];exact hvn)] at e
 split at e
 ·rename_i r ρ' e1
  cases e
  refine ⟨H0,_,_,st,e1,fun σ' v H0' H' t r _=>k v H0' H' (gr t.stp t.st.same) ?_⟩
  cases z with
  | val d=>exact r
  | new d=>
   obtain ⟨a,e,n,n0,w⟩:=r
   exact ⟨a,e,n.elim id fun z=>absurd z (no a),n0,w⟩
 ·rename_i ρ' e1
  cases e
  exact ⟨H0,_,_,st,e1,fun σ' H0' H' t=>k _ H0' H' (gr t.stp t.st.same) .non⟩
 ·cases e
end
open PySem PySem.Spec PyProof.Rows L2
noncomputable def aT (X:Cx) (nm:List Str) (scope:Scope) (own:List Str) (cl:List (Str×Addr)) (C:Addr) (s:Shared) (H:Hp) (fp:List Addr):Cx where
 prog:=X.prog
 w:=X.w
 K:=X.K
 mg:=X.mg
 base:=X.base
 A:=X.A
 N:=nm++own
 s₀:=s
 H₀:=H
 env:=compEnvC scope cl C X.env
 outer:=X.stack
 stack:=X.stack
 ex:=fp
 fn:=fun _=>false
 calm:=X.calm
 pn:=[]
 xe:=fun _ _=>False
noncomputable def PTs (X:Cx) (ifs:List Expr) (t:TT):Prop:=
 ∀ (pins:List (Addr×Obj)) (s:Shared) (σ:L2.St) (H:Hp) (Q:Bool→Hp→Prop),Inv X pins σ H s→t σ H Q →
  wpAny (model X.prog X.w) X.A (forIn ifs true fun c r=>if r=true then do let ok ← isTrue c X.env (eval c X.env);pure (ForInStep.yield ok) else pure (ForInStep.yield r)) (TP X pins σ Q) X.xe s
noncomputable def JC:TT:=fun _ H Q=>Q true H
theorem AG {X:Cx}:PTs X [] JC:=fun pins s σ H Q I h=>wpAny_tests_nil ⟨H,I,h⟩
theorem AH {X:Cx} {c:Expr} {t:TT} (h:PT X c t):PTs X [c] t:=fun pins s σ H Q I hq=>wpAny_tests_one (h pins s σ H Q I hq)
theorem cP (env:Env):∀ (names:List (Str×NameKind)) (cs:List (Str×Addr)),(∀ y∈names,y.2=.free→∃ c,env.cells.lookup y.1=some c) →
  ∃ cl,(forIn names cs fun (x:Str×NameKind) (r:List (Str×Addr))=>(if (x.2 == NameKind.free)=true then do let c ← cellOf env x.1;pure (ForInStep.yield ((x.1,c)::r)) else pure (ForInStep.yield r):Sem (ForInStep (List (Str×Addr)))))=pure cl ∧
   (∀ x c,cl.lookup x=some c→env.cells.lookup x=some c∨cs.lookup x=some c)∧(∀ y∈names,y.2=.free→∃ c,cl.lookup y.1=some c)∧(∀ x c,cs.lookup x=some c→∃ c',cl.lookup x=some c')
 | [],cs,_=>⟨cs,rfl,fun _ _ h=>.inr h,fun _ h=>(nomatch h),fun _ c h=>⟨c,h⟩⟩
 | (n,k)::r,cs,h=>by
  have hr:∀ y∈r,y.2=.free→∃ c,env.cells.lookup y.1=some c:=fun y hy=>h y (List.mem_cons_of_mem _ hy)
  by_cases hk:k=.free
  ·subst hk
   obtain ⟨c,hc⟩:=h (n,.free) List.mem_cons_self rfl
   obtain ⟨cl,e,h1,h2,h3⟩:=cP env r ((n,c)::cs) hr
   refine ⟨cl,?_,fun x c' q=>?_,fun y hy hf=>?_,fun x c' q=>?_⟩
   ·rw [List.forIn_cons]
    have e1:cellOf env n=pure c:=by unfold cellOf;rw [hc]
    simp only [beq_self_eq_true,if_true,e1,pure_bind]
    exact e
   ·rcases h1 x c' q with z | z
    ·exact .inl z
    ·rw [List.lookup_cons] at z
     cases hx:x == n with
     | true=>
      rw [hx] at z
      have:x=n:=by simpa using hx
      subst this
      injection z with z
      subst z
      exact .inl hc
     | false=>rw [hx] at z;exact .inr z
   ·rcases List.mem_cons.mp hy with rfl | hy
    ·exact h3 n c (by rw [List.lookup_cons,beq_self_eq_true])
    ·exact h2 y hy hf
   ·by_cases hx:x=n
    ·subst hx
     exact h3 x c (by rw [List.lookup_cons,beq_self_eq_true])
    ·have hx':(x == n)=false:=by simpa using hx
     exact h3 x c' (by rw [List.lookup_cons,hx'];exact q)
  ·have hb:(k == NameKind.free)=false:=by simpa using hk
   obtain ⟨cl,e,h1,h2,h3⟩:=cP env r cs hr
   refine ⟨cl,?_,h1,fun y hy hf=>?_,h3⟩
   ·rw [List.forIn_cons]
    simp only [hb,Bool.false_eq_true,if_false,pure_bind]
    exact e
   ·rcases List.mem_cons.mp hy with rfl | hy
    ·exact absurd hf hk
    ·exact h2 y hy hf
theorem jt {env:Env} {scope:Scope} (h:∀ y∈scope.names,y.2=.free→∃ c,env.cells.lookup y.1=some c) :
  ∃ cl,closureFor scope env=pure cl∧(∀ x c,cl.lookup x=some c→env.cells.lookup x=some c)∧∀ y∈scope.names,y.2=.free→∃ c,cl.lookup y.1=some c:=by
 obtain ⟨cl,e,h1,h2,_⟩:=cP env scope.names [] h
 refine ⟨cl,?_,fun x c q=>(h1 x c q).elim id fun z=>by simp at z,h2⟩
 unfold closureFor
 have e':(forIn scope.names ([]:List (Str×Addr)) fun (x:Str×NameKind) (r:List (Str×Addr))=>(if (x.2 == NameKind.free)=true then do let c ← cellOf env x.1;pure (ForInStep.yield ((x.1,c)::r)) else pure (ForInStep.yield r):Sem (ForInStep (List (Str×Addr)))))=pure cl:=e
 first
  | (rw [show (forIn scope.names ([]:List (Str×Addr)) _:Sem (List (Str×Addr)))=pure cl from e'];rfl)
  | (simp only [e'];rfl)
theorem nu {prog:Program} {w:World} {A:Around} {R:Result→Shared→Prop} {s:Shared} {elt target iter:Expr} {ifs:List Expr} {scope:Scope} {pos:Pos} {it acc:Value} {env:Env} (I:Nat→Shared→Prop)
  (turn:∀ n s,I n s→wpAny (model prog w) A (pyNext it) (fun r s₁=>match r with
   | none=>R (.ok .next) s₁
   | some v=>wpAny (model prog w) A (letOwnedTupleGo target it v) (fun _ s₁'=>wpAny (model prog w) A (assign target env v) (fun _ s₂=>
     wpAny (model prog w) A (forIn ifs true fun c r=>if r=true then do let ok ← isTrue c env (eval c env);pure (ForInStep.yield ok) else pure (ForInStep.yield r)) (fun ok s₃=>
      if ok=true then wpAny (model prog w) A (eval elt env) (fun x s₄=>
       wpAny (model prog w) A (call (.builtin "list.append") [acc,x]) (fun _ s₅=>∃ m,m<n∧I m s₅) (fun _ _=>False) s₄) (fun _ _=>False) s₃
      else ∃ m,m<n∧I m s₃) (fun _ _=>False) s₂) (fun _ _=>False) s₁') (fun _ _=>False) s₁) (fun _ _=>False) s)
  (n:Nat) (h:I n s) :
  codeAny (model prog w) A (.compLoop (.ListComp elt [⟨target,iter,ifs,0⟩] scope pos) 0 it acc env) R s:=by
 have no:∀ {P:Value→Shared→Prop} (x:Value) (s':Shared),False→P x s':=fun _ _ f=>f.elim
 refine codeAny_loop rfl I (fun n s hI=>?_) n h
 show wpAny _ A ((compTurn (.ListComp elt [⟨target,iter,ifs,0⟩] scope pos) 0 it acc env).onRaise (fun x=>do noteFrame x env;theTreesLotGoes x)) _ _ s
 refine wpAny_noted ?_
 rw [compTurn_list]
 refine wpAny_bind (wpAny_standAt (wpAny_bind (wpAny_mono (turn n s hI) (fun r s₁ h₁=>?_) no)))
 cases r with
 | none=>exact wpAny_pure h₁
 | some v=>
  refine wpAny_bind (wpAny_mono h₁ (fun _ s₁' h₁'=>?_) no)
  refine wpAny_bind (wpAny_mono h₁' (fun _ s₂ h₂=>wpAny_bind (wpAny_mono h₂ (fun ok s₃ h₃=>?_) no)) no)
  cases ok with
  | false=>exact wpAny_pure ⟨rfl,h₃⟩
  | true=>
   exact wpAny_bind (wpAny_bind (wpAny_mono h₃ (fun x s₄ h₄=>wpAny_bind (wpAny_mono h₄ (fun _ s₅ h₅=>wpAny_pure (wpAny_pure ⟨rfl,h₅⟩)) no)) no))
theorem bX (env:Env):∀ (names:List (Str×NameKind)) (x:Str) (k:NameKind),
  (names.map fun (n,k)=>if (k == NameKind.free&&env.scope.kind == .function&&env.kindOf n == some .cell) then (n,NameKind.cell) else (n,k)).lookup x=some k →
  ∃ k0,names.lookup x=some k0∧(k=k0∨(k0=.free∧k=.cell))
 | [],x,k,h=>by simp at h
 | (n,k1)::r,x,k,h=>by
  have h:List.lookup x ((if (k1 == NameKind.free&&env.scope.kind == .function&&env.kindOf n == some .cell)=true then (n,NameKind.cell) else (n,k1))::r.map fun (n,k)=>if (k == NameKind.free&&env.scope.kind == .function&&env.kindOf n == some .cell) then (n,NameKind.cell) else (n,k))=some k:=h
  cases hx:x == n with
  | true=>
   by_cases hc:(k1 == NameKind.free&&env.scope.kind == .function&&env.kindOf n == some .cell)=true
   ·rw [if_pos hc,List.lookup_cons,hx] at h
    injection h with h
    have hk:k1=.free:=by
     simp only [Bool.and_eq_true,beq_iff_eq] at hc
     exact hc.1.1
    exact ⟨k1,by rw [List.lookup_cons,hx],.inr ⟨hk,h.symm⟩⟩
   ·rw [if_neg hc,List.lookup_cons,hx] at h
    injection h with h
    exact ⟨k1,by rw [List.lookup_cons,hx],.inl h.symm⟩
  | false=>
   by_cases hc:(k1 == NameKind.free&&env.scope.kind == .function&&env.kindOf n == some .cell)=true
   ·rw [if_pos hc,List.lookup_cons,hx] at h
    obtain ⟨k0,e,z⟩:=bX env r x k h
    exact ⟨k0,by rw [List.lookup_cons,hx];exact e,z⟩
   ·rw [if_neg hc,List.lookup_cons,hx] at h
    obtain ⟨k0,e,z⟩:=bX env r x k h
    exact ⟨k0,by rw [List.lookup_cons,hx];exact e,z⟩
structure cQ (X:Cx) (nm:List Str) (scope:Scope):Prop where
 kind:scope.kind=.function
 cell:∀ y∈scope.names,y.2≠.cell
 names:∀ y∈scope.names,y.2=.local→scope.names.lookup y.1=some .local
 free:∀ y∈scope.names,y.2=.free→X.env.kindOf y.1=some .cell∨X.env.kindOf y.1=some .free
 apart:∀ x∈nm,scope.names.lookup x≠some .local
 len:nm.length=X.N.length
 mask:∀ (i:Nat) (x:Str),nm[i]?=some x→X.N[i]?=some x∨scope.names.lookup x=none
section
variable {X:Cx} {nm:List Str} {elt tg iter:Expr} {ifs:List Expr} {scope:Scope} {pos:Pos} {own:List Str} {wi:TI} {g:TG} {tt:TT} {te:TE}
theorem l7 {pins:List (Addr×Obj)} {s2:Shared} {σ:L2.St} {H2:Hp} {cl:List (Str×Addr)} {it:Addr} {fp:List Addr} {tn:Nat→Heap→Prop} {J:It} {Q:VK} {E:Value→Shared→Prop} {RR:Value→Addr→Result→Shared→Prop}
  (hc:X.calm=true) (S:cQ X nm scope) (ju:∀ x c,cl.lookup x=some c→X.env.cells.lookup x=some c) (vE:∀ y∈scope.names,y.2=.free→∃ c,cl.lookup y.1=some c)
  (hg:∀ cl C s H fp,PG (aT X nm scope own cl C s H fp) tg g) (ht:∀ cl C s H fp,PTs (aT X nm scope own cl C s H fp) ifs tt) (he:∀ cl C s H fp,PE (aT X nm scope own cl C s H fp) elt te)
  (I2:Inv X pins σ H2 s2) (T:Turn X.prog X.w X.K tg J fp it tn) (st2:tn 0 s2.heap) (f2:∀ b∈fp,lH X pins H2 b)
  (hR:∀ D,H2 D=none→∃ W:Nat→Nat→L2.St→Hp→Prop,
   (∃ m,W 0 m (σ++List.replicate own.length none) (upd H2 D (.lst [])))∧∀ i m σ' H',W i m σ' H' →
    (J.stop i H'∧Q (.ref D) H')∨(J.go i H'∧∀ x H2,J.yld i H' x H2→g x σ' H2 fun σ2 H3=>tt σ2 H3 fun b H4=>if b=true
     then te σ2 H4 fun y H5=>∃ acc,H5 D=some (.lst acc)∧acc.length<sizeLine∧∃ m',m'<m∧W (i+1) m' σ2 (upd H5 D (.lst (acc++[y])))
     else ∃ m',m'<m∧W (i+1) m' σ2 H4))
  (JD:∀ D C H6 s6,Inv X pins σ H6 s6→H6 C=none→C≠X.env.locals→X.s₀.heap.objs.size≤C→(∀ x c,X.env.cells.lookup x=some c→c≠C)→(∀ p∈X.pn++pins,p.1≠C)→(∃ m,s6.heap.Ns C m)→Q (.ref D) H6→RR (.ref D) C (.ok .next) s6) :
  wpAny (model X.prog X.w) X.A (newList []) (fun acc s₃=>wpAny (model X.prog X.w) X.A (newFunctionEnv scope X.env.globals cl [] X.env.qual none .none (some X.env)) (fun cenv s₄=>
   codeAny (model X.prog X.w) X.A (.compStart (.ListComp elt [⟨tg,iter,ifs,0⟩] scope pos) 0 (.ref it) acc { cenv with scope:=relabel scope X.env }) (RR acc cenv.locals) s₄) E s₃) E s2:=by
 have no:∀ {P:Value→Shared→Prop} (x:Value) (s':Shared),False→P x s':=fun _ _ f=>f.elim
 refine wpAny_newObj_type (wpAny_newFunctionEnv S.cell (by intro y hy;simp at hy) (fun h₁ hns₁ hsb₁=>?_) S.kind)
 dsimp only at hns₁ hsb₁ ⊢
 have I3:Inv X pins σ (upd H2 s2.heap.objs.size (.lst [])) { s2 with heap:=s2.heap.push { cls:=.type "list",dict:=none,data:=.seq ([]:List Value).toArray } }:=I2.D0 (t':=s2.toks) (ys:=[]) (its:=[]) .nil (Nat.zero_le _)
 generalize hG2:s2.heap.push { cls:=.type "list",dict:=none,data:=.seq ([]:List Value).toArray }=G2 at hns₁ hsb₁ I3 ⊢
 have hC:G2.objs.size=s2.heap.objs.size+1:=by rw [← hG2,Heap.size_push]
 have up2:∀ b o,s2.heap.get? b=some o→G2.get? b=some o:=fun b o e=>hG2▸Heap.get?_push_of_some _ e
 have up3:∀ b o,G2.get? b=some o→h₁.get? b=some o:=fun b o e=>hsb₁.extBut b o (Nat.ne_of_lt (Heap.lt_size e)) (Heap.get?_push_of_some _ e)
 have JE:G2.get? G2.objs.size=none:=Heap.get?_none_of_le (Nat.le_refl _)
 have fpo:∀ b∈fp,∃ o,s2.heap.get? b=some o:=fun b hb=>by
  obtain ⟨o,e,_⟩:=T.obj 0 _ st2 b hb
  exact ⟨o,e⟩
 have fpC:∀ b∈fp,b≠G2.objs.size:=fun b hb=>by
  obtain ⟨o,e⟩:=fpo b hb
  exact Nat.ne_of_lt (Heap.lt_size (up2 b o e))
 have H3C:(upd H2 s2.heap.objs.size (.lst [])) G2.objs.size=none:=I3.hok.fresh (Nat.le_refl _)
 have fpD:∀ b∈fp,b≠s2.heap.objs.size:=fun b hb=>by
  obtain ⟨o,e⟩:=fpo b hb
  exact Nat.ne_of_lt (Heap.lt_size e)
 have G5:∀ b∈fp,b∉frs X.stack:=fun b hb z=>by
  rcases List.mem_cons.mp (I3.qW b z) with y | y
  ·exact (f2 b hb).2.1 y
  ·exact (f2 b hb).2.2.1 y
 have ok':(aT X nm scope own cl G2.objs.size { s2 with heap:=G2 } (upd H2 s2.heap.objs.size (.lst [])) fp).Ok:=by
  refine ⟨I3.ok.mod,S.kind,I3.ok.glob,I3.ok.blt,Nat.le_refl _,fun x y c e1 e2=>I3.ok.inj x y c (ju x c e1) (ju y c e2),fun x hx=>?_,fun x c z=>(nomatch z),I3.ok.hd,I3.ok.frames,.inl rfl,
   fun b hb=>⟨fpC b hb,fun x c e=>(f2 b hb).2.2.2.2.1 x c (ju x c e)⟩,fun b o e=>I3.bs b o e,Nat.le_trans I3.ok.bsz I3.sz,fun b o e hb=>?_,fun b hb=>G5 b hb,I3.stack,I3.tE⟩
  ·have hx:(relabel scope X.env).names.lookup x=some .cell∨(relabel scope X.env).names.lookup x=some .free:=hx
   have key:∀ k,(relabel scope X.env).names.lookup x=some k→k≠.local→k=.cell∨k=.free→∃ c,cl.lookup x=some c:=fun k hk _ hkk=>by
    obtain ⟨k0,e0,z⟩:=bX X.env scope.names x k hk
    have m0:=PySem.mem_of_lookup e0
    have f0:k0=.free:=by
     rcases z with z | z
     ·subst z
      rcases hkk with q | q
      ·exact absurd q (S.cell _ m0)
      ·exact q
     ·exact z.1
    exact vE (x,k0) m0 f0
   rcases hx with hx | hx
   ·exact key _ hx (by decide) (.inl rfl)
   ·exact key _ hx (by decide) (.inr rfl)
  ·rcases (f2 b hb).2.2.2.1 with z | z
   ·exact I3.ok.wD b o e z
   ·exact absurd (Nat.lt_of_lt_of_le (Heap.lt_size e) (Nat.le_trans I3.ok.bsz z)) (Nat.lt_irrefl _)
 have stat:∀ {H':Hp},(∀ b∈fp,H' b=none)→∀ b∈fp,lH (aT X nm scope own cl G2.objs.size { s2 with heap:=G2 } (upd H2 s2.heap.objs.size (.lst [])) fp) [] H' b:=fun hn b hb=>
  ⟨hn b hb,fpC b hb,G5 b hb,.inl hb,fun x c e=>(f2 b hb).2.2.2.2.1 x c (ju x c e),fun p hp=>(nomatch (show p∈([]:List (Addr×Obj)) from hp))⟩
 have I4:Inv (aT X nm scope own cl G2.objs.size { s2 with heap:=G2 } (upd H2 s2.heap.objs.size (.lst [])) fp) [] (σ++List.replicate own.length none) (upd H2 s2.heap.objs.size (.lst [])) { s2 with heap:=h₁,toks:=s2.toks+([]:List (Str×Value)).length }:=by
  refine ⟨ok',rfl,I3.bare,Un.kept up3,⟨_,hns₁,fun i x v e1 e2 e3=>?_⟩,fun x c e=>?_,H3C,fun x c e=>I3.fk x c (ju x c e),fun p hp=>(nomatch (show p∈([]:List (Addr×Obj)) from hp)),I3.hok.kept up3,?_⟩
  ·have e1:(nm++own)[i]?=some x:=e1
   have hi:i<σ.length:=by
    by_cases hi:i<σ.length
    ·exact hi
    ·rw [List.getElem?_append_right (Nat.not_lt.mp hi),List.getElem?_replicate] at e2
     split at e2<;>cases e2
   rw [List.getElem?_append_left hi] at e2
   rw [List.getElem?_append_left (by rw [S.len,← I3.len];exact hi)] at e1
   have key:∀ k,(relabel scope X.env).names.lookup x=some k→k=.local∨k=.cell∨k=.free→scope.names.lookup x=some .free∧(k=.cell∨k=.free):=fun k hk hkk=>by
    obtain ⟨k0,e0,z⟩:=bX X.env scope.names x k hk
    have m0:=PySem.mem_of_lookup e0
    have n1:k0≠.local:=fun y=>S.apart x (List.mem_of_getElem? e1) (y▸e0)
    have n2:k0≠.cell:=S.cell _ m0
    rcases z with z | z
    ·subst z
     rcases hkk with q | q | q
     ·exact absurd q n1
     ·exact absurd q n2
     ·subst q;exact ⟨e0,.inr rfl⟩
    ·obtain ⟨z1,z2⟩:=z
     subst z1;subst z2
     exact ⟨e0,.inl rfl⟩
   have hk:∃ k,(relabel scope X.env).names.lookup x=some k∧(k=.cell∨k=.free)∧scope.names.lookup x=some .free:=by
    rcases (show (relabel scope X.env).names.lookup x=some .local∨(relabel scope X.env).names.lookup x=some .cell∨(relabel scope X.env).names.lookup x=some .free from e3) with q | q | q
    ·obtain ⟨a,b⟩:=key _ q (.inl rfl);exact ⟨_,q,b,a⟩
    ·obtain ⟨a,b⟩:=key _ q (.inr (.inl rfl));exact ⟨_,q,b,a⟩
    ·obtain ⟨a,b⟩:=key _ q (.inr (.inr rfl));exact ⟨_,q,b,a⟩
   obtain ⟨k,hk1,hk2,hk3⟩:=hk
   have m0:=PySem.mem_of_lookup hk3
   obtain ⟨c,hcc⟩:=vE (x,.free) m0 rfl
   obtain ⟨m,hn,hl⟩:=I3.loc
   have hout:=S.free (x,.free) m0 rfl
   have JF:Vis X.env.scope x:=by
    rcases hout with q | q
    ·exact .inr (.inl q)
    ·exact .inr (.inr q)
   have e1':X.N[i]?=some x:=by
    rcases S.mask i x e1 with z | z
    ·exact z
    ·rw [z] at hk3;cases hk3
   obtain ⟨u,ru,lk⟩:=hl i x v e1' e2 JF
   refine ⟨u,ru,.inr ⟨?_,c,hcc,?_⟩⟩
   ·rcases hk2 with q | q
    ·subst q;exact .inl hk1
    ·subst q;exact .inr hk1
   ·rcases lk with ⟨q,_⟩ | ⟨_,c',e',z⟩
    ·rcases hout with y | y
     ·rw [q] at y;cases y
     ·rw [q] at y;cases y
    ·rw [ju x c hcc] at e'
     cases e'
     obtain ⟨o,ho,hd⟩:=z
     exact ⟨o,up3 c o ho,hd⟩
  ·obtain ⟨v,o,ho,hd⟩:=I3.cell x c (ju x c e)
   exact ⟨v,o,up3 c o ho,hd⟩
  ·show (σ++List.replicate own.length none).length=(nm++own).length
   rw [List.length_append,List.length_append,List.length_replicate,I3.len,S.len]
 obtain ⟨W,⟨m0,w0⟩,turn⟩:=hR s2.heap.objs.size I2.fresh
 have st4:tn 0 h₁:=T.keep 0 _ _ st2 fun b hb o e=>up3 b o (up2 b o e)
 have JG:∀ b∈fp,(upd H2 s2.heap.objs.size (.lst [])) b=none:=fun b hb=>by rw [av (fpD b hb)];exact (f2 b hb).1
 have loop:∀ s₃:Shared,s₃={ s2 with heap:=h₁,toks:=s2.toks+([]:List (Str×Value)).length } →
   codeAny (model X.prog X.w) X.A (.compLoop (.ListComp elt [⟨tg,iter,ifs,0⟩] scope pos) 0 (.ref it) (.ref s2.heap.objs.size) (compEnvC scope cl G2.objs.size X.env))
    (RR (.ref s2.heap.objs.size) G2.objs.size) s₃:=by
  rintro s₃ rfl
  refine nu (fun n s'=>∃ i σ' H',Inv (aT X nm scope own cl G2.objs.size { s2 with heap:=G2 } (upd H2 s2.heap.objs.size (.lst [])) fp) [] σ' H' s'∧tn i s'.heap∧(∀ b∈fp,H' b=none)∧W i n σ' H') ?_ m0
   ⟨0,_,_,I4,st4,JG,w0⟩
  rintro n s5 ⟨i,σ5,H5,I5,st5,fr5,w5⟩
  rcases turn i n σ5 H5 w5 with ⟨stop,q⟩ | ⟨go,step⟩
  ·refine wpAny_mono (T.done (aT X nm scope own cl G2.objs.size { s2 with heap:=G2 } (upd H2 s2.heap.objs.size (.lst [])) fp) rfl rfl rfl hc i [] s5 σ5 H5 (fun _ _=>False) I5 (stat fr5) st5 stop) (fun r s6 hr6=>?_) no
   obtain ⟨hr,I6⟩:=hr6
   subst hr
   have I7:Inv X pins σ H5 s6:=I3.Gs (ch:=fp) I6.os I6.base I6.hok I6.bare fun b hb=>⟨(f2 b hb).2.2.2.1,(f2 b hb).2.1,(f2 b hb).2.2.2.2.1,(f2 b hb).2.2.2.2.2⟩
   refine JD _ _ H5 s6 I7 I6.free (Nat.ne_of_gt (show X.env.locals<G2.objs.size from I3.lt)) I3.sz (fun x c e=>?_) (fun p hp=>?_) (let ⟨m,hn,_⟩:=I6.loc;⟨m,hn⟩) q
   ·obtain ⟨v,z⟩:=I3.cell x c e
    exact Nat.ne_of_lt z.lt
   ·exact Nat.ne_of_lt (Heap.lt_size (I3.pin p hp).1)
  ·refine wpAny_mono (T.item (aT X nm scope own cl G2.objs.size { s2 with heap:=G2 } (upd H2 s2.heap.objs.size (.lst [])) fp) rfl rfl rfl hc i [] s5 σ5 H5 (fun _ _=>False) I5 (stat fr5) st5 go) (fun r s6 hr6=>?_) no
   obtain ⟨u,hr,h6⟩:=hr6
   subst hr
   refine wpAny_mono h6 (fun _ s7 h7=>?_) no
   obtain ⟨x,H7,I7,r7,y7,st7,fr7⟩:=h7
   have I7':=I7.pinned (stat fr7) (T.obj _ _ st7)
   have again:∀ {s9:Shared} {σ9:L2.St} {H9:Hp} {m':Nat},m'<n→Inv (aT X nm scope own cl G2.objs.size { s2 with heap:=G2 } (upd H2 s2.heap.objs.size (.lst [])) fp) ([]++ji fp s7.heap) σ9 H9 s9→W (i+1) m' σ9 H9 →
     ∃ m,m<n∧∃ i σ' H',Inv (aT X nm scope own cl G2.objs.size { s2 with heap:=G2 } (upd H2 s2.heap.objs.size (.lst [])) fp) [] σ' H' s9∧tn i s9.heap∧(∀ b∈fp,H' b=none)∧W i m σ' H':=fun {s9 σ9 H9 m'} hm I9 w9=>by
    refine ⟨m',hm,i+1,σ9,H9,I9.gE,T.keep _ _ _ st7 fun b hb o e=>(I9.pin (b,o) (List.mem_append_right _ (List.mem_append_right _ (dg hb e)))).1,fun b hb=>?_,w9⟩
    obtain ⟨o,e,d⟩:=T.obj _ _ st7 b hb
    exact (I9.pin (b,o) (List.mem_append_right _ (List.mem_append_right _ (dg hb e)))).2.1
   refine wpAny_mono (hg cl G2.objs.size _ _ fp _ s7 σ5 H7 x u _ I7' r7 (step x H7 y7)) (fun _ s8 h8=>?_) no
   obtain ⟨σ8,H8,I8,q8⟩:=h8
   refine wpAny_mono (ht cl G2.objs.size _ _ fp _ s8 σ8 H8 _ I8 q8) (fun b s9 h9=>?_) no
   obtain ⟨H9,I9,q9⟩:=h9
   cases b with
   | false=>
    rw [if_neg Bool.false_ne_true] at q9 ⊢
    obtain ⟨m',hm,w9⟩:=q9
    exact again hm I9 w9
   | true=>
    rw [if_pos rfl] at q9 ⊢
    refine wpAny_mono (he cl G2.objs.size _ _ fp _ s9 σ8 H9 _ I9 q9) (fun y s10 h10=>?_) no
    obtain ⟨yv,H10,I10,r10,acc,hacc,hlen,m',hm,w10⟩:=h10
    refine wpAny_mono (h_ (X:=aT X nm scope own cl G2.objs.size { s2 with heap:=G2 } (upd H2 s2.heap.objs.size (.lst [])) fp) _ s10 σ8 H10 (.ref s2.heap.objs.size) [yv] (.ref s2.heap.objs.size) [y] (fun _ H'=>H'=upd H10 s2.heap.objs.size (.lst (acc++[yv]))) I10 rfl (.cons r10 .nil) ⟨_,acc,yv,rfl,rfl,hacc,hlen,rfl⟩) (fun _ s11 h11=>?_) no
    obtain ⟨_,H11,I11,_,e11⟩:=h11
    subst e11
    exact again hm I11 w10
 exact codeAny_compStart_list (loop _ rfl) (T.self _ 0 _ _ _ st4 (loop _ rfl))
theorem tX (hc:X.calm=true) (S:cQ X nm scope) (hi:PI X tg iter wi)
  (hg:∀ cl C s H fp,PG (aT X nm scope own cl C s H fp) tg g) (ht:∀ cl C s H fp,PTs (aT X nm scope own cl C s H fp) ifs tt) (he:∀ cl C s H fp,PE (aT X nm scope own cl C s H fp) elt te)
  (hs:∀ x,foldedSetIterable iter X.env x=pure x:=by intro _;rfl):PE X (.ListComp elt [⟨tg,iter,ifs,0⟩] scope pos) (tLC wi own.length g tt te):=by
 intro pins s σ H Q I h
 obtain ⟨cl,hclos,ju,vE⟩:=jt (env:=X.env) (scope:=scope) fun y hy hf=>I.ok.has y.1 (S.free y hy hf)
 rw [eval_ListComp]
 refine wpAny_comprehension_free (use:=none) rfl hs hclos S.kind S.names (thn (hi pins s σ H _ I h) fun v s1 h1=>thn h1 fun itv s2 h2=>?_)
 obtain ⟨it,fp,tn,J,H2,e,I2,T,st2,f2,hR⟩:=h2
 subst e
 refine l7 (Q:=Q) (RR:=fun acc C=>compPost (model X.prog X.w) X.A X.xe none (EP X pins σ Q) acc C) hc S ju vE hg ht he I2 T st2 f2 hR ?_
 intro D C H6 s6 I6 hCn hCL hCs hCc hCp hns q
 obtain ⟨m,hn⟩:=hns
 refine ⟨m,hn,fun h' hs'=>⟨.ref D,H6,I6.turned (t':=s6.toks) (fun b o hb e=>(hs'.2 b hb).trans e) hCn hCL (.inr hCs) hCc hCp,rfl,q⟩⟩
theorem oR {i:Nat} {y:Str} {py spos:Pos} (hN:X.N.Nodup) (hi':X.N[i]?=some y) (hy:Loc X.env.scope y) (hc:X.calm=true) (S:cQ X nm scope) (hi:PI X tg iter wi)
  (hg:∀ cl C s H fp,PG (aT X nm scope own cl C s H fp) tg g) (ht:∀ cl C s H fp,PTs (aT X nm scope own cl C s H fp) ifs tt) (he:∀ cl C s H fp,PE (aT X nm scope own cl C s H fp) elt te)
  (hsw:swapsWith (.ListComp elt [⟨tg,iter,ifs,0⟩] scope pos) (some (.Name y py)) spos.line X.env=pure true:=by rfl)
  (hs:∀ x,foldedSetIterable iter X.env x=pure x:=by intro _;rfl) (hf:X.fn y=true∨X.env.scope.names.lookup y=some .local:=by first | exact .inl rfl | exact .inr rfl | assumption) :
  PS X (.Assign [.Name y py] (.ListComp elt [⟨tg,iter,ifs,0⟩] scope pos) spos) (oB (tLC wi own.length g tt te) (gD i)):=by
 intro pins s σ H Dn I h
 obtain ⟨cl,hclos,ju,vE⟩:=jt (env:=X.env) (scope:=scope) fun y hy hf=>I.ok.has y.1 (S.free y hy hf)
 rw [exec_Assign_Name_used _ _ _ _ hsw]
 refine wpAny_bind (wpAny_standAt (wpAny_bind ?_))
 show wpAny _ X.A (do let _ ← comprehension (.ListComp elt [⟨tg,iter,ifs,0⟩] scope pos) scope X.env _ (newList []) false (eval iter X.env) (some (assign (.Name y py) X.env))) _ _ s
 refine wpAny_bind (wpAny_mono (wpAny_comprehension_free (use:=some (assign (.Name y py) X.env)) (Q:=fun _ s'=>SP X pins Dn .next s') rfl hs hclos S.kind S.names
  (thn (hi pins s σ H _ I h) fun v s1 h1=>thn h1 fun itv s2 h2=>?_)) (fun _ s' hq=>wpAny_pure (wpAny_pure hq)) fun _ _ e=>e)
 obtain ⟨it,fp,tn,J,H2,e,I2,T,st2,f2,hR⟩:=h2
 subst e
 refine l7 (Q:=fun x H1=>gD i x σ H1 Dn.nx) (RR:=fun acc C=>compPost (model X.prog X.w) X.A X.xe (some (assign (.Name y py) X.env)) (fun _ s'=>SP X pins Dn .next s') acc C) hc S ju vE hg ht he I2 T st2 f2 hR ?_
 intro D C H6 s6 I6 hCn hCL hCs hCc hCp hns q
 obtain ⟨m,hn⟩:=hns
 show wpAny _ X.A (assign (.Name y py) X.env (.ref D)) _ _ _
 refine wpAny_assign_Name (lR I6 hN hi' hy (v:=.ref D) rfl (fun s7 I7 h7=>?_) hf)
 obtain ⟨a,sb,ha⟩:=h7
 have hCa:C≠a:=by
  rcases ha with ha | ha
  ·rw [ha];exact hCL
  ·exact Ne.symm (hCc y a ha)
 refine ⟨m,hn.sameBut sb hCa,fun h' hs'=>⟨_,H6,I7.turned (t':=s7.toks) (fun b o hb e=>(hs'.2 b hb).trans e) hCn hCL (.inr hCs) hCc hCp,q⟩⟩
end
mutual
noncomputable def toPy:Dm.Dat→PyData
 | .non=>.none
 | .bl b=>.bool b
 | .int i=>.int i
 | .str s=>.str ⟨s.toArray⟩
 | .tup xs=>.tuple (bP xs)
 | .lst xs=>.list (bP xs)
 | .dct _ _=>.dict []
 | .exc _=>.dict []
 | .fn _=>.dict []
noncomputable def bP:List Dm.Dat→List PyData
 | []=>[]
 | x::xs=>toPy x::bP xs
end
mutual
theorem gO:∀ a b:Dm.Dat,PyData.eqv (toPy a) (toPy b)=Dm.eqD a b
 | .non,b=>by cases b<;>simp [toPy,PyData.eqv,Dm.eqD]
 | .bl x,b=>by cases b<;>simp [toPy,PyData.eqv,Dm.eqD,Dm.b2i]
 | .int x,b=>by cases b<;>simp [toPy,PyData.eqv,Dm.eqD,Dm.b2i]
 | .str x,b=>by
  cases b with
  | str y=>
   simp only [toPy,PyData.eqv,Dm.eqD]
   rw [Bool.eq_iff_iff]
   simp only [beq_iff_eq]
   constructor
   ·intro h
    have h:=congrArg (fun s:Str=>s.cps.toList) h
    simpa using h
   ·rintro rfl
    rfl
  | _=>simp [toPy,PyData.eqv,Dm.eqD]
 | .tup xs,b=>by
  cases b with
  | tup ys=>simp only [toPy,PyData.eqv,Dm.eqD];exact iu xs ys
  | _=>simp [toPy,PyData.eqv,Dm.eqD]
 | .lst xs,b=>by
  cases b with
  | lst ys=>simp only [toPy,PyData.eqv,Dm.eqD];exact iu xs ys
  | _=>simp [toPy,PyData.eqv,Dm.eqD]
 | .dct ks vs,b=>by cases b<;>simp [toPy,PyData.eqv,Dm.eqD]
 | .exc C,b=>by cases b<;>simp [toPy,PyData.eqv,Dm.eqD]
 | .fn C,b=>by cases b<;>simp [toPy,PyData.eqv,Dm.eqD]
theorem iu:∀ a b:List Dm.Dat,PyData.eqvAll (bP a) (bP b)=Dm.lI a b
 | [],b=>by cases b<;>simp [bP,PyData.eqvAll,Dm.lI]
 | x::xs,b=>by
  cases b with
  | nil=>simp [bP,PyData.eqvAll,Dm.lI]
  | cons y ys=>simp only [bP,PyData.eqvAll,Dm.lI];rw [gO x y,iu xs ys]
end
theorem xu {s:List Nat} (h:(s.all fun c=>decide (c<128))=true):PyData.strOk ⟨s.toArray⟩=true:=by
 unfold PyData.strOk
 rw [Array.all_eq_true']
 intro c hc
 have h1:=List.all_eq_true.mp h c (by simpa using hc)
 have h2:c<128:=of_decide_eq_true h1
 exact decide_eq_true (by omega)
theorem cD {P:Program} {w:World} {H:Hp} {h:Heap} (ok:HOk P w H h):∀ (n:Nat),
  (∀ (v:V) (d:Dm.Dat) (u:Value),Rep H v d→RelV v u→Dm.okD n d=true→∃ as,Reads h u (toPy d) as∧(toPy d).canLay0=true∧(toPy d).depth≤n) ∧
  (∀ (vs:List V) (ds:List Dm.Dat) (us:List Value),aF H vs ds→Vals vs us→ds.all (Dm.okD n)=true→∃ as,ReadsAll h us (bP ds) as∧PyData.canLayAll0 (bP ds)=true∧PyData.depthAll (bP ds)≤n):=by
 intro n
 induction n with
 | zero=>
  have one:∀ (v:V) (d:Dm.Dat) (u:Value),Rep H v d→RelV v u→Dm.okD 0 d=true→∃ as,Reads h u (toPy d) as∧(toPy d).canLay0=true∧(toPy d).depth≤0:=by
   intro v d u r rv k
   cases r with
   | non=>cases rv;exact ⟨_,.none,rfl,Nat.le_refl _⟩
   | bl b=>cases rv;exact ⟨_,.bool b,rfl,Nat.le_refl _⟩
   | int i=>obtain ⟨t,rfl⟩:=rv;exact ⟨_,.int i t,rfl,Nat.le_refl _⟩
   | str s=>obtain ⟨t,rfl⟩:=rv;exact ⟨_,.str _ t,xu k,Nat.le_refl _⟩
   | tup _ _=>cases k
   | lst _ _=>cases k
   | dct _ _ _=>cases k
   | exc _=>cases k
   | fn _=>cases k
  refine ⟨one,fun vs ds=>?_⟩
  induction ds generalizing vs with
  | nil=>intro us r rv _;cases r;cases rv;exact ⟨_,.nil,rfl,Nat.le_refl _⟩
  | cons d ds ih=>
   intro us r rv k
   cases r with
   | cons r rs=>
    cases rv with
    | cons q qs=>
     rw [List.all_cons,Bool.and_eq_true] at k
     obtain ⟨a1,h1,h2,h3⟩:=one _ _ _ r q k.1
     obtain ⟨a2,h4,h5,h6⟩:=ih _ _ rs qs k.2
     exact ⟨_,.cons h1 h4,by simp [bP,PyData.canLayAll0,h2,h5],by simp only [bP,PyData.depthAll];omega⟩
 | succ n ih=>
  have one:∀ (v:V) (d:Dm.Dat) (u:Value),Rep H v d→RelV v u→Dm.okD (n+1) d=true→∃ as,Reads h u (toPy d) as∧(toPy d).canLay0=true∧(toPy d).depth≤n+1:=by
   intro v d u r rv k
   cases r with
   | non=>cases rv;exact ⟨_,.none,rfl,Nat.zero_le _⟩
   | bl b=>cases rv;exact ⟨_,.bool b,rfl,Nat.zero_le _⟩
   | int i=>obtain ⟨t,rfl⟩:=rv;exact ⟨_,.int i t,rfl,Nat.zero_le _⟩
   | str s=>obtain ⟨t,rfl⟩:=rv;exact ⟨_,.str _ t,xu k,Nat.zero_le _⟩
   | tup q rs=>
    cases rv
    obtain ⟨z,its,vr,ob,e,hc,m,hd⟩:=ok _ _ q
    obtain ⟨as,h1,h2,h3⟩:=ih.2 _ _ _ rs vr k
    exact ⟨_,.tuple e hc hd h1,h2,by simp only [toPy,PyData.depth];omega⟩
   | lst q rs=>
    cases rv
    obtain ⟨z,its,m,vr,e⟩:=q.ok ok
    obtain ⟨as,h1,h2,h3⟩:=ih.2 _ _ _ rs vr k
    exact ⟨_,.list e rfl rfl h1,h2,by simp only [toPy,PyData.depth];omega⟩
   | dct _ _ _=>cases k
   | exc _=>cases k
   | fn _=>cases k
  refine ⟨one,fun vs ds=>?_⟩
  induction ds generalizing vs with
  | nil=>intro us r rv _;cases r;cases rv;exact ⟨_,.nil,rfl,Nat.zero_le _⟩
  | cons d ds ih=>
   intro us r rv k
   cases r with
   | cons r rs=>
    cases rv with
    | cons q qs=>
     rw [List.all_cons,Bool.and_eq_true] at k
     obtain ⟨a1,h1,h2,h3⟩:=one _ _ _ r q k.1
     obtain ⟨a2,h4,h5,h6⟩:=ih _ _ rs qs k.2
     exact ⟨_,.cons h1 h4,by simp [bP,PyData.canLayAll0,h2,h5],by simp only [bP,PyData.depthAll];omega⟩
theorem jo.full {H0 H:Hp} (s:aj H0 H) {v:V} {d:Dm.Dat} (r:jo H0 H v d):Rep H v d:=by
 rcases r with r | ⟨a,rfl,w⟩
 ·exact r.mono s
 ·cases d with
  | lst ds=>obtain ⟨xs,q,rs⟩:=w;exact .lst (.inl q) (rs.mono s)
  | dct ks ds=>obtain ⟨kvs,q,e,rs⟩:=w;exact .dct q e (rs.mono s)
  | _=>exact False.elim w
noncomputable def AI (neg:Bool):R2:=fun x y H Q=>∃ dx dy,Rep H x dx∧Rep H y dy∧Dm.okD 8 dx=true∧Dm.okD 8 dy=true∧Q (.bl (if neg then !Dm.eqD dx dy else Dm.eqD dx dy)) H
section
variable {X:Cx}
theorem xw {k:Nat} (hr:bE k X.A):OpR X (compareOp .Eq) (AI false):=by
 intro pins s σ H x y v u Q I rx ry h
 obtain ⟨dx,dy,r1,r2,k1,k2,q⟩:=h
 obtain ⟨as,h1,h2,h3⟩:=(cD I.hok 8).1 x dx v r1 rx k1
 obtain ⟨bs,h4,h5,h6⟩:=(cD I.hok 8).1 y dy u r2 ry k2
 have hu:=hr.units
 refine PySem.SeqAt.compareEq_reads h1 h4 h2 h5 (by omega) ?_
 rw [gO]
 exact ⟨.bl (Dm.eqD dx dy),H,I,rfl,q⟩
theorem xx {k:Nat} (hr:bE k X.A):OpR X (compareOp .NotEq) (AI true):=by
 intro pins s σ H x y v u Q I rx ry h
 obtain ⟨dx,dy,r1,r2,k1,k2,q⟩:=h
 obtain ⟨as,h1,h2,h3⟩:=(cD I.hok 8).1 x dx v r1 rx k1
 obtain ⟨bs,h4,h5,h6⟩:=(cD I.hok 8).1 y dy u r2 ry k2
 have hu:=hr.units
 refine PySem.SeqAt.compareNe_reads h1 h4 h2 h5 (by omega) ?_
 rw [gO]
 exact ⟨.bl (!Dm.eqD dx dy),H,I,rfl,q⟩
noncomputable def G6 (neg:Bool):R2:=fun x y H Q=>∃ dx ds,Rep H x dx∧(Rep H y (.lst ds)∨Rep H y (.tup ds))∧Dm.okD 8 dx=true∧ds.all (Dm.okD 7)=true∧Q (.bl (if neg then !Dm.inD dx ds else Dm.inD dx ds)) H
theorem jv (x:Dm.Dat):∀ ds:List Dm.Dat,((bP ds).any fun y=>PyData.eqv y (toPy x))=Dm.inD x ds
 | []=>rfl
 | d::ds=>by
  have:=jv x ds
  unfold Dm.inD at this ⊢
  simp only [bP,List.any_cons,gO]
  rw [this]
theorem vF {k:Nat} (hr:bE k X.A):OpR X (compareOp .NotIn) (G6 true):=by
 intro pins s σ H x y v u Q I rx ry h
 obtain ⟨dx,ds,r1,r2,k1,k2,q⟩:=h
 obtain ⟨as,h1,h2,h3⟩:=(cD I.hok 8).1 x dx v r1 rx k1
 have hu:=hr.units
 rcases r2 with r2 | r2
 ·obtain ⟨bs,h4,h5,h6⟩:=(cD I.hok 8).1 y (.lst ds) u r2 ry k2
  have h6:PyData.depthAll (bP ds)+1≤8:=h6
  refine PySem.SeqAt.notIn_list_reads h4 h1 h5 h2 (by omega) ?_
  rw [jv]
  exact ⟨.bl (!Dm.inD dx ds),H,I,rfl,q⟩
 ·obtain ⟨bs,h4,h5,h6⟩:=(cD I.hok 8).1 y (.tup ds) u r2 ry k2
  have h6:PyData.depthAll (bP ds)+1≤8:=h6
  refine PySem.SeqAt.notIn_tuple_reads h4 h1 h5 h2 (by omega) ?_
  rw [jv]
  exact ⟨.bl (!Dm.inD dx ds),H,I,rfl,q⟩
end
theorem aB {H0 H:Hp} {v:V} {i:Int} (r:jo H0 H v (.int i)):v=.int i:=by
 rcases r with r | ⟨a,_,w⟩
 ·exact Rep.isInt r
 ·exact False.elim w
theorem AJ {H0 H:Hp} {v:V} {b:Bool} (r:jo H0 H v (.bl b)):v=.bl b:=by
 rcases r with r | ⟨a,_,w⟩
 ·exact Rep.nj r
 ·exact False.elim w
theorem bB {H0 H:Hp} (s:aj H0 H) {v:V} {ds:List Dm.Dat} (r:jo H0 H v (.lst ds)):∃ a xs,v=.ref a∧Rd H a (.lst xs)∧aF H0 xs ds:=by
 rcases r with r | ⟨a,e,xs,q,rs⟩
 ·cases r with
  | lst q rs=>exact ⟨_,_,rfl,aj.rd s q,rs⟩
 ·exact ⟨a,xs,e,.inl q,rs⟩
theorem oS {H0 H:Hp} (s:aj H0 H) {v:V} {ds:List Dm.Dat} (r:jo H0 H v (.tup ds)):∃ a xs,v=.ref a∧H a=some (.tup xs)∧aF H0 xs ds:=by
 rcases r with r | ⟨a,_,w⟩
 ·cases r with
  | tup q rs=>exact ⟨_,_,rfl,s _ _ q,rs⟩
 ·exact False.elim w
theorem Ef:OpD (rI0 fun i j=>.int (i-j)) Dm.g9:=by
 intro H0 H x y dx dy z Q s rx ry e k
 unfold Dm.g9 at e
 split at e
 ·cases e;cases aB rx;cases aB ry
  exact ⟨_,_,rfl,rfl,k _ H0 H (aL.refl s) (.int _)⟩
 ·cases e
theorem Cp:OpD (rI0 fun i j=>.bl (decide (i<j))) Dm.gLt:=by
 intro H0 H x y dx dy z Q s rx ry e k
 unfold Dm.gLt at e
 split at e
 ·cases e;cases aB rx;cases aB ry
  exact ⟨_,_,rfl,rfl,k _ H0 H (aL.refl s) (.bl _)⟩
 ·cases e
theorem tY:OpD (rI0 fun i j=>.bl (decide (i≤j))) Dm.gLe:=by
 intro H0 H x y dx dy z Q s rx ry e k
 unfold Dm.gLe at e
 split at e
 ·cases e;cases aB rx;cases aB ry
  exact ⟨_,_,rfl,rfl,k _ H0 H (aL.refl s) (.bl _)⟩
 ·cases e
theorem G7:OpD (rI0 fun i j=>.bl (decide (j<i))) Dm.gGt:=by
 intro H0 H x y dx dy z Q s rx ry e k
 unfold Dm.gGt at e
 split at e
 ·cases e;cases aB rx;cases aB ry
  exact ⟨_,_,rfl,rfl,k _ H0 H (aL.refl s) (.bl _)⟩
 ·cases e
theorem G8:OpD (rI0 fun i j=>.bl (decide (j≤i))) Dm.gGe:=by
 intro H0 H x y dx dy z Q s rx ry e k
 unfold Dm.gGe at e
 split at e
 ·cases e;cases aB rx;cases aB ry
  exact ⟨_,_,rfl,rfl,k _ H0 H (aL.refl s) (.bl _)⟩
 ·cases e
theorem Eg:OpD (rI (fun _ j=>0<j) fun i j=>.int (i % j)) Dm.dh:=by
 intro H0 H x y dx dy z Q s rx ry e k
 unfold Dm.dh at e
 split at e
 ·split at e
  ·rename_i hj
   cases e;cases aB rx;cases aB ry
   exact ⟨_,_,rfl,rfl,hj,k _ H0 H (aL.refl s) (.int _)⟩
  ·cases e
 ·cases e
theorem Eh:OpD (rI GA fun i j=>.int (i ^ j.toNat)) Dm.fC:=by
 intro H0 H x y dx dy z Q s rx ry e k
 unfold Dm.fC at e
 split at e
 ·split at e
  ·rename_i hj
   cases e;cases aB rx;cases aB ry
   exact ⟨_,_,rfl,rfl,⟨hj.1,hj.2.1,Nat.lt_trans hj.2.2 (by decide)⟩,k _ H0 H (aL.refl s) (.int _)⟩
  ·cases e
 ·cases e
section
variable {X:Cx}
noncomputable def Cq (i j:Int):Prop:=0<j∧j<Dm.dX
theorem xy:OpR X (binaryOp .FloorDiv) (rI Cq fun i j=>.int (i / j)):=opI fun i j _ _ _ _ _ hc q=>by
 have h:j.natAbs.log2<9000:=by
  have h1:j.natAbs<2 ^ 200:=by
   have:=hc.2
   unfold Dm.dX at this
   have h2:=hc.1
   have e:(2:Nat) ^ 200=1606938044258990275541962092341162602522202993782792835301376:=by decide +kernel
   omega
  have h3:j.natAbs≠0:=by have:=hc.1;omega
  have:=(Nat.log2_lt h3).mpr h1
  omega
 have e:i.fdiv j=i / j:=Int.fdiv_eq_ediv_of_nonneg i (Int.le_of_lt hc.1)
 rw [← e] at q
 exact floordiv_int (Int.ne_of_gt hc.1) q (.inl (PyProof.noPylong_of_log2 h))
end
theorem Ei:OpD (rI Cq fun i j=>.int (i / j)) Dm.vz:=by
 intro H0 H x y dx dy z Q s rx ry e k
 unfold Dm.vz at e
 split at e
 ·split at e
  ·rename_i hj
   cases e;cases aB rx;cases aB ry
   exact ⟨_,_,rfl,rfl,hj,k _ H0 H (aL.refl s) (.int _)⟩
  ·cases e
 ·cases e
theorem Ej:UnD (rU fun i=>.int (-i)) Dm.AD:=by
 intro H0 H x dx z Q s rx e k
 unfold Dm.AD at e
 split at e
 ·cases e;cases aB rx
  exact ⟨_,rfl,k _ H0 H (aL.refl s) (.int _)⟩
 ·cases e
noncomputable def xA:R2:=fun x y H Q=>∃ l b xs zs,x=.ref l∧y=.ref b∧Rd H l (.lst xs)∧Rd H b (.lst zs)∧xs.length+zs.length≤sizeLine∧∀ p,H p=none→Q (.ref p) (upd H p (.lst (xs++zs)))
noncomputable def xB:R2:=fun x y H Q=>∃ l k xs,x=.ref l∧y=.int k∧Rd H l (.lst xs)∧-(2 ^ 63)≤k∧k<2 ^ 63∧xs.length*k.toNat≤sizeLine ∧
 ∀ p,H p=none→Q (.ref p) (upd H p (.lst (List.replicate k.toNat xs).flatten))
section
variable {X:Cx}
theorem AK:OpR X (binaryOp .Add) xA:=by
 intro pins s σ H x y v u Q I rx ry h
 obtain ⟨l,b,xs,zs,rfl,rfl,hH,hB,hz,q⟩:=h
 cases rx
 cases ry
 obtain ⟨z,its,n,r,e⟩:=hH.ok I.hok
 obtain ⟨z2,its2,n2,r2,e2⟩:=hB.ok I.hok
 have hl:=r.length
 have hl2:=r2.length
 refine PySem.P.add_list e e2 ?_ (by rw [List.size_toArray,List.size_toArray];omega)
 have ea:its.toArray++its2.toArray=(its++its2).toArray:=by simp
 rw [ea]
 exact ⟨.ref _,_,I.D0 (t':=s.toks) (r.append r2) (by rw [List.length_append];omega),rfl,q _ I.fresh⟩
theorem AL:OpR X (binaryOp .Mult) xB:=by
 intro pins s σ H x y v u Q I rx ry h
 obtain ⟨l,k,xs,rfl,rfl,hH,h1,h2,hz,q⟩:=h
 cases rx
 obtain ⟨t,rfl⟩:=ry
 obtain ⟨z,its,n,r,e⟩:=hH.ok I.hok
 have hl:=r.length
 have hlen:its.toArray.size*k.toNat≤sizeLine:=by rw [List.size_toArray,← hl];exact hz
 have hcap:¬ its.toArray.size*k.toNat>(2 ^ 63-1) / 8:=by
  have:(sizeLine:Nat)≤(2 ^ 63-1) / 8:=by decide
  omega
 have hfit:¬ (!Builtin.List.listFitsIndex k)=true:=by
  rw [fitsIndex_both h1 h2]
  exact Bool.false_ne_true
 have G9:¬ Builtin.List.listTooLong (its.toArray.size*k.toNat)=true:=by
  rw [wZ hlen]
  exact Bool.false_ne_true
 have hnew:List.foldl (fun x1 x2=>x1++x2) #[] (List.replicate (if its.toArray.isEmpty=true then 0 else k.toNat) its.toArray)=(List.replicate k.toNat its).flatten.toArray:=by
  have f0:∀ m:Nat,List.foldl (fun x1 x2=>x1++x2) #[] (List.replicate m its.toArray)=(List.replicate m its).flatten.toArray:=fun m=>by
   have:=foldl_rep its m []
   rw [List.nil_append] at this
   exact this
  rw [f0]
  cases its with
  | nil=>simp
  | cons a r'=>rw [if_neg (by simp)]
 refine wpAny_binaryOp_repeat_ref (T := "list") (U := "int") (by decide) ⟨_,e,rfl⟩ (fun s'=>typeIs_int s' k t) noFill_list_mul F.fills_int_mul F.slot_int_rmul repeat_list F.slot_int_index.lookup
  (call_meets F.slot_int_rmul (typeIs_int s k t) F.entry_int_rmul (F.args_int_rmul_2 _ _) (int___rmul___int_list k t l its.toArray n)
   ⟨e,rfl,⟨_,e,rfl⟩,call_meets F.slot_list_mul ⟨_,e,rfl⟩ F.entry_list_mul (F.args_list_mul_2 _ _) (AutoListH.list___mul___list_int_3 l its.toArray n k t hfit hcap G9) ⟨e,?_⟩⟩)
 rw [hnew]
 exact ⟨.ref _,_,I.D0 (t':=s.toks) (r.rep k.toNat) (by rw [len_rep,Nat.mul_comm];exact hz),rfl,q _ I.fresh⟩
theorem AM:OpR X (binaryOp .Add) (fun x y H Q=>rI0 (fun i j=>.int (i+j)) x y H Q∨xA x y H Q):=DJ.or AK
theorem AO:OpR X (binaryOp .Mult) (fun x y H Q=>rI wV (fun i j=>.int (i*j)) x y H Q∨xB x y H Q):=DL.or AL
end
theorem Ek:OpD (fun x y H Q=>rI0 (fun i j=>.int (i+j)) x y H Q∨xA x y H Q) Dm.bF:=by
 intro H0 H x y dx dy z Q s rx ry e k
 unfold Dm.bF at e
 split at e
 ·cases e;cases aB rx;cases aB ry
  exact .inl ⟨_,_,rfl,rfl,k _ H0 H (aL.refl s) (.int _)⟩
 ·split at e
  ·rename_i hz
   cases e
   obtain ⟨a,us,rfl,qa,ra⟩:=bB s rx
   obtain ⟨b,ws,rfl,qb,rb⟩:=bB s ry
   refine .inr ⟨a,b,us,ws,rfl,rfl,qa,qb,by rw [ra.length,rb.length];exact jc hz,fun p hp=>?_⟩
   exact k _ _ _ (aL.ng s hp) ⟨p,rfl,hp,s.free hp,_,aD,ra.append rb⟩
  ·cases e
 ·cases e
theorem El:OpD (fun x y H Q=>rI wV (fun i j=>.int (i*j)) x y H Q∨xB x y H Q) Dm.fB:=by
 intro H0 H x y dx dy z Q s rx ry e k
 unfold Dm.fB at e
 split at e
 ·split at e
  ·rename_i hj
   cases e;cases aB rx;cases aB ry
   exact .inl ⟨_,_,rfl,rfl,hj,k _ H0 H (aL.refl s) (.int _)⟩
  ·cases e
 ·split at e
  ·rename_i hz
   cases e;cases aB ry
   obtain ⟨a,us,rfl,qa,ra⟩:=bB s rx
   obtain ⟨h1,h2,h3⟩:=hz
   unfold Dm.BIG at h1 h2
   refine .inr ⟨a,_,us,rfl,rfl,qa,by omega,by omega,by rw [ra.length];exact jc h3,fun p hp=>?_⟩
   exact k _ _ _ (aL.ng s hp) ⟨p,rfl,hp,s.free hp,_,aD,ra.rep _⟩
  ·cases e
 ·cases e
theorem Cr:OpD (AI false) Dm.gEq:=by
 intro H0 H x y dx dy z Q s rx ry e k
 unfold Dm.gEq at e
 split at e
 ·rename_i hk
  rw [Bool.and_eq_true] at hk
  cases e
  exact ⟨dx,dy,rx.full s,ry.full s,hk.1,hk.2,k _ H0 H (aL.refl s) (.bl _)⟩
 ·cases e
theorem Ct:OpD (AI true) Dm.gNe:=by
 intro H0 H x y dx dy z Q s rx ry e k
 unfold Dm.gNe at e
 split at e
 ·rename_i hk
  rw [Bool.and_eq_true] at hk
  cases e
  exact ⟨dx,dy,rx.full s,ry.full s,hk.1,hk.2,k _ H0 H (aL.refl s) (.bl _)⟩
 ·cases e
theorem xC:OpD (G6 true) Dm.ie:=by
 intro H0 H x y dx dy z Q s rx ry e k
 unfold Dm.ie at e
 split at e
 ·split at e
  ·rename_i hk
   rw [Bool.and_eq_true] at hk
   cases e
   exact ⟨dx,_,rx.full s,.inl (ry.full s),hk.1,hk.2,k _ H0 H (aL.refl s) (.bl _)⟩
  ·cases e
 ·split at e
  ·rename_i hk
   rw [Bool.and_eq_true] at hk
   cases e
   exact ⟨dx,_,rx.full s,.inr (ry.full s),hk.1,hk.2,k _ H0 H (aL.refl s) (.bl _)⟩
  ·cases e
 ·cases e
theorem tZ {H0:Hp} {xs:List V} {ds:List Dm.Dat} {i:Int} {d:Dm.Dat} (rs:aF H0 xs ds) (e:Dm.atI ds i=some d):∃ v,L2.atI xs i=some v∧Rep H0 v d:=by
 unfold Dm.atI at e
 cases q:Dm.ixN ds.length i with
 | none=>rw [q] at e;cases e
 | some j=>
  rw [q] at e
  obtain ⟨v,hv,r⟩:=rs.get (i:=j) e
  refine ⟨v,?_,r⟩
  unfold L2.atI
  rw [rs.length]
  have q':L2.ixN ds.length i=some j:=q
  rw [q']
  exact hv
theorem G_ {K:PySem.W.Frag}:OpD (fun x y H Q=>DV K x y H Q∨GH K x y H Q) Dm.gIx:=by
 intro H0 H x y dx dy z Q s rx ry e k
 unfold Dm.gIx at e
 split at e
 ·rename_i ds i
  cases q:Dm.atI ds i with
  | none=>rw [q] at e;cases e
  | some d=>
   rw [q] at e;cases e
   cases aB ry
   obtain ⟨a,us,rfl,qa,ra⟩:=bB s rx
   obtain ⟨v,hv,rv⟩:=tZ ra q
   exact .inl ⟨a,us,i,v,rfl,rfl,.inl qa,hv,k _ H0 H (aL.refl s) rv⟩
 ·rename_i ds i
  cases q:Dm.atI ds i with
  | none=>rw [q] at e;cases e
  | some d=>
   rw [q] at e;cases e
   cases aB ry
   obtain ⟨a,us,rfl,qa,ra⟩:=oS s rx
   obtain ⟨v,hv,rv⟩:=tZ ra q
   exact .inr ⟨a,us,i,v,rfl,rfl,.inl (.inl qa),hv,k _ H0 H (aL.refl s) rv⟩
 ·cases e
theorem Em {K:PySem.W.Frag}:CallD (fun xs H Q=>∃ p ys,xs=[.ref p]∧(SqL K H p ys∨SqT K H p ys)∧Q (.int ys.length) H) Dm.e_:=by
 intro H0 H vs ds z Q s rs e k
 unfold Dm.e_ at e
 split at e
 ·cases e
  cases rs with
  | cons r rr=>
   cases rr
   obtain ⟨a,us,rfl,qa,ra⟩:=bB s r
   exact ⟨a,us,rfl,.inl (.inl qa),k _ H0 H (aL.refl s) (by rw [ra.length];exact .int _)⟩
 ·cases e
  cases rs with
  | cons r rr=>
   cases rr
   obtain ⟨a,us,rfl,qa,ra⟩:=oS s r
   exact ⟨a,us,rfl,.inr (.inl (.inl qa)),k _ H0 H (aL.refl s) (by rw [ra.length];exact .int _)⟩
 ·cases e
theorem AQ:CallD (fun xs H Q=>∃ i j,xs=[.int i,.int j]∧Q (.int (if j<i then j else i)) H) Dm.gG:=by
 intro H0 H vs ds z Q s rs e k
 unfold Dm.gG at e
 split at e
 ·cases e
  cases rs with
  | cons r rr=>
   cases rr with
   | cons r' rr=>
    cases rr
    cases aB r;cases aB r'
    exact ⟨_,_,rfl,k _ H0 H (aL.refl s) (.int _)⟩
 ·cases e
theorem AR:CallD (fun xs H Q=>∃ i j,xs=[.int i,.int j]∧Q (.int (if j>i then j else i)) H) Dm.gH:=by
 intro H0 H vs ds z Q s rs e k
 unfold Dm.gH at e
 split at e
 ·cases e
  cases rs with
  | cons r rr=>
   cases rr with
   | cons r' rr=>
    cases rr
    cases aB r;cases aB r'
    exact ⟨_,_,rfl,k _ H0 H (aL.refl s) (.int _)⟩
 ·cases e
noncomputable abbrev DS (X:Cx) (st:Stmt) (f:Dm.FS):Prop:=PS X st (tDS f)
noncomputable abbrev DSs (X:Cx) (st:List Stmt) (f:Dm.FS):Prop:=PSs X st (tDS f)
noncomputable abbrev DI (X:Cx) (tg it:Expr) (f:Dm.FI):Prop:=PI X tg it (tDI f)
theorem PI.weak {X:Cx} {tg it:Expr} {t t':TI} (h:PI X tg it t) (k:∀ σ H R,t' σ H R→t σ H R):PI X tg it t':=fun pins s σ H R I q=>h pins s σ H R I (k σ H R q)
section
variable {X:Cx} {a b c e:Expr} {fa fb fc f:Dm.FE} {pos:Pos}
theorem d_v (i:Nat) {x:Str} (hN:X.N[i]?=some x:=by rfl) (hv:Vis X.env.scope x:=by first | exact Or.inl rfl | exact Or.inr (Or.inl rfl) | exact Or.inr (Or.inr rfl)) (hd:(x == ("__debug__" : Str))=false:=by decide)
  (hcd:(x == ("__classdict__" : Str))=false:=by decide):DE X (.Name x pos) (Dm.eV i):=PE.weak (mW hN hv hd hcd) fun _ _ _=>GK
theorem d_i {i:Int} {j}:DE X (.Constant (.int i) j pos) (Dm.eC (.int i)):=PE.weak wG fun _ _ _=>ni fun _=>.int i
theorem d_b {v:Bool} {j}:DE X (.Constant (.bool v) j pos) (Dm.eC (.bl v)):=PE.weak Gu fun _ _ _=>ni fun _=>.bl v
theorem d_g {x:Str} {i:Int} {t:Tok} (hg:Gl X x) (hm:X.mg x=some (.int i t)) (hd:(x == ("__debug__" : Str))=false:=by decide):DE X (.Name x pos) (Dm.eC (.int i)):=
 PE.weak (Ao (v:=.int i) hg hm ⟨t,rfl⟩ hd) fun _ _ _=>ni fun _=>.int i
theorem rH {op:Operator} {r:R2} {g:Dm.Dat→Dm.Dat→Option Dm.RV} (o:OpR X (binaryOp op) r) (od:OpD r g) (ha:DE X a fa) (hb:DE X b fb):DE X (.BinOp a op b pos) (Dm.e2 g fa fb):=
 PE.weak (Gy o ha hb) fun _ _ _=>AE od
theorem bq (ha:DE X a fa) (hb:DE X b fb):DE X (.BinOp a .Add b pos) (Dm.e2 Dm.bF fa fb):=rH AM Ek ha hb
theorem l8 (ha:DE X a fa) (hb:DE X b fb):DE X (.BinOp a .Sub b pos) (Dm.e2 Dm.g9 fa fb):=rH DK Ef ha hb
theorem fm (ha:DE X a fa) (hb:DE X b fb):DE X (.BinOp a .Mult b pos) (Dm.e2 Dm.fB fa fb):=rH AO El ha hb
theorem Hg (ha:DE X a fa) (hb:DE X b fb):DE X (.BinOp a .FloorDiv b pos) (Dm.e2 Dm.vz fa fb):=rH xy Ei ha hb
theorem cJ (ha:DE X a fa) (hb:DE X b fb):DE X (.BinOp a .Mod b pos) (Dm.e2 Dm.dh fa fb):=rH DM Eg ha hb
theorem gP (ha:DE X a fa) (hb:DE X b fb):DE X (.BinOp a .Pow b pos) (Dm.e2 Dm.fC fa fb):=rH DO Eh ha hb
theorem Hh (ha:DE X a fa):DE X (.UnaryOp .USub a pos) (Dm.e1 Dm.AD fa):=PE.weak (Cg wW ha) fun _ _ _=>GL Ej
theorem oU {op:CmpOp} {r:R2} {g:Dm.Dat→Dm.Dat→Option Dm.RV} (o:OpR X (compareOp op) r) (od:OpD r g) (ha:DE X a fa) (hb:DE X b fb) (hm:behindInMarks op b=false):DE X (.Compare a [op] [b] pos) (Dm.e2 g fa fb):=
 PE.weak (Au o ha hb hm) fun _ _ _=>AE od
theorem l9 {op:CmpOp} {r:R2} {g:Dm.Dat→Dm.Dat→Option Dm.RV} (o:OpR X (compareOp op) r) (od:OpD r g) (ha:DE X a fa) (hb:DE X b fb) (hm:behindInMarks op b=false):DT X (.Compare a [op] [b] pos) (Dm.tV (Dm.e2 g fa fb)):=
 PT.weak (Av o ha hb hm) fun σ H Q h=>AE od (xm h)
theorem JH {k:Nat} (hr:bE k X.A) (ha:DE X a fa) (hb:DE X b fb):DE X (.Compare a [.Eq] [b] pos) (Dm.e2 Dm.gEq fa fb):=oU (xw hr) Cr ha hb (cN _)
theorem JI {k:Nat} (hr:bE k X.A) (ha:DE X a fa) (hb:DE X b fb):DE X (.Compare a [.NotEq] [b] pos) (Dm.e2 Dm.gNe fa fb):=oU (xx hr) Ct ha hb (cN _)
theorem JJ (ha:DE X a fa) (hb:DE X b fb):DE X (.Compare a [.Lt] [b] pos) (Dm.e2 Dm.gLt fa fb):=oU Ci Cp ha hb (cN _)
theorem JK (ha:DE X a fa) (hb:DE X b fb):DE X (.Compare a [.LtE] [b] pos) (Dm.e2 Dm.gLe fa fb):=oU tN tY ha hb (cN _)
theorem Hi {k:Nat} (hr:bE k X.A) (ha:DE X a fa) (hb:DE X b fb) (hm:behindInMarks .NotIn b=false:=by rfl):DE X (.Compare a [.NotIn] [b] pos) (Dm.e2 Dm.ie fa fb):=oU (vF hr) xC ha hb hm
theorem fE {k:Nat} (hr:bE k X.A) (ha:DE X a fa) (hb:DE X b fb):DT X (.Compare a [.Eq] [b] pos) (Dm.tV (Dm.e2 Dm.gEq fa fb)):=l9 (xw hr) Cr ha hb (cN _)
theorem jx {k:Nat} (hr:bE k X.A) (ha:DE X a fa) (hb:DE X b fb):DT X (.Compare a [.NotEq] [b] pos) (Dm.tV (Dm.e2 Dm.gNe fa fb)):=l9 (xx hr) Ct ha hb (cN _)
theorem JL (ha:DE X a fa) (hb:DE X b fb):DT X (.Compare a [.Lt] [b] pos) (Dm.tV (Dm.e2 Dm.gLt fa fb)):=l9 Ci Cp ha hb (cN _)
theorem JM (ha:DE X a fa) (hb:DE X b fb):DT X (.Compare a [.LtE] [b] pos) (Dm.tV (Dm.e2 Dm.gLe fa fb)):=l9 tN tY ha hb (cN _)
theorem Eo (ha:DE X a fa) (hb:DE X b fb):DT X (.Compare a [.Gt] [b] pos) (Dm.tV (Dm.e2 Dm.gGt fa fb)):=l9 GB G7 ha hb (cN _)
theorem Ep (ha:DE X a fa) (hb:DE X b fb):DT X (.Compare a [.GtE] [b] pos) (Dm.tV (Dm.e2 Dm.gGe fa fb)):=l9 GC G8 ha hb (cN _)
theorem aG (ha:DE X a fa) (hb:DE X b fb) (hs:m6 b:=by intro _ _;rfl):DE X (.Subscript a b pos) (Dm.e2 Dm.gIx fa fb):=PE.weak (Ck (tR.or DX) ha hb hs) fun _ _ _=>AE G_
theorem af:DA X [] []:=PA.weak g_ fun _ _ _=>GN
theorem aa {es:List Expr} {fs:List Dm.FE} (h:DE X e f) (r:DA X es fs) (hs:starEach (e::es) X.env=(false,eval e X.env)::starEach es X.env:=by rfl):DA X (e::es) (f::fs):=PA.weak (eL h r hs) fun _ _ _=>D6
theorem d7 {es:List Expr} {fs:List Dm.FE} {x1} (h:DA X es fs):DE X (.Tuple es x1 pos) (Dm.eU fs):=PE.weak (DQ h) fun _ _ _=>GO
theorem d8 {es:List Expr} {fs:List Dm.FE} (h:DA X es fs):DE X (.List es pos) (Dm.eW fs):=PE.weak (rq h) fun _ _ _=>GP
theorem xD {es:List Expr} {fs:List Dm.FE} {r:List V→Hp→VK→Prop} {g:List Dm.Dat→Option Dm.RV} {x:Str} {id:String} {p:Pos} (hc:cH X (.builtin id) r) (cd:CallD r g) (hv:bootBuiltins x=some (.builtin id)) (hg:Gl X x) (hm:X.mg x=none) (ha:DA X (e::es) fs)
  (hn:x ≠ "__name__" := by decide) (hdb:(x == ("__debug__" : Str))=false:=by decide) (he:starEach (e::es) X.env=(false,eval e X.env)::starEach es X.env:=by rfl) (hpl:(backTo pos (starEach es X.env)).any (·.1)=false:=by rfl) :
  DE X (.Call (.Name x p) (e::es) [] pos) (Dm.eB g fs):=PE.weak (jn hc hg hm hv ha hn hdb he hpl) fun _ _ _=>D7 cd
theorem Hj {es:List Expr} {fs:List Dm.FE} {r:List V→Hp→VK→Prop} {g:List Dm.Dat→Option Dm.RV} {x:Str} {T:String} {p:Pos} (hc:cH X (.type T) r) (cd:CallD r g) (hv:bootBuiltins x=some (.type T)) (hg:Gl X x) (hm:X.mg x=none) (ha:DA X (e::es) fs)
  (hn:x ≠ "__name__" := by decide) (hdb:(x == ("__debug__" : Str))=false:=by decide) (he:starEach (e::es) X.env=(false,eval e X.env)::starEach es X.env:=by rfl) (hpl:(backTo pos (starEach es X.env)).any (·.1)=false:=by rfl) :
  DE X (.Call (.Name x p) (e::es) [] pos) (Dm.eB g fs):=PE.weak (lW hc hg hm hv ha hn hdb he hpl) fun _ _ _=>D7 cd
variable {es:List Expr} {fs:List Dm.FE} {p:Pos}
theorem iP (hg:Gl X "len") (hm:X.mg "len" = none) (ha:DA X [e] fs) (he:starEach [e] X.env=[(false,eval e X.env)]:=by rfl) (hpl:(backTo pos (starEach [] X.env)).any (·.1)=false:=by rfl):DE X (.Call (.Name "len" p) [e] [] pos) (Dm.eB Dm.e_ fs):=xD m7 Em PySem.boot_len hg hm ha (he:=he) (hpl:=hpl)
theorem jy (hc:X.calm=true) (hg:Gl X "min") (hm:X.mg "min" = none) (ha:DA X [a,b] fs) (he:starEach [a,b] X.env=(false,eval a X.env)::starEach [b] X.env:=by rfl) (hpl:(backTo pos (starEach [b] X.env)).any (·.1)=false:=by rfl):DE X (.Call (.Name "min" p) [a,b] [] pos) (Dm.eB Dm.gG fs):=xD (vg hc) AQ (by rfl) hg hm ha (he:=he) (hpl:=hpl)
theorem jz (hc:X.calm=true) (hg:Gl X "max") (hm:X.mg "max" = none) (ha:DA X [a,b] fs) (he:starEach [a,b] X.env=(false,eval a X.env)::starEach [b] X.env:=by rfl) (hpl:(backTo pos (starEach [b] X.env)).any (·.1)=false:=by rfl):DE X (.Call (.Name "max" p) [a,b] [] pos) (Dm.eB Dm.gH fs):=xD (vf hc) AR (by rfl) hg hm ha (he:=he) (hpl:=hpl)
theorem ao {k:Nat} {F:Addr} {fd:FuncData} {ps:List Str} {g:List Dm.Dat→Option Dm.RV} {x:Str} (G:aR X.prog X.w X.K X.mg X.base CX0 k F fd ps (spD g)) (hr:bE k X.A) (hg:Gl X x) (hm:X.mg x=some (.ref F)) (hk:PySem.W.keepIn X.K (.ref F)=true) (hb:Binds X.K fd ps [])
  (ha:DA X (e::es) fs) (hdb:(x == ("__debug__" : Str))=false:=by decide) (he:starEach (e::es) X.env=(false,eval e X.env)::starEach es X.env:=by rfl) (hpl:(backTo pos (starEach es X.env)).any (·.1)=false:=by rfl) :
  DE X (.Call (.Name x p) (e::es) [] pos) (Dm.eF g fs):=PE.weak (m5 G hr hg hm hk hb .nil (xg (X:=X)) ha hdb he hpl) fun _ _ _=>D8
theorem vG {t:Dm.FT} {q:Expr} (hq:DT X q t) (ha:DE X a fa) (hb:DE X b fb):DE X (.IfExp q a b pos) (Dm.eIf t fa fb):=PE.weak (wH hq ha hb) fun _ _ _=>Jx
theorem oV {op} (h:DE X a fa):DE X (.BoolOp op [a] pos) fa:=Dt h
theorem jA {rest:List Expr} (ha:DE X a fa) (hb:DE X (.BoolOp .And (b::rest) pos) fb):DE X (.BoolOp .And (a::b::rest) pos) (Dm.ia fa fb):=PE.weak (Du ha hb) fun _ _ _=>GQ
theorem Hl (ha:DE X a fa):DE X (.UnaryOp .Not a pos) (Dm.AB fa):=PE.weak (Dv ha) fun _ _ _=>GR
noncomputable abbrev DW (X:Cx) (e:Expr) (f:Dm.FT):Prop:=PW X e (tDT f)
theorem PW.weak {t t':TT} (h:PW X e t) (k:∀ σ H Q,t' σ H Q→t σ H Q):PW X e t':=fun whole pins s σ H Q I q=>h whole pins s σ H Q I (k σ H Q q)
variable {ta tb:Dm.FT}
theorem xE (h:DT X a ta):DW X (.BoolOp .And [a] pos) ta:=pw_and1 h
theorem jB (h:DT X a ta):DW X (.BoolOp .Or [a] pos) ta:=pw_or1 h
theorem w_and {rest:List Expr} (ha:DT X a ta) (hb:DW X (.BoolOp .And (b::rest) pos) tb):DW X (.BoolOp .And (a::b::rest) pos) (Dm.jh ta tb):=PW.weak (pw_and ha hb) fun _ _ _=>D_
theorem w_or {rest:List Expr} (ha:DT X a ta) (hb:DW X (.BoolOp .Or (b::rest) pos) tb):DW X (.BoolOp .Or (a::b::rest) pos) (Dm.tOr ta tb):=PW.weak (pw_or ha hb) fun _ _ _=>GS
theorem t_w (h:DW X a ta):DT X a ta:=h.pt
theorem d9 (h:DT X a ta):DT X (.UnaryOp .Not a pos) (Dm.dc ta):=PT.weak (Dr h) fun _ _ _=>D9
theorem d_ (h:DE X e f) (he:∀ whole,isTrue e X.env whole=(do let v ← whole;standAt e.pos;holding [v] (truthy v)):=by intro _;rfl):DT X e (Dm.tV f):=PT.weak (Dq h he) fun _ _ _=>xm
variable {tg:Expr}
theorem vH (hg:Gl X "range") (hm:X.mg "range" = none) (ha:DA X [a] [fa]) (hs:starEach [a] X.env=[(false,eval a X.env)]:=by rfl):DI X tg (.Call (.Name "range" p) [a] [] pos) (Dm.iR1 fa):=
 PI.weak (vc hg hm ha hs) fun _ _ _=>G1
theorem Ho (hg:Gl X "range") (hm:X.mg "range" = none) (ha:DA X [a,b] [fa,fb]) (hs:starEach [a,b] X.env=[(false,eval a X.env),(false,eval b X.env)]:=by rfl) (hs2:starEach [b] X.env=[(false,eval b X.env)]:=by rfl):DI X tg (.Call (.Name "range" p) [a,b] [] pos) (Dm.iR2 fa fb):=
 PI.weak (vd hg hm ha hs hs2) fun _ _ _=>G3
end
section
variable {X:Cx} {st:Stmt} {rest:List Stmt} {fs gs:Dm.FS} {e a b c:Expr} {f fa fb:Dm.FE} {pos:Pos}
theorem bA:DSs X [] Dm.sNx:=PSs.weak tH fun _ _ _=>Jy
theorem ai (h1:DS X st fs) (h2:DSs X rest gs):DSs X (st::rest) (Dm.aA fs gs):=PSs.weak (gC h1 h2) fun _ _ _=>GV
theorem aq (h1:DS X st fs):DSs X [st] fs:=tK h1
theorem s_a (i:Nat) {x:Str} {pos':Pos} (hN:X.N.Nodup) (he:DE X e f) (hi:X.N[i]?=some x:=by rfl) (hx:Loc X.env.scope x:=by first | exact Or.inl rfl | exact Or.inr rfl) (hs:swapsWith e (some (.Name x pos')) pos.line X.env=pure false:=by rfl)
  (hf:X.fn x=true∨X.env.scope.names.lookup x=some .local:=by first | exact .inl rfl | exact .inr rfl | assumption):DS X (.Assign [.Name x pos'] e pos) (Dm.sA i f):=PS.weak (qY hN hi hx he hs hf) fun _ _ _=>Co
theorem jC:PGs X [] (cO []):=Ar
theorem bJ {es:List Expr} {is:List Nat} (i:Nat) {x:Str} {px:Pos} (hN:X.N.Nodup) (h2:PGs X es (cO is)) (hi:X.N[i]?=some x:=by rfl) (hx:Loc X.env.scope x:=by first | exact Or.inl rfl | exact Or.inr rfl)
  (hf:X.fn x=true∨X.env.scope.names.lookup x=some .local:=by first | exact .inl rfl | exact .inr rfl | assumption) (hs:(assignEach (.Name x px::es) X.env).map (·.2)=assign (.Name x px) X.env::(assignEach es X.env).map (·.2):=by rfl):PGs X (.Name x px::es) (cO (i::is)):=wN (mY hN hi hx hf) h2 hs
theorem s_u {is:List Nat} {es:List Expr} {k:Nat} {tpos:Pos} (hc:X.calm=true) (hg:PGs X es (cO is)) (he:DE X e f) (hn:(assignEach es X.env).length=is.length:=by rfl) (hst:(assignEach es X.env).findIdx? (·.1)=none:=by rfl)
  (hs:swapsWithSole [.Tuple es k tpos] e pos.line X.env=pure false:=by rfl) (hw:swappedStores [.Tuple es k tpos] e X.env=pure none:=by rfl) (h1:(assignEach [.Tuple es k tpos] X.env).map (·.2)=[assign (.Tuple es k tpos) X.env]:=by rfl) :
  DS X (.Assign [.Tuple es k tpos] e pos) (Dm.sU is f):=PS.weak (wO he (qX hc hg hn hst) hs hw h1) fun _ _ _=>xo rfl
theorem s_e (he:DE X e f) (hs:swapsWith e none pos.line X.env=pure false:=by rfl):DS X (.Expr e pos) (Dm.sE f):=PS.weak (mX he hs) fun _ _ _=>Ea
theorem s_r (he:DE X e f):DS X (.Return (some e) pos) (Dm.sR f):=PS.weak (Dw he) fun _ _ _=>GW
theorem b8 {t:Dm.FT} {x y:List Stmt} (ht:DT X c t) (ha:DSs X x fs) (hb:DSs X y gs):DS X (.If c x y pos) (Dm.sIf t fs gs):=PS.weak (Cc ht ha hb) fun _ _ _=>GX
theorem JN:DS X (.Break pos) Dm.sBk:=PS.weak wL fun _ _ _=>Jz
theorem eN:DS X st (fun _=>none):=PS.weak wM fun _ _ _ ⟨_,_,_,_,z,_⟩=>by cases z
theorem t7 (i:Nat) {x:Str} {px ap cp:Pos} (he:DE X e f) (hi:X.N[i]?=some x:=by rfl) (hv:Vis X.env.scope x:=by first | exact Or.inl rfl | exact Or.inr (Or.inl rfl) | exact Or.inr (Or.inr rfl)) (hd:(x == ("__debug__" : Str))=false:=by decide)
  (hcd:(x == ("__classdict__" : Str))=false:=by decide) (hbase:attributeBase (.Name x px) "append" X.env (eval (.Name x px) X.env)=eval (.Name x px) X.env:=by rfl)
  (hfew:((backTo cp (starEach [e] X.env)).all (fun x=>!x.1)&&(backToKw cp (keywordEach [] X.env)).all (fun x=>x.1.isSome)
   && decide ([e].length+([]:List Keyword).length+(if ([]:List Keyword).isEmpty then 0 else 1)<30))=true:=by rfl)
  (hline:(ap.endLine == cp.line)=true:=by rfl) (hs:starEach [e] X.env=(false,eval e X.env)::starEach [] X.env:=by rfl) (hplain:(backTo cp (starEach [] X.env)).any (·.1)=false:=by rfl)
  (hsw:swapsWith (.Call (.Attribute (.Name x px) "append" ap) [e] [] cp) none pos.line X.env=pure false:=by rfl) :
  DS X (.Expr (.Call (.Attribute (.Name x px) "append" ap) [e] [] cp) pos) (Dm.m9 i f):=
 PS.weak (mX (Cn PySem.F.plainAttrs_list PySem.F.slot_list_append PySem.F.type_list_append h_ (mW hi hv hd hcd) (aa he af hs) hbase hfew hline hs hplain) hsw) fun _ _ _=>GY
theorem xF (i:Nat) {x:Str} {j:Expr} {fj:Dm.FE} {px sp:Pos} (hj:DE X j fj) (he:DE X e f) (hi:X.N[i]?=some x:=by rfl) (hv:Vis X.env.scope x:=by first | exact Or.inl rfl | exact Or.inr (Or.inl rfl) | exact Or.inr (Or.inr rfl)) (hd:(x == ("__debug__" : Str))=false:=by decide)
  (hcd:(x == ("__classdict__" : Str))=false:=by decide) (ha:∀ v,assign (.Subscript (.Name x px) j sp) X.env v=(do
   let ov ← holding [v] (eval (.Name x px) X.env)
   let iv ← holding [v,ov] (eval j X.env)
   standAt sp
   holding [v,ov,iv] (setItem ov iv v)
   release [v,ov,iv] []):=by intro _;rfl)
  (hs:swapsWithSole [.Subscript (.Name x px) j sp] e pos.line X.env=pure false:=by rfl) (hw:swappedStores [.Subscript (.Name x px) j sp] e X.env=pure none:=by rfl) (h1:(assignEach [.Subscript (.Name x px) j sp] X.env).map (·.2)=[assign (.Subscript (.Name x px) j sp) X.env]:=by rfl) :
  DS X (.Assign [.Subscript (.Name x px) j sp] e pos) (Dm.oK i fj f):=PS.weak (wO he (DF (mW hi hv hd hcd) hj set_list ha) hs hw h1) fun _ _ _=>GZ
structure TG' (X:Cx) (tg:Expr) (is:List Nat) (bd:Dm.FB):Prop where
 ex:∃ g,PG X tg g∧BD is g bd
theorem g_n (i:Nat) {x:Str} {px:Pos} (hN:X.N.Nodup) (hi:X.N[i]?=some x:=by rfl) (hx:Loc X.env.scope x:=by first | exact Or.inl rfl | exact Or.inr rfl) (hf:X.fn x=true∨X.env.scope.names.lookup x=some .local:=by first | exact .inl rfl | exact .inr rfl | assumption) :
  TG' X (.Name x px) [i] (Dm.bN i):=⟨⟨_,mY hN hi hx hf,tW i⟩⟩
theorem g_t {is:List Nat} {es:List Expr} {k:Nat} {tpos:Pos} (hc:X.calm=true) (hg:PGs X es (cO is)) (hn:(assignEach es X.env).length=is.length:=by rfl) (hst:(assignEach es X.env).findIdx? (·.1)=none:=by rfl):TG' X (.Tuple es k tpos) is (Dm.bT is):=
 ⟨⟨_,qX hc hg hn hst,xq is rfl⟩⟩
theorem fq {tg it:Expr} {fi:Dm.FI} {is:List Nat} {bd:Dm.FB} {body:List Stmt} (hp:PassesOwn (model X.prog X.w) X.A X.env X.xe) (hc:X.calm=true) (hi:DI X tg it fi) (hg:TG' X tg is bd) (hb:DSs X body fs)
  (hs:∀ x,foldedSetIterable it X.env x=pure x:=by intro _;rfl):DS X (.For tg it body [] pos) (Dm.fy fi bd fs):=by
 obtain ⟨g,h1,h2⟩:=hg.ex
 exact PS.weak (wU hp hc hi h1 hb hs) fun _ _ _=>G0 h2
end
noncomputable def tyName:Dm.Dat→String
 | .non => "NoneType"
 | .bl _ => "bool"
 | .int _ => "int"
 | .str _ => "str"
 | .tup _ => "tuple"
 | .lst _ => "list"
 | .dct _ _ => "dict"
 | .exc _ => "dict"
 | .fn _ => "dict"
noncomputable def vJ (T:String) (p:Dm.Dat→Bool):Prop:=∀ (K:PySem.W.Frag) (d:Dm.Dat),PySem.W.kitOne K (.type (tyName d)) (.type T)=some (p d)
theorem AS:vJ "int" Dm.isI:=fun K d=>by cases d<;>rfl
theorem xG:vJ "bool" Dm.isB:=fun K d=>by cases d<;>rfl
theorem xH:vJ "list" Dm.isL:=fun K d=>by cases d<;>rfl
theorem kit_tuple:vJ "tuple" Dm.isT:=fun K d=>by cases d<;>rfl
theorem xJ {K:PySem.W.Frag} {H:Hp} {v:V} {d:Dm.Dat} (r:Rep H v d) (nx:∀ C,d≠.exc C∧d≠.fn C):gF K H v (.type (tyName d)):=by
 cases r with
 | non=>exact .non
 | bl b=>exact .bl b
 | int i=>exact .int i
 | str s=>exact .str _
 | tup q _=>exact .tup q
 | lst q _=>
  rcases q with q | ⟨o,q⟩
  ·exact .lst q
  ·exact .frz q
 | dct q _ _=>exact .dK q
 | exc _=>exact absurd rfl (nx _).1
 | fn _=>exact absurd rfl (nx _).2
noncomputable def Hq (K:PySem.W.Frag) (T:String):List V→Hp→VK→Prop:=fun xs H Q=>∃ x t b,xs=[x,.ty T]∧gF K H x t∧PySem.W.kitOne K t (.type T)=some b∧Q (.bl b) H
section
variable {X:Cx} {e:Expr} {f:Dm.FE} {p p2 pos:Pos}
theorem xK {T:String}:cH X (.builtin "isinstance") (Hq X.K T):=by
 intro pins s σ H xs us Q I r h
 obtain ⟨x,t,b,rfl,ty,e,q⟩:=h
 obtain ⟨u,u2,rfl,rx,ry⟩:=vals2 r
 cases ry
 exact vn I rx ty e fun tk=>⟨.bl b,H,I.tok tk,rfl,q⟩
theorem Hr {K:PySem.W.Frag} {T:String} {p:Dm.Dat→Bool} (kp:vJ T p) {σ:L2.St} {H:Hp} {Q:VK} (h:tD (Dm.e1 (Dm.oM p) f) σ H Q):tCB (Hq K T) (jj (tD f) (jj (tC (.ty T)) rm)) σ H Q:=by
 obtain ⟨H0,ρ,x,ρ',st,e,k⟩:=h
 unfold Dm.e1 at e
 split at e
 ·cases e
 rename_i x1 ρ1 e1
 split at e
 ·cases e
 rename_i dx p1
 have nx:∀ C,dx≠.exc C∧dx≠.fn C:=fun C=>⟨fun z=>(by subst z;cases e),fun z=>(by subst z;cases e)⟩
 have ev:Dm.oM p dx=Dm.vB (p dx):=by cases dx<;>first | rfl | exact absurd rfl (nx _).1 | exact absurd rfl (nx _).2
 rw [ev] at e
 dsimp only at e
 cases e
 refine ⟨H0,ρ,x1,_,st,e1,fun v H1 Hb t1 r1=>?_⟩
 exact ⟨v,_,_,rfl,xJ ((r1.look t1.st p1).full t1.st.same) nx,kp K dx,k _ H1 Hb t1 (Rep.bl _)⟩
theorem oW {T:String} {tn:Str} {p':Dm.Dat→Bool} (kp:vJ T p') (hvT:bootBuiltins tn=some (.type T)) (hgT:Gl X tn) (hmT:X.mg tn=none) (hg:Gl X "isinstance") (hm:X.mg "isinstance" = none) (h:DE X e f)
  (hn:tn ≠ "__name__" := by decide) (hdb:(tn == ("__debug__" : Str))=false:=by decide)
  (he:starEach [e,.Name tn p2] X.env=(false,eval e X.env)::starEach [.Name tn p2] X.env:=by rfl) (hpl:(backTo pos (starEach [.Name tn p2] X.env)).any (·.1)=false:=by rfl) (he2:starEach [.Name tn p2] X.env=(false,eval (.Name tn p2) X.env)::starEach [] X.env:=by rfl) :
  DE X (.Call (.Name "isinstance" p) [e,.Name tn p2] [] pos) (Dm.e1 (Dm.oM p') f):=
 PE.weak (jn xK hg hm PyProof.Rows.boot_isinstance (eL h (eL (Aq (v:=.ty T) hgT hmT hvT rfl hn hdb) g_ he2) he) (he:=he) (hpl:=hpl)) fun _ _ _=>Hr kp
theorem all_range (bs:List Bool):(List.range bs.length).all (fun i=>bs.getD i true)=bs.all id:=by
 rw [Bool.eq_iff_iff,List.all_eq_true,List.all_eq_true]
 constructor
 ·intro h b hb
  obtain ⟨i,hi,rfl⟩:=List.mem_iff_getElem.mp hb
  have:=h i (List.mem_range.mpr hi)
  rw [List.getD_eq_getElem?_getD,List.getElem?_eq_getElem hi] at this
  exact this
 ·intro h i hi
  have hi:=List.mem_range.mp hi
  rw [List.getD_eq_getElem?_getD,List.getElem?_eq_getElem hi]
  exact h _ (List.getElem_mem hi)
theorem vK (hc:X.calm=true):cH X (.builtin "all") (fun xs H Q=>∃ (a:Addr) (bs:List Bool),xs=[.ref a]∧Rd H a (.lst (bs.map V.bl))∧Q (.bl (bs.all id)) H):=by
 intro pins s σ H xs us Q I r h
 obtain ⟨a,bs,rfl,hq,q⟩:=h
 obtain ⟨u,rfl,rx⟩:=vals1 r
 cases rx
 obtain ⟨z,its,n,rv,e⟩:=hq.ok I.hok
 have hl:s.heap.IsList a its.toArray:=⟨_,e,rfl,_,rfl⟩
 have hlen:=rv.length
 rw [List.length_map] at hlen
 have hax:a≠s.heap.objs.size:=Nat.ne_of_lt (Heap.lt_size e)
 refine PySem.call_all_walk (wpAny_pyIter_list hl ⟨s.heap.objs.size,_,_,_,_,_,fun i=>bs.getD i true,rfl,Walks.list (A:=X.A.in1) (I.ok.hd hc) s.heap.objs.size a hax its.toArray,⟨⟨_,Heap.get?_push_size _ rfl,rfl,rfl⟩,hl.push _⟩,?_,fun h' tk hk=>?_⟩)
 ·intro i v s' Q' E' hv hQ'
  have hv':its[i]?=some v:=by simpa using hv
  have hi:i<bs.length:=by rw [hlen];exact (List.getElem?_eq_some_iff.mp hv').1
  have hb:(bs.map V.bl)[i]?=some (V.bl bs[i]):=by rw [List.getElem?_map,List.getElem?_eq_getElem hi];rfl
  obtain ⟨u,hu,ru⟩:=rv.get hb
  rw [hv'] at hu
  cases hu
  cases ru
  refine wpAny_truthy_bool ?_
  have e2:bs.getD i true=bs[i]:=by rw [List.getD_eq_getElem?_getD,List.getElem?_eq_getElem hi];rfl
  rw [← e2]
  exact hQ'
 ·have e1:its.toArray.size=bs.length:=by rw [List.size_toArray,hlen]
  rw [e1,all_range]
  refine ⟨.bl _,H,I.kept (t':=tk) fun b o eb=>hk b o ?_ (Heap.get?_push_of_some _ eb),rfl,q⟩
  intro hm
  have:b=s.heap.objs.size:=by simpa using hm
  exact absurd (Heap.lt_size eb) (by rw [this];exact Nat.lt_irrefl _)
end
section
variable {X:Cx} {a b c e:Expr} {f fa fb fc:Dm.FE} {p p2 pos:Pos}
theorem AU {r r':R2} {g h:Dm.Dat→Dm.Dat→Option Dm.RV} (o1:OpD r g) (o2:OpD r' h) {σ:L2.St} {H:Hp} {Q:VK} (hh:tD (Dm.ir g h fa fb fc) σ H Q):wX r r' (tD fa) (tD fb) (tD fc) σ H Q:=by
 obtain ⟨H0,ρ,x,ρ',st,e,k⟩:=hh
 unfold Dm.ir at e
 split at e
 ·cases e
 rename_i x1 ρ1 e1
 split at e
 ·cases e
 rename_i y1 ρ2 e2
 split at e
 ·cases e
 rename_i dx p1
 split at e
 ·cases e
 rename_i dy p2
 refine ⟨H0,ρ,x1,ρ1,st,e1,fun v H1 Hb t1 r1=>⟨H1,ρ1,y1,ρ2,t1.st,e2,fun u H2 Hc t2 r2=>?_⟩⟩
 split at e
 ·rename_i gz
  refine o1 H2 Hc v u dx dy _ _ t2.st.same ((r1.mono t2).look t2.st p1) (r2.look t2.st p2) gz fun w H3 Hd g3 r3=>?_
  refine ⟨true,Rep.nj r3,?_⟩
  rw [if_pos rfl]
  have t3:=t2.trans (.grow t2.st g3)
  have r2':=r2.mono (.grow t2.st g3)
  split at e
  ·cases e
  rename_i z ρ3 e3
  split at e
  ·cases e
  rename_i dy' p3
  split at e
  ·cases e
  rename_i dz p4
  split at e
  ·cases e
  rename_i w2 hz
  cases e
  refine ⟨H3,ρ2,z,_,t3.st,e3,fun w' H4 He t4 r4=>?_⟩
  refine o2 H4 He u w' dy' dz w2 Q t4.st.same ((r2'.mono t4).look t4.st p3) (r4.look t4.st p4) hz fun w5 H5 Hf g5 r5=>?_
  exact k w5 H5 Hf (t1.trans (t3.trans (t4.trans (.grow t4.st g5)))) ((r5.toV t4.st).early fun a n=>(t1.trans (t3.trans t4)).stp.gone n)
 ·rename_i gz
  cases e
  refine o1 H2 Hc v u dx dy _ _ t2.st.same ((r1.mono t2).look t2.st p1) (r2.look t2.st p2) gz fun w H3 Hd g3 r3=>?_
  refine ⟨false,Rep.nj r3,?_⟩
  rw [if_neg Bool.false_ne_true]
  exact k _ H3 Hd (t1.trans (t2.trans (.grow t2.st g3))) (Rep.bl false)
 ·cases e
theorem AV {op op':CmpOp} {r r':R2} {g h:Dm.Dat→Dm.Dat→Option Dm.RV} (o1:OpR X (compareOp op) r) (q1:OpD r g) (o2:OpR X (compareOp op') r') (q2:OpD r' h) (ha:DE X a fa) (hb:DE X b fb) (hc:DE X c fc)
  (hm:lastMarks [op,op'] [b,c]=false:=by with_unfolding_all rfl):DE X (.Compare a [op,op'] [b,c] pos) (Dm.ir g h fa fb fc):=PE.weak (wY o1 o2 ha hb hc hm) fun _ _ _=>AU q1 q2
end
section
variable {X:Cx} {nm:List Str} {elt tg iter:Expr} {ifs:List Expr} {scope:Scope} {pos:Pos} {own:List Str} {fi:Dm.FI} {bd:Dm.FB} {is:List Nat} {t:Dm.FT} {f:Dm.FE}
noncomputable abbrev DTs (X:Cx) (ifs:List Expr) (t:Dm.FT):Prop:=PTs X ifs (tDT t)
theorem di:DTs X [] Dm.cS:=fun pins s σ H Q I h=>by
 obtain ⟨H0,ρ,b,ρ',st,e,k⟩:=h
 cases e
 exact AG pins s σ H Q I (k H0 H (.refl st))
theorem rJ {c:Expr} (h:DT X c t):DTs X [c] t:=AH h
structure TGc (X:Cx) (nm:List Str) (scope:Scope) (own:List Str) (tg:Expr) (is:List Nat) (bd:Dm.FB):Prop where
 ex:∃ g,(∀ cl C s H fp,PG (aT X nm scope own cl C s H fp) tg g)∧BD is g bd
theorem c_n (i:Nat) {x:Str} {px:Pos} (hN:(nm++own).Nodup) (hi:(nm++own)[i]?=some x) (hx:(relabel scope X.env).names.lookup x=some .local):TGc X nm scope own (.Name x px) [i] (Dm.bN i):=
 ⟨⟨_,fun cl C s H fp=>mY (X:=aT X nm scope own cl C s H fp) hN hi (.inl hx) (.inr hx),tW i⟩⟩
theorem c_t {es:List Expr} {k:Nat} {tpos:Pos} (hc:X.calm=true) (hg:∀ cl C s H fp,PGs (aT X nm scope own cl C s H fp) es (cO is)) (hn:∀ cl C,(assignEach es (compEnvC scope cl C X.env)).length=is.length:=by intro _ _;rfl)
  (hst:∀ cl C,(assignEach es (compEnvC scope cl C X.env)).findIdx? (·.1)=none:=by intro _ _;rfl):TGc X nm scope own (.Tuple es k tpos) is (Dm.bT is):=
 ⟨⟨_,fun cl C s H fp=>qX (X:=aT X nm scope own cl C s H fp) hc (hg cl C s H fp) (hn cl C) (hst cl C),xq is rfl⟩⟩
theorem Er (hc:X.calm=true) (S:cQ X nm scope) (hi:DI X tg iter fi) (hg:TGc X nm scope own tg is bd) (ht:∀ cl C s H fp,DTs (aT X nm scope own cl C s H fp) ifs t) (he:∀ cl C s H fp,DE (aT X nm scope own cl C s H fp) elt f)
  (hl:∀ i∈is,X.N.length≤i) (hs:∀ x,foldedSetIterable iter X.env x=pure x:=by intro _;rfl):DE X (.ListComp elt [⟨tg,iter,ifs,0⟩] scope pos) (Dm.bG fi own.length bd t f):=by
 obtain ⟨g,h1,h2⟩:=hg.ex
 intro pins s σ H Q I h
 exact tX hc S hi h1 ht he hs pins s σ H Q I (rG h2 (fun i hi=>by rw [I.len];exact hl i hi) h)
theorem Es (j:Nat) {y:Str} {py spos:Pos} (hN:X.N.Nodup) (hc:X.calm=true) (S:cQ X nm scope) (hi:DI X tg iter fi) (hg:TGc X nm scope own tg is bd) (ht:∀ cl C s H fp,DTs (aT X nm scope own cl C s H fp) ifs t) (he:∀ cl C s H fp,DE (aT X nm scope own cl C s H fp) elt f)
  (hl:∀ i∈is,X.N.length≤i) (hj:X.N[j]?=some y:=by rfl) (hy:Loc X.env.scope y:=by first | exact Or.inl rfl | exact Or.inr rfl)
  (hsw:swapsWith (.ListComp elt [⟨tg,iter,ifs,0⟩] scope pos) (some (.Name y py)) spos.line X.env=pure true:=by rfl) (hs:∀ x,foldedSetIterable iter X.env x=pure x:=by intro _;rfl)
  (hf:X.fn y=true∨X.env.scope.names.lookup y=some .local:=by first | exact .inl rfl | exact .inr rfl | assumption):DS X (.Assign [.Name y py] (.ListComp elt [⟨tg,iter,ifs,0⟩] scope pos) spos) (Dm.sA j (Dm.bG fi own.length bd t f)):=by
 obtain ⟨g,h1,h2⟩:=hg.ex
 intro pins s σ H D I h
 exact oR hN hj hy hc S hi h1 ht he hsw hs hf pins s σ H D I (rG h2 (fun i hi=>by rw [I.len];exact hl i hi) (Co h))
end
theorem jD {H0:Hp}:∀ {ds:List Dm.Dat} {bs:List Bool} {vs:List V},aF H0 vs ds→Dm.bools ds=some bs→vs=bs.map V.bl
 | [],bs,vs,r,e=>by cases r;cases e;rfl
 | .bl b::ds,bs,vs,r,e=>by
  cases r with
  | cons r rs=>
   unfold Dm.bools at e
   cases q:Dm.bools ds with
   | none=>rw [q] at e;cases e
   | some cs=>
    rw [q] at e
    cases e
    cases Rep.nj r
    rw [jD rs q]
    rfl
 | .non::ds,bs,vs,r,e=>by cases e
 | .int _::ds,bs,vs,r,e=>by cases e
 | .str _::ds,bs,vs,r,e=>by cases e
 | .tup _::ds,bs,vs,r,e=>by cases e
 | .lst _::ds,bs,vs,r,e=>by cases e
 | .dct _ _::ds,bs,vs,r,e=>by cases e
theorem Et:CallD (fun xs H Q=>∃ (a:Addr) (bs:List Bool),xs=[.ref a]∧Rd H a (.lst (bs.map V.bl))∧Q (.bl (bs.all id)) H) Dm.rA:=by
 intro H0 H vs ds z Q s rs e k
 unfold Dm.rA at e
 split at e
 ·split at e
  ·rename_i bs hb
   cases e
   cases rs with
   | cons r rr=>
    cases rr
    obtain ⟨a,us,rfl,qa,ra⟩:=bB s r
    have:=jD ra hb
    subst this
    exact ⟨a,bs,rfl,qa,k _ H0 H (aL.refl s) (.bl _)⟩
  ·cases e
 ·cases e
theorem Eu:CallD (fun xs H Q=>(∃ i,xs=[.int i]∧Q (.int i) H)∨∃ k,xs=[.bl k]∧Q (.int (if k then 1 else 0)) H) Dm.xh:=by
 intro H0 H vs ds z Q s rs e k
 unfold Dm.xh at e
 split at e
 ·cases e
  cases rs with
  | cons r rr=>
   cases rr
   cases aB r
   exact .inl ⟨_,rfl,k _ H0 H (aL.refl s) (.int _)⟩
 ·cases e
  cases rs with
  | cons r rr=>
   cases rr
   cases AJ r
   exact .inr ⟨_,rfl,k _ H0 H (aL.refl s) (.int _)⟩
 ·cases e
section
variable {X:Cx} {a b c e:Expr} {f:Dm.FE} {fs:List Dm.FE} {p p2 pos:Pos}
theorem Cu (hc:X.calm=true) (hg:Gl X "all") (hm:X.mg "all" = none) (ha:DA X [e] fs) (he:starEach [e] X.env=[(false,eval e X.env)]:=by rfl) (hpl:(backTo pos (starEach [] X.env)).any (·.1)=false:=by rfl) :
  DE X (.Call (.Name "all" p) [e] [] pos) (Dm.eB Dm.rA fs):=xD (vK hc) Et (by rfl) hg hm ha (he:=he) (hpl:=hpl)
theorem Ht (hg:Gl X "int") (hm:X.mg "int" = none) (ha:DA X [e] fs) (he:starEach [e] X.env=[(false,eval e X.env)]:=by rfl) (hpl:(backTo pos (starEach [] X.env)).any (·.1)=false:=by rfl) :
  DE X (.Call (.Name "int" p) [e] [] pos) (Dm.eB Dm.xh fs):=Hj vh Eu (by rfl) hg hm ha (he:=he) (hpl:=hpl)
noncomputable def Hu (K:PySem.W.Frag) (te:TE):TE:=fun σ H Q=>te σ H fun x H1=>∃ a xs,x=.ref a∧SqL K H1 a xs∧∀ p,H1 p=none→Q (.ref p) (upd H1 p (.lst xs.reverse))
theorem Ew {te:TE} {k p3 p4} (he:PE X e te):PE X (.Subscript e (.Slice none none (some (.UnaryOp .USub (.Constant (.int 1) k p3) p4)) p2) pos) (Hu X.K te):=by
 intro pins s σ H Q I h
 refine Subscript_ (thn (he pins s σ H _ I h) fun v s1 h1=>?_)
 obtain ⟨x,H1,I1,r1,a,xs,rfl,hx,q⟩:=h1
 cases r1
 refine wpAny_Slice ?_
 rw [evalPart_none]
 refine wpAny_pure (wpAny_pure ?_)
 have hstep:=Az (X:=X) (Cg (pos:=p4) wW (wG (i:=1) (j:=k) (pos:=p3) (X:=X)))
 refine thn (hstep pins s1 σ H1 (fun o H'=>o=some (-1)∧H'=H1) I1 ⟨_,rfl,_,rfl,rfl,rfl⟩) fun vs s2 h2=>?_
 obtain ⟨o,H2,I2,ps,rfl,rfl⟩:=h2
 have I3:Inv X pins σ H2 { s2 with heap:=s2.heap.push { cls:=.type "slice",data:=.fields #[.none,.none,vs] } }:=I2.kept (t':=s2.toks) fun b ob q=>Heap.get?_push_of_some _ q
 obtain ⟨its,r,ht,hz⟩:=I3.list hx
 have hlen:=r.length
 have hg:wpAny (model X.prog X.w) X.A (getItem (.ref a) (.ref s2.heap.objs.size)) (EP X pins σ Q) X.xe { s2 with heap:=s2.heap.push { cls:=.type "slice",data:=.fields #[.none,.none,vs] } }:=by
  refine wpAny_getItem_list_slice ht.isList (Heap.IsSliceOf.new ..) .none .none ps (by decide) ?_ (by rw [List.size_toArray]<;>omega)
  rw [PySem.W.krv_pick,show its.toArray.toList.reverse.toArray=its.reverse.toArray by simp]
  refine ⟨.ref _,_,I3.laid (t':=s2.toks) (o:=.lst xs.reverse) (fun b ob q=>Heap.get?_push_of_some _ q) (Nat.le_refl _) ?_,rfl,q _ (I3.hok.fresh (Nat.le_refl _))⟩
  exact ⟨by rw [List.length_reverse];exact hz,_,0,r.reverse,Heap.get?_push_size _ rfl⟩
 show wpAny (model X.prog X.w) X.A (subscriptTail e (.Slice none none (some (.UnaryOp .USub (.Constant (.int 1) k p3) p4)) p2) (.ref a) (.ref s2.heap.objs.size)) (EP X pins σ Q) X.xe _
 exact tail_any (ops:=[.ref a,.ref s2.heap.objs.size]) ht.isList.typeIs slot_list_getitem.lookup hg (by with_unfolding_all rfl)
theorem Hv {K:PySem.W.Frag} {σ:L2.St} {H:Hp} {Q:VK} (h:tD (Dm.e1 Dm.vA f) σ H Q):Hu K (tD f) σ H Q:=by
 obtain ⟨H0,ρ,x,ρ',st,e,k⟩:=h
 unfold Dm.e1 at e
 split at e
 ·cases e
 rename_i x1 ρ1 e1
 split at e
 ·cases e
 rename_i dx p1
 split at e
 ·cases e
 rename_i z gz
 unfold Dm.vA at gz
 split at gz
 ·cases gz
  cases e
  refine ⟨H0,ρ,x1,_,st,e1,fun v H1 Hb t1 r1=>?_⟩
  obtain ⟨a,xs,rfl,qa,ra⟩:=bB t1.st.same (r1.look t1.st p1)
  refine ⟨a,xs,rfl,.inl qa,fun q hq=>?_⟩
  have g:=aL.ng (o:=HO.lst xs.reverse) t1.st.same hq
  exact k _ _ _ (t1.trans (.grow t1.st g)) ⟨q,rfl,t1.stp.gone hq,t1.st.cU hq,t1.st.same.free hq,_,aD,ra.reverse⟩
 ·cases gz
theorem Cv {k p3 p4} (h:DE X e f):DE X (.Subscript e (.Slice none none (some (.UnaryOp .USub (.Constant (.int 1) k p3) p4)) p2) pos) (Dm.e1 Dm.vA f):=PE.weak (Ew h) fun _ _ _=>Hv
end
noncomputable def bV (sc:Scope):List Str→List Str→Bool
 | [],[]=>true
 | x::N,y::nm=>(x == y||(sc.names.lookup y).isNone)&&bV sc N nm
 | _,_=>false
theorem bV.len {sc:Scope}:∀ {N nm:List Str},bV sc N nm=true→nm.length=N.length
 | [],[],_=>rfl
 | [],_::_,h=>by cases h
 | _::_,[],h=>by cases h
 | x::N,y::nm,h=>by
  rw [bV,Bool.and_eq_true] at h
  rw [List.length_cons,List.length_cons,bV.len h.2]
theorem bV.at {sc:Scope}:∀ {N nm:List Str},bV sc N nm=true→∀ (i:Nat) (x:Str),nm[i]?=some x→N[i]?=some x∨sc.names.lookup x=none
 | [],[],_,i,x,e=>by simp at e
 | [],_::_,h,_,_,_=>by cases h
 | _::_,[],h,_,_,_=>by cases h
 | x::N,y::nm,h,0,z,e=>by
  rw [bV,Bool.and_eq_true,Bool.or_eq_true] at h
  simp at e
  subst e
  rcases h.1 with q | q
  ·have:x=y:=by simpa using q
   subst this
   exact .inl rfl
  ·exact .inr (by simpa using q)
 | x::N,y::nm,h,i+1,z,e=>by
  rw [bV,Bool.and_eq_true] at h
  rw [List.getElem?_cons_succ] at e ⊢
  exact bV.at h.2 i z e
noncomputable def oX (osc:Scope) (N nm:List Str) (sc:Scope):Bool:=
 sc.names.all (fun y=>y.2 != .cell)&&sc.names.all (fun y=>y.2 != .local||sc.names.lookup y.1 == some .local) &&
 sc.names.all (fun y=>y.2 != .free||(osc.names.lookup y.1 == some .cell||osc.names.lookup y.1 == some .free))&&nm.all (fun x=>sc.names.lookup x != some .local)&&bV sc N nm
theorem cQ.of {X:Cx} {nm:List Str} {scope:Scope} (h:oX X.env.scope X.N nm scope=true) (hk:scope.kind=.function):cQ X nm scope:=by
 unfold oX at h
 simp only [Bool.and_eq_true,List.all_eq_true] at h
 obtain ⟨⟨⟨⟨h1,h2⟩,h3⟩,h4⟩,h5⟩:=h
 refine ⟨hk,fun y hy=>?_,fun y hy hl=>?_,fun y hy hf=>?_,fun x hx=>?_,bV.len h5,bV.at h5⟩
 ·have:=h1 y hy;simpa using this
 ·have:=h2 y hy
  rw [hl] at this
  simpa using this
 ·have:=h3 y hy
  rw [hf] at this
  have:(X.env.scope.names.lookup y.1 == some .cell||X.env.scope.names.lookup y.1 == some .free)=true:=by simpa using this
  rw [Bool.or_eq_true,beq_iff_eq,beq_iff_eq] at this
  exact this
 ·have:=h4 x hx;simpa using this
section
variable {X:Cx} {elt tg iter:Expr} {ifs:List Expr} {scope:Scope} {pos:Pos} {fi:Dm.FI} {bd:Dm.FB} {is:List Nat} {t:Dm.FT} {f:Dm.FE}
theorem xM {l:List Nat} {n:Nat} (h:(l.all fun i=>decide (n≤i))=true):∀ i∈l,n≤i:=fun i hi=>of_decide_eq_true (List.all_eq_true.mp h i hi)
theorem AW (nm own:List Str) (hg:TGc X nm scope own tg is bd) (hi:DI X tg iter fi) (ht:∀ cl C s H fp,DTs (aT X nm scope own cl C s H fp) ifs t) (he:∀ cl C s H fp,DE (aT X nm scope own cl C s H fp) elt f)
  (hc:X.calm=true:=by rfl) (hk:scope.kind=.function:=by rfl) (hS:oX X.env.scope X.N nm scope=true:=by rfl) (hl:(is.all fun i=>decide (X.N.length≤i))=true:=by rfl) (hs:∀ x,foldedSetIterable iter X.env x=pure x:=by intro _;rfl) :
  DE X (.ListComp elt [⟨tg,iter,ifs,0⟩] scope pos) (Dm.bG fi own.length bd t f):=Er hc (cQ.of hS hk) hi hg ht he (xM hl) hs
theorem Ex (j:Nat) (nm own:List Str) {y:Str} {py spos:Pos} (hN:X.N.Nodup) (hg:TGc X nm scope own tg is bd) (hi:DI X tg iter fi) (ht:∀ cl C s H fp,DTs (aT X nm scope own cl C s H fp) ifs t) (he:∀ cl C s H fp,DE (aT X nm scope own cl C s H fp) elt f)
  (hc:X.calm=true:=by rfl) (hk:scope.kind=.function:=by rfl) (hS:oX X.env.scope X.N nm scope=true:=by rfl) (hl:(is.all fun i=>decide (X.N.length≤i))=true:=by rfl) (hj:X.N[j]?=some y:=by rfl) (hy:Loc X.env.scope y:=by first | exact Or.inl rfl | exact Or.inr rfl)
  (hsw:swapsWith (.ListComp elt [⟨tg,iter,ifs,0⟩] scope pos) (some (.Name y py)) spos.line X.env=pure true:=by rfl) (hs:∀ x,foldedSetIterable iter X.env x=pure x:=by intro _;rfl)
  (hf:X.fn y=true∨X.env.scope.names.lookup y=some .local:=by first | exact .inl rfl | exact .inr rfl | assumption):DS X (.Assign [.Name y py] (.ListComp elt [⟨tg,iter,ifs,0⟩] scope pos) spos) (Dm.sA j (Dm.bG fi own.length bd t f)):=
 Es j hN hc (cQ.of hS hk) hi hg ht he (xM hl) hj hy hsw hs hf
end
theorem PI.or {X:Cx} {tg it:Expr} {t t':TI} (h:PI X tg it t) (h':PI X tg it t'):PI X tg it (fun σ H R=>t σ H R∨t' σ H R):=fun pins s σ H R I q=>q.elim (h pins s σ H R I) (h' pins s σ H R I)
theorem Hw {K:PySem.W.Frag} {f:Dm.FE} {σ:L2.St} {H:Hp} {R:It→Hp→Prop} (h:tDI (Dm.iS f) σ H R):oF K (tD f) σ H R∨wQ K (tD f) σ H R:=by
 obtain ⟨H0,ρ,ys,ρ',st,e,k⟩:=h
 unfold Dm.iS at e
 split at e
 ·cases e
 rename_i x ρ1 e1
 split at e
 ·rename_i ds ρ2 e2
  cases e
  exact .inl (JA ⟨H0,ρ,_,_,st,by unfold Dm.iL;rw [e1];dsimp only;rw [e2],k⟩)
 ·rename_i ds ρ2 e2
  cases e
  exact .inr (JB ⟨H0,ρ,_,_,st,by unfold Dm.iT;rw [e1];dsimp only;rw [e2],k⟩)
 ·cases e
theorem i_S {X:Cx} {tg e:Expr} {f:Dm.FE} (h:DE X e f):DI X tg e (Dm.iS f):=PI.weak (PI.or (tM h) (wR h)) fun _ _ _=>Hw
noncomputable def xN (K:PySem.W.Frag):Bool:=K.all fun p=>match p.2.cls with | .type n=>n != "list" | _=>true
theorem lookup_mem {a:Addr} {o:Obj}:∀ {K:List (Addr×Obj)},K.lookup a=some o→(a,o)∈K
 | [],h=>by cases h
 | (b,x)::r,h=>by
  rw [List.lookup_cons] at h
  cases q:a == b with
  | true=>
   rw [q] at h
   cases h
   have:a=b:=by simpa using q
   rw [this]
   exact List.mem_cons_self
  | false=>
   rw [q] at h
   exact List.mem_cons_of_mem _ (lookup_mem h)
theorem Ey {f:List Dm.Dat→Option Dm.RV} {K:PySem.W.Frag} {H:Hp} {a:Addr} {ns:List Int} {E:XK} (hf:f [.lst (ns.map Dm.Dat.int)]=some (.val (.bl true))) (hK:xN K=true) (hS:SqL K H a (ns.map V.int)) :
  spD f [.ref a] H (fun v _=>v=.bl true) E:=by
 have hq:Rd H a (.lst (ns.map V.int)):=by
  rcases hS with h | ⟨o,its,n,hk,hc,_⟩
  ·exact h
  ·have:=List.all_eq_true.mp hK _ (lookup_mem hk)
   dsimp only at this
   rw [hc] at this
   exact absurd this (by decide)
 have hr:∀ ns:List Int,aF H (ns.map V.int) (ns.map Dm.Dat.int):=fun ns=>by
  induction ns with
  | nil=>exact .nil
  | cons n ns ih=>exact .cons (.int n) ih
 exact ⟨H,_,_,aj.refl _,.cons (.lst hq (hr ns)) .nil,hf,fun v H0' H' _ r=>Rep.nj r⟩
end Br
namespace Dm
noncomputable def iRd (a b c:FE):FI:=fun ρ=>match a ρ with
 | some (.val (.int i),ρ1)=>(match b ρ1 with
  | some (.val (.int j),ρ2)=>(match c ρ2 with
   | some (.val (.int k),ρ3)=>if k=-1∧j≤BIG∧-BIG≤j∧i≤BIG∧-BIG≤i then some (downs i (i-j).toNat,ρ3) else none
   | _=>none)
  | _=>none)
 | _=>none
noncomputable def vL (a:FE):FI:=fun ρ=>match a ρ with
 | none=>none
 | some (x,ρ1)=>match tk ρ1 x with
  | some (.lst ds,ρ2)=>some (ds.reverse,ρ2)
  | _=>none
noncomputable def gQ:Nat→List Dat→List Dat
 | _,[]=>[]
 | i,d::ds=>.tup [.int (i:Nat),d]::gQ (i+1) ds
noncomputable def iEn (a:FE):FI:=fun ρ=>match a ρ with
 | none=>none
 | some (x,ρ1)=>match tk ρ1 x with
  | some (.lst ds,ρ2)=>some (gQ 0 ds,ρ2)
  | _=>none
noncomputable def jE (d:Dat):Option RV:=match d with
 | .lst ds=>some (.new (.lst ds.reverse))
 | _=>none
noncomputable def jF:List Dat→Option RV
 | [.int j]=>if j≤1000000∧-1000000≤j then some (.new (.lst (ups 0 j.toNat))) else none
 | _=>none
end Dm
namespace Br
open PySem PySem.Spec PyProof.Rows L2
theorem l_ {X:Cx} {pins:List (Addr×Obj)} {σ:L2.St} {H:Hp} {s:Shared} {h':Heap} {t':Nat} {fp:List Addr} {p:Addr} {o:HO} (I:Inv X pins σ H s) (hf:∀ b∈fp,lH X pins H b)
  (k:∀ b u,b∉fp→s.heap.get? b=some u→h'.get? b=some u) (hp:s.heap.objs.size≤p) (new:bh X.prog X.w (upd H p o) h' p o):Inv X pins σ (upd H p o) { s with heap:=h',toks:=t' }:=by
 have hn:H p=none:=I.hok.fresh hp
 have nf:∀ b u,H b=some u→b∉fp:=fun b u e z=>by rw [(hf b z).1] at e;cases e
 have nL:X.env.locals∉fp:=fun z=>(hf _ z).2.1 rfl
 refine I.step (g':=s.gens) (d':=s.drawn) (ch:=fp) (fun b hb=>?_) (fun b u _ _ hc e _=>k b u hc e) (fun b u _ _ hc e _=>⟨u.slots,k b u hc e⟩)
  (fun b u _ e n=>by rw [av (Nat.ne_of_lt (Nat.lt_of_lt_of_le (Heap.lt_size e) hp))];exact n) (fun b u hc e=>⟨u,k b u hc e⟩)
  (fun b xs q=>by rw [av (aH q hn)];exact q) (fun b u xs q=>by rw [av (aH q hn)];exact q) (fun b ps q=>⟨#[],by rw [av (aH q hn),q];simp⟩) (fun m hm=>?_) (fun b u e=>?_) I.bare
 ·obtain ⟨f0,f1,f2,f3,f4,f5⟩:=hf b hb
  exact ⟨f3,f1,f4,f5⟩
 ·obtain ⟨o,es,ep,ho,r⟩:=hm
  exact ⟨o,es,ep,k _ o nL ho,r⟩
 ·by_cases hb:b=p
  ·subst hb;rw [aD] at e;cases e;exact new
  ·rw [av hb] at e
   refine (I.hok b u e).stay (fun c v hc q=>k c v ?_ q) (fun c q=>by rw [av (aH q hn)];exact q) fun c xs q=>by rw [av (aH q hn)];exact q
   rcases hc with z | z
   ·rw [z];exact nf b u e
   ·exact nf c _ z
noncomputable def Itv (K:PySem.W.Frag) (a:Addr) (n:Nat):It:=
 ⟨fun i H=>∃ xs x,SqL K H a xs∧xs.length=n∧xs.reverse[i]?=some x,fun i H x H'=>H'=H∧∀ xs,SqL K H a xs→xs.reverse[i]?=some x,fun i H=>n≤i⟩
theorem xO {P:Program} {w:World} {K:PySem.W.Frag} {tg:Expr} (a it:Addr) (n:Nat):Turn P w K tg (Itv K a n) [it] it (fun i h=>i≤n∧h.IsRevIter it a ((n:Int)-1-(i:Nat))) where
 mem:=by simp
 obj:=fun i h st b hb=>by
  have e:b=it:=by simpa using hb
  subst e
  obtain ⟨_,o,e,c,d⟩:=st
  exact ⟨o,e,fun v z=>by rw [d] at z;cases z⟩
 keep:=fun i h h' st k=>⟨st.1,st.2.at fun o e=>k it (by simp) o e⟩
 item:=by
  intro X hP hw hK hc i pins s σ H E I hf st hg
  subst hP hw hK
  obtain ⟨xs,x,hq,hl,hx⟩:=hg
  obtain ⟨its,rv,p,hz⟩:=I.list hq
  have hi:i<n:=by
   have:=(List.getElem?_eq_some_iff.mp hx).1
   rw [List.length_reverse,hl] at this
   exact this
  rw [List.getElem?_reverse (by omega),hl] at hx
  obtain ⟨u,hu,ru⟩:=rv.get hx
  obtain ⟨f0,f1,f2,f3,f4,f5⟩:=hf it (by simp)
  obtain ⟨_,st⟩:=st
  have ei:((n:Int)-1-(i:Nat))=((n-1-i:Nat):Int):=by omega
  rw [ei] at st
  refine wpAny_pyNext_rev_item st p.isList (x:=u) (by simpa using hu) fun h' st' sb=>?_
  have ej:((n-1-i:Nat):Int)-1=(n:Int)-1-((i+1:Nat):Int):=by omega
  rw [ej] at st'
  have I1:Inv X pins σ H { s with heap:=h' }:=I.turned (t':=s.toks) (fun b o hb e=>(sb.2 b hb).trans e) f0 f1 f3 f4 f5
  obtain ⟨o,e,c,d⟩:=id st'
  refine ⟨u,rfl,oE (s:={ s with heap:=h' }) e c d (by decide) ⟨x,H,I1,ru,⟨rfl,fun ys hy=>?_⟩,⟨hi,st'⟩,fun b hb=>(hf b hb).1⟩⟩
  rw [I.dS hy hq,List.getElem?_reverse (by omega),hl];exact hx
 done:=by
  intro X hP hw hK hc i pins s σ H E I hf st hg
  subst hP hw hK
  obtain ⟨f0,f1,f2,f3,f4,f5⟩:=hf it (by simp)
  obtain ⟨h1,st⟩:=st
  have h2:n≤i:=hg
  have ei:((n:Int)-1-(i:Nat))=-1:=by omega
  rw [ei] at st
  exact wpAny_pyNext_rev_end (I.ok.hd hc) st fun h' eb=>⟨rfl,I.turned (t':=s.toks) (fun b o hb e=>eb b o hb e) f0 f1 f3 f4 f5⟩
 self:=fun _ _ _ _ _ st h=>wpAny_pyIter_revIter st.2 h
noncomputable def Cw (K:PySem.W.Frag) (tl:TE):TI:=fun σ H R=>tl σ H fun x H1=>∃ a xs,x=.ref a∧SqL K H1 a xs∧R (Itv K a xs.length) H1
section
variable {X:Cx} {tg l:Expr} {tl:TE} {p pos:Pos}
theorem xP {Q:Value→Shared→Prop} {Qx:VK} {pins:List (Addr×Obj)} {s:Shared} {σ:L2.St} {H:Hp} (hg:Gl X "reversed") (hm:X.mg "reversed" = none) (hl:PE X l tl) (hs:starEach [l] X.env=[(false,eval l X.env)]) (I:Inv X pins σ H s) (h:tl σ H Qx)
  (k:∀ x H1 s1,Inv X pins σ H1 s1→Qx x H1→∃ a xs,x=.ref a∧SqL X.K H1 a xs∧∀ its:List Value,Vals xs its→PlainL s1.heap a its.toArray→xs.length≤sizeLine→Q (.ref s1.heap.objs.size) { s1 with heap:=s1.heap.push (revObj a ((its.toArray.size:Int)-1)) }) :
  wpAny (model X.prog X.w) X.A (eval (.Call (.Name "reversed" p) [l] [] pos) X.env) Q X.xe s:=by
 refine Call_ (b7 I hg hm boot_reversed (PyProof.Rows.callWith_type1 (spliced_more ?_ (by rw [hs];rfl)) (by rw [hs];rfl) rfl))
 refine thn (hl pins s σ H _ I h) fun v s1 ⟨x,H1,I1,r1,q1⟩=>?_
 obtain ⟨a,xs,e,hq,q⟩:=k x H1 s1 I1 q1
 subst e
 cases r1
 obtain ⟨its,rv,pl,hz⟩:=I1.list hq
 refine Calls.spliced_nil (call_reversed_list pl.isList (q its rv pl hz))
theorem Ez (hg:Gl X "reversed") (hm:X.mg "reversed" = none) (hl:PE X l tl) (hs:starEach [l] X.env=[(false,eval l X.env)]:=by rfl):PI X tg (.Call (.Name "reversed" p) [l] [] pos) (Cw X.K tl):=by
 intro pins s σ H R I h
 refine xP hg hm hl hs I h fun x H1 s1 I1 q1=>?_
 obtain ⟨a,xs,e,hq,q⟩:=q1
 refine ⟨a,xs,e,hq,fun its rv pl hz=>?_⟩
 have hn:(its.toArray.size:Int)=((xs.length:Nat):Int):=by rw [List.size_toArray,rv.length]
 have st:({ s1 with heap:=s1.heap.push (revObj a ((its.toArray.size:Int)-1)) }:Shared).heap.IsRevIter s1.heap.objs.size a (((xs.length:Nat):Int)-1-((0:Nat):Int)):=⟨_,Heap.get?_push_size _ rfl,rfl,by rw [hn];simp [revObj]⟩
 refine wpAny_pyIter_revIter st ?_
 refine ⟨s1.heap.objs.size,[s1.heap.objs.size],_,_,H1,rfl,I1.kept (t':=s1.toks) fun b o e=>Heap.get?_push_of_some _ e,xO a _ xs.length,⟨Nat.zero_le _,st⟩,fun b hb=>?_,q⟩
 have e:b=s1.heap.objs.size:=by simpa using hb
 subst e
 exact I1.qZ (Nat.le_refl _) (I1.hok.fresh (Nat.le_refl _))
end
section
variable {X:Cx} {tg:Expr}
end
noncomputable def Ite (K:PySem.W.Frag) (a:Addr):It:=
 ⟨fun i H=>∃ xs x,SqL K H a xs∧xs[i]?=some x,fun i H x H'=>∃ p v,H p=none∧x=.ref p∧H'=upd H p (.tup [.int i,v])∧∀ xs,SqL K H a xs→xs[i]?=some v,fun i H=>∃ xs,SqL K H a xs∧xs.length≤i⟩
theorem vM {P:Program} {w:World} {K:PySem.W.Frag} {elts:List Expr} {x1} {tp:Pos} (a e it:Addr) (hne:e≠it):Turn P w K (.Tuple elts x1 tp) (Ite K a) [e,it] e (fun i h=>(∃ old,IsEnum h e it (i:Nat) old)∧h.IsListIter it a i) where
 mem:=by simp
 obj:=fun i h st b hb=>by
  obtain ⟨⟨old,he⟩,o,e1,c,d⟩:=st
  rcases List.mem_cons.mp hb with rfl | hb
  ·exact ⟨_,he,fun v z=>by
    have z':Data.fields _=Data.cell v:=z
    cases z'⟩
  ·have e2:b=it:=by simpa using hb
   subst e2
   exact ⟨o,e1,fun v z=>by rw [d] at z;cases z⟩
 keep:=fun i h h' st k=>⟨let ⟨old,he⟩:=st.1;⟨old,k e (by simp) _ he⟩,st.2.at fun o z=>k it (by simp) o z⟩
 item:=by
  intro X hP hw hK hc i pins s σ H E I hf st hg
  subst hP hw hK
  obtain ⟨xs,x,hq,hx⟩:=hg
  obtain ⟨its,rv,p,hz⟩:=I.list hq
  obtain ⟨u,hu,ru⟩:=rv.get hx
  obtain ⟨⟨old,he⟩,hit⟩:=st
  refine wpAny_pyNext_enum_item he hit p.isList (x:=u) (by simpa using hu) hne fun h1 heo JO ht1 hz1 hk1=>?_
  refine ⟨_,rfl,wpAny_letOwnedTupleGo_enum heo fun h2 he2 hs2=>?_⟩
  have hlt:e<s.heap.objs.size:=Heap.lt_size he
  have ht2:h2.get? s.heap.objs.size=some { cls:=.type "tuple",data:=.seq #[.int i s.toks,u] }:=(hs2.2 _ (Nat.ne_of_gt hlt)).trans ht1
  have k2:∀ b o,b∉[e,it]→s.heap.get? b=some o→h2.get? b=some o:=fun b o hb z=>by
   have n1:b≠e:=fun y=>hb (by simp [y])
   have n2:b≠it:=fun y=>hb (by simp [y])
   exact (hs2.2 b n1).trans (hk1 b o n1 n2 z)
  have hn:H s.heap.objs.size=none:=I.hok.fresh (Nat.le_refl _)
  have I2:Inv X pins σ (upd H s.heap.objs.size (.tup [.int i,x])) { s with heap:=h2,toks:=s.toks+1 }:=
   l_ I hf k2 (Nat.le_refl _) ⟨by simp [sizeLine],[.int i s.toks,u],.cons ⟨s.toks,rfl⟩ (.cons ru .nil),_,ht2,rfl,_,rfl⟩
  refine ⟨.ref s.heap.objs.size,_,I2,rfl,⟨_,x,hn,rfl,rfl,fun ys hy=>by rw [I.dS hy hq];exact hx⟩,⟨⟨u,?_⟩,?_⟩,fun b hb=>?_⟩
  ·have:(((i+1:Nat):Int))=(i:Int)+1:=by omega
   rw [this];exact he2
  ·exact JO.at fun o z=>(hs2.2 it (Ne.symm hne)).trans z
  ·have hb1:b≠s.heap.objs.size:=fun y=>by
    rcases List.mem_cons.mp hb with z | z
    ·rw [y] at z;exact absurd z (Nat.ne_of_gt hlt)
    ·have z':b=it:=by simpa using z
     obtain ⟨o,ho,_⟩:=hit
     have:=Heap.lt_size ho
     rw [← z',y] at this
     exact Nat.lt_irrefl _ this
   rw [av hb1]
   exact (hf b hb).1
 done:=by
  intro X hP hw hK hc i pins s σ H E I hf st hg
  subst hP hw hK
  obtain ⟨xs,hq,hx⟩:=hg
  obtain ⟨its,rv,p,hz⟩:=I.list hq
  obtain ⟨f0,f1,f2,f3,f4,f5⟩:=hf it (by simp)
  obtain ⟨⟨old,he⟩,hit⟩:=st
  have hl:=rv.length
  exact wpAny_pyNext_enum_end (I.ok.hd hc) he hit p.isList (by simp;omega) fun h' eb=>⟨rfl,I.turned (t':=s.toks) (fun b o hb e=>eb b o hb e) f0 f1 f3 f4 f5⟩
 self:=fun A i s Q E st h=>by
  obtain ⟨⟨old,he⟩,hit⟩:=st
  have hT:s.TypeIs (.ref e) "enumerate" := ⟨_,he,rfl⟩
  refine wpAny_pyIter_slot hT F.slot_enumerate_iter (wpAny_call_entry F.slot_enumerate_iter hT F.entry_enumerate_iter ?_ (F.args_enumerate_iter_1 _))
  show wpAny _ _ (ret (.ref e)) _ _ s
  exact wpAny_pure ⟨_,rfl,"enumerate",_,hT,F.slot_enumerate_next.lookup,h⟩
noncomputable def Hx (K:PySem.W.Frag) (tl:TE):TI:=fun σ H R=>tl σ H fun x H1=>∃ a,x=.ref a∧(∃ xs,SqL K H1 a xs)∧R (Ite K a) H1
section
variable {X:Cx} {l:Expr} {tl:TE} {p pos:Pos} {elts:List Expr} {x1:Nat} {tp:Pos}
theorem AX (hg:Gl X "enumerate") (hm:X.mg "enumerate" = none) (hl:PE X l tl) (hs:starEach [l] X.env=[(false,eval l X.env)]:=by rfl):PI X (.Tuple elts x1 tp) (.Call (.Name "enumerate" p) [l] [] pos) (Hx X.K tl):=by
 intro pins s σ H R I h
 refine Call_ (b7 I hg hm boot_enumerate (PyProof.Rows.callWith_type1 (spliced_more ?_ (by rw [hs];rfl)) (by rw [hs];rfl) rfl))
 refine thn (hl pins s σ H _ I h) fun v s1 ⟨x,H1,I1,r1,q1⟩=>?_
 obtain ⟨a,e,⟨xs,hq⟩,q⟩:=q1
 subst e
 cases r1
 obtain ⟨its,rv,pl,hz⟩:=I1.list hq
 refine Calls.spliced_nil (call_enumerate_list pl.isList fun h' he hit hsz k=>?_)
 have I2:Inv X pins σ H1 { s1 with heap:=h' }:=I1.kept (t':=s1.toks) k
 have T:=vM (P:=X.prog) (w:=X.w) (K:=X.K) (elts:=elts) (x1:=x1) (tp:=tp) a (s1.heap.objs.size+1) s1.heap.objs.size (Nat.succ_ne_self _)
 refine T.self X.A 0 { s1 with heap:=h' } _ X.xe ⟨⟨_,he⟩,hit⟩ ?_
 refine ⟨s1.heap.objs.size+1,[s1.heap.objs.size+1,s1.heap.objs.size],_,_,H1,rfl,I2,T,⟨⟨_,he⟩,hit⟩,fun b hb=>?_,q⟩
 have:s1.heap.objs.size≤b:=by
  rcases List.mem_cons.mp hb with rfl | hb
  ·exact Nat.le_succ _
  ·have:b=s1.heap.objs.size:=by simpa using hb
   exact Nat.le_of_eq this.symm
 exact I1.qZ this (I1.hok.fresh this)
end
theorem rK:typeLookup (.type "list_reverseiterator") "__len__" = pure none:=by rw [typeLookup_type,builtinLookup_eq_fast];kernel_rfl
theorem xQ:typeLookup (.type "list_reverseiterator") "__length_hint__" = pure (some (.builtin "list_reverseiterator.__length_hint__")):=by rw [typeLookup_type,builtinLookup_eq_fast];kernel_rfl
section
variable {prog:Program} {w:World} {A:Around} {E:Value→Shared→Prop} {s:Shared}
theorem xR {I l:Addr} {i:Int} {Q:Bool→Shared→Prop} (hit:s.heap.IsRevIter I l i) (h:Q false s):wpAny (model prog w) A (Builtin.List.listLengthHint (.ref I)) Q E s:=by
 unfold Builtin.List.listLengthHint
 refine wpAny_bind (wpAny_specialOf hit.typeIs rK ?_)
 show wpAny _ A (specialOf (Value.ref I) (Str.ofString "__length_hint__") >>= _) _ _ _
 refine wpAny_bind (wpAny_specialOf hit.typeIs xQ ?_)
 generalize hid:("list_reverseiterator.__length_hint__" : String)=id0
 wp_delta
 rw [show splitId id0=some ("list_reverseiterator","__length_hint__") from by subst hid;decide +kernel]
 subst hid
 refine wpAny_bind (wpAny_isInstance (T := "list_reverseiterator") (b:=true) hit.typeIs (by rw [isSubtype_type];kernel_rfl) ?_)
 refine wpAny_ite_split (fun hab=>absurd hab (by decide)) (fun _=>?_)
 refine wpAny_ite_split (fun _=>?_) (fun hab=>absurd (by decide +kernel) hab)
 refine wpAny_ite_split (fun hab=>absurd hab (by decide +kernel)) (fun _=>wpAny_pure h)
theorem rL {R:Result→Shared→Prop} {I l:Addr} {items:Array Value} (hh:A.handled=none) (hit:s.heap.IsRevIter I l ((items.size:Int)-1)) (hl:s.heap.IsList l items) (hne:l≠I) (hlen:items.size≤sizeLine)
  (S:Addr) (res:Value) (c₀:Nat) (hSI:S≠I) (hSl:S≠l) (hS:s.heap.get? S=some { cls:=.type "list",data:=.seq #[] c₀ })
  (hR:∀ h' tk acc' c',(∀ b o,b≠S→b≠I→s.heap.get? b=some o→h'.get? b=some o)→h'.get? S=some { cls:=.type "list",dict:=none,data:=.seq acc' c',slots:=#[] } →
   ItemsOf (fun i v=>items[items.size-1-i]?=some v) acc' items.size→R (.ok (.ret res)) { s with heap:=h',toks:=tk }) :
  wpAny (model prog w) A.in1 (Builtin.List.listExtendWith (.ref S) (.ref I) res)
   (fun fin s'=>match fin with | .done f=>R (.ok f) s' | .again c'=>c'.quiet=true∧codeAny (model prog w) A c' R s') (fun e s'=>R (.error e) s') s:=by
 have hSf:S∉[I,l]:=fun hm=>by
  rcases List.mem_cons.mp hm with z | z
  ·exact hSI z
  ·exact hSl (List.mem_singleton.mp z)
 have W:=(Walks.listRev (prog:=prog) (w:=w) (A:=A.in1) hh I l hne items).toS
 unfold Builtin.List.listExtendWith
 refine wpAny_bind (wpAny_typeOf (T := "list_reverseiterator") hit.typeIs ?_)
 have h1:Builtin.List.listSameRef (.ref S) (.ref I)=false:=by simp [Builtin.List.listSameRef,hSI]
 have h2:(Value.type "list_reverseiterator" == Value.type "list")=false:=by decide
 have h3:(Value.type "list_reverseiterator" == Value.type "tuple")=false:=by decide
 simp only [h1,h2,h3,Bool.or_false,Bool.false_eq_true,if_false]
 refine wpAny_bind (wpAny_pyIter_revIter hit ?_)
 refine wpAny_bind (wpAny_holding (xR hit ?_))
 refine wpAny_ite_split (fun hab=>absurd hab (by decide +kernel)) (fun _=>wpAny_pure ⟨plainId_quiet F.plain_extend_loop _,?_⟩)
 have hst:(0≤items.size)∧s.heap.IsRevIter I l ((items.size:Int)-1-((0:Nat):Int))∧s.heap.IsList l items:=⟨Nat.zero_le _,by simpa using hit,hl⟩
 refine codeAny_extend_loopS W hlen S hSf res items.size 0 _ #[] c₀ rfl (Nat.zero_le _) hst hS (ItemsOf.nil _) fun s' acc' c' hm hS' hacc=>?_
 rw [Moved.eq_with hm]
 refine hR s'.heap s'.toks acc' c' (fun b o hb hb2 e=>hm.heap b o (fun hmem=>?_) e) hS' hacc
 rcases List.mem_cons.mp hmem with e' | hmem
 ·exact hb e'
 ·exact hb2 (List.mem_singleton.mp hmem)
theorem xS {R:Result→Shared→Prop} {I l:Addr} {items:Array Value} (hh:A.handled=none) (hit:s.heap.IsRevIter I l ((items.size:Int)-1)) (hl:s.heap.IsList l items) (hne:l≠I) (hlen:items.size≤sizeLine)
  (S:Addr) (hSI:S≠I) (hSl:S≠l) (hS:s.heap.get? S=some { cls:=.type "list",data:=.seq #[] })
  (hR:∀ h' tk acc' c',(∀ b o,b≠S→b≠I→s.heap.get? b=some o→h'.get? b=some o)→h'.get? S=some { cls:=.type "list",dict:=none,data:=.seq acc' c',slots:=#[] } →
   ItemsOf (fun i v=>items[items.size-1-i]?=some v) acc' items.size→R (.ok (.ret .none)) { s with heap:=h',toks:=tk }) :
  wpAny (model prog w) A.in1 (Builtin.«list.__init__» ⟨[.ref S,.ref I],[]⟩)
   (fun fin s'=>match fin with | .done f=>R (.ok f) s' | .again c'=>c'.quiet=true∧codeAny (model prog w) A c' R s') (fun e s'=>R (.error e) s') s:=by
 show wpAny _ A.in1 (do let old ← Builtin.List.listItems (.ref S);Builtin.List.listUpdate (.ref S) (fun _=>#[]);letGo old.toList.reverse;Builtin.List.listExtendWith (.ref S) (.ref I) .none) _ _ s
 refine wpAny_bind ?_
 unfold Builtin.List.listItems
 refine wpAny_bind (wpAny_seqItems hS rfl (wpAny_pure ?_))
 show wpAny _ A.in1 (updateSeq S (fun _=>#[]) >>= fun _=>letGo (#[]:Array Value).toList.reverse >>= fun _=>Builtin.List.listExtendWith (.ref S) (.ref I) .none) _ _ s
 refine wpAny_bind (wpAny_updateSeq hS rfl ?_)
 have hS₂:=Heap.get?_update_self (Obj.mapSeq (fun _=>(#[]:Array Value))) hS rfl
 have oth:∀ b o,b≠S→s.heap.get? b=some o→(s.heap.update S (Obj.mapSeq (fun _=>(#[]:Array Value)))).get? b=some o:=
  fun b o hb e=>(Heap.get?_update_other _ _ (Ne.symm hb)).trans e
 refine wpAny_bind (wpAny_letGo ?_)
 refine rL hh (hit.at fun o e=>oth I o (Ne.symm hSI) e) (hl.at fun o e=>oth l o (Ne.symm hSl) e) hne hlen S .none _ hSI hSl hS₂ fun h' tk acc' c' hk hS' hacc=>?_
 exact hR h' tk acc' c' (fun b o hb hb2 e=>hk b o hb hb2 (oth b o hb e)) hS' hacc
theorem lJ {Q:Value→Shared→Prop} {I l:Addr} {items:Array Value} (hh:A.handled=none) (hit:s.heap.IsRevIter I l ((items.size:Int)-1)) (hl:s.heap.IsList l items) (hne:l≠I) (hlen:items.size≤sizeLine)
  (hQ:∀ h' tk acc' c',(∀ b o,b≠I→s.heap.get? b=some o→h'.get? b=some o)→h'.get? s.heap.objs.size=some { cls:=.type "list",dict:=none,data:=.seq acc' c',slots:=#[] } →
   ItemsOf (fun i v=>items[items.size-1-i]?=some v) acc' items.size→Q (.ref s.heap.objs.size) { s with heap:=h',toks:=tk }) :
  wpAny (model prog w) A (call (.type "list") [.ref I]) Q E s:=by
 refine callType_codes (Q₁:=fun obj s₁=>obj=.ref s.heap.objs.size∧s₁={ s with heap:=s.heap.push { cls:=.type "list",data:=.seq #[] } }) F.called_list (F.typeCall_list_1 _) F.entry_list_init
  (code_list_new _ ⟨rfl,rfl⟩) fun obj s₁ h₁=>?_
 obtain ⟨rfl,rfl⟩:=h₁
 have hS:(s.heap.push { cls:=.type "list",data:=.seq #[] }).get? s.heap.objs.size=some { cls:=.type "list",data:=.seq #[] }:=Heap.get?_push_size _ rfl
 obtain ⟨oi,hoi,_⟩:=id hit
 obtain ⟨ol,hol,_⟩:=id hl
 refine ⟨⟨_,hS,rfl⟩,F.args_list_init_2 _ _,xS (A:=A.in1) hh (hit.at fun o e=>Heap.get?_push_of_some _ e) (hl.at fun o e=>Heap.get?_push_of_some _ e) hne hlen _ (Nat.ne_of_gt (Heap.lt_size hoi)) (Nat.ne_of_gt (Heap.lt_size hol)) hS fun h' tk acc' c' hk hS' hacc=>?_⟩
 exact ⟨rfl,hQ h' tk acc' c' (fun b o hb e=>hk b o (Nat.ne_of_lt (Heap.lt_size e)) hb (Heap.get?_push_of_some _ e)) hS' hacc⟩
end
theorem jG {P:Nat→Value→Prop} {acc:Array Value} {ys:List V} (h:ItemsOf P acc ys.length) (k:∀ i v,P i v→i<ys.length→∃ y,ys[i]?=some y∧RelV y v):Vals ys acc.toList:=by
 have:∀ (ys:List V) (us:List Value),ys.length=us.length→(∀ (i:Nat) (u:Value),us[i]?=some u→∃ y,ys[i]?=some y∧RelV y u)→Vals ys us:=by
  intro ys
  induction ys with
  | nil=>intro us e _;cases us with
   | nil=>exact .nil
   | cons _ _=>cases e
  | cons y ys ih=>intro us e f;cases us with
   | nil=>cases e
   | cons u us=>
    obtain ⟨y',h1,h2⟩:=f 0 u rfl
    cases h1
    exact .cons h2 (ih us (by simpa using e) fun i u' hu=>by simpa using f (i+1) u' (by simpa using hu))
 refine this ys acc.toList (by have:=h.1;simp only [Array.length_toList];exact this.symm) fun i u hu=>?_
 have hu':acc[i]?=some u:=by rw [← Array.getElem?_toList];exact hu
 have hi:i<ys.length:=by
  rw [← h.1]
  exact (Array.getElem?_eq_some_iff.mp hu').1
 exact k i u (h.2 i u hu') hi
noncomputable def EA (K:PySem.W.Frag) (tl:TE):TE:=fun σ H Q=>tl σ H fun x H1=>∃ a xs,x=.ref a∧SqL K H1 a xs∧∀ q,H1 q=none→Q (.ref q) (upd H1 q (.lst xs.reverse))
noncomputable def Hy (ta:TA):TE:=fun σ H Q=>ta σ H fun vs H1=>∃ j:Int,vs=[.int j]∧-(2 ^ 62)≤j∧j≤1000000∧∀ q,H1 q=none→Q (.ref q) (upd H1 q (.lst ((List.range j.toNat).map fun i=>V.int (i:Nat))))
section
variable {X:Cx} {l a:Expr} {tl:TE} {ta:TA} {p pos p0 iw:Pos}
theorem xT (hc:X.calm=true) (hgl:Gl X "list") (hml:X.mg "list" = none) (hg:Gl X "reversed") (hm:X.mg "reversed" = none) (hl:PE X l tl) (hs:starEach [l] X.env=[(false,eval l X.env)]:=by rfl)
  (hs0:starEach [.Call (.Name "reversed" p) [l] [] pos] X.env=[(false,eval (.Call (.Name "reversed" p) [l] [] pos) X.env)]:=by rfl) :
  PE X (.Call (.Name "list" p0) [.Call (.Name "reversed" p) [l] [] pos] [] iw) (EA X.K tl):=by
 intro pins s σ H Q I h
 refine wpAny_Call_Name_kw (b7 I hgl hml boot_list (PyProof.Rows.callWith_type1 (spliced_more ?_ (by rw [hs0];rfl)) (by rw [hs0];rfl) rfl))
 refine xP hg hm hl hs I h fun x H1 s1 I1 q1=>?_
 obtain ⟨a,xs,e,hq,q⟩:=q1
 refine ⟨a,xs,e,hq,fun its rv pl hz=>Calls.spliced_nil ?_⟩
 have hal:a<s1.heap.objs.size:=by
  obtain ⟨o,ho,_⟩:=pl.isList
  exact Heap.lt_size ho
 have hn:=rv.length
 refine lJ (items:=its.toArray) (I.ok.hd hc) ⟨_,Heap.get?_push_size _ rfl,rfl,rfl⟩ (pl.isList.at fun o e=>Heap.get?_push_of_some _ e) (Nat.ne_of_lt hal) (by rw [List.size_toArray,← hn];exact hz) fun h' tk acc' c' hk hS' hacc=>?_
 have hsz:({ s1 with heap:=s1.heap.push (revObj a ((its.toArray.size:Int)-1)) }:Shared).heap.objs.size=s1.heap.objs.size+1:=Heap.size_push ..
 have hp:s1.heap.objs.size≤({ s1 with heap:=s1.heap.push (revObj a ((its.toArray.size:Int)-1)) }:Shared).heap.objs.size:=by rw [hsz];exact Nat.le_succ _
 have vl:Vals xs.reverse acc'.toList:=by
  refine jG (by rw [List.length_reverse,hn,← List.size_toArray];exact hacc) fun i v hv hi=>?_
  rw [List.length_reverse] at hi
  rw [List.size_toArray] at hv
  have hv':its[its.length-1-i]?=some v:=by simpa using hv
  rw [List.getElem?_reverse hi,hn]
  have hlt:=(List.getElem?_eq_some_iff.mp hv').1
  have hx:xs[its.length-1-i]?=some (xs[its.length-1-i]'(by omega)):=List.getElem?_eq_getElem _
  obtain ⟨u,hu,ru⟩:=rv.get hx
  rw [hv'] at hu
  cases hu
  exact ⟨_,hx,ru⟩
 have ok:bh X.prog X.w (upd H1 ({ s1 with heap:=s1.heap.push (revObj a ((its.toArray.size:Int)-1)) }:Shared).heap.objs.size (.lst xs.reverse)) h' ({ s1 with heap:=s1.heap.push (revObj a ((its.toArray.size:Int)-1)) }:Shared).heap.objs.size (.lst xs.reverse):=⟨by rw [List.length_reverse];exact hz,acc'.toList,c',vl,by simpa using hS'⟩
 exact ⟨.ref _,_,I1.laid (t':=tk) (fun b u e=>hk b u (Nat.ne_of_lt (Heap.lt_size e)) (Heap.get?_push_of_some _ e)) hp ok,rfl,q _ (I1.hok.fresh hp)⟩
theorem AY (hc:X.calm=true) (hgl:Gl X "list") (hml:X.mg "list" = none) (hg:Gl X "range") (hm:X.mg "range" = none) (ha:PA X [a] ta) (hs:starEach [a] X.env=[(false,eval a X.env)]:=by rfl)
  (hs0:starEach [.Call (.Name "range" p) [a] [] pos] X.env=[(false,eval (.Call (.Name "range" p) [a] [] pos) X.env)]:=by rfl) :
  PE X (.Call (.Name "list" p0) [.Call (.Name "range" p) [a] [] pos] [] iw) (Hy ta):=by
 intro pins s σ H Q I h
 refine wpAny_Call_Name_kw (b7 I hgl hml boot_list (PyProof.Rows.callWith_type1 (spliced_more ?_ (by rw [hs0];rfl)) (by rw [hs0];rfl) rfl))
 refine Call_ (b7 I hg hm boot_range (PyProof.Rows.callWith_type1 (thn (ha pos pins s σ H _ I h) fun us s1 ⟨vs,H1,I1,r1,q1⟩=>?_) hs rfl))
 obtain ⟨j,e,q1,q2,q⟩:=q1
 subst e
 cases r1 with
 | cons r rr=>
  cases rr
  obtain ⟨t,rfl⟩:=r
  refine call_range_1 (Calls.spliced_nil ?_)
  have hn:Builtin.Range.rangeSize 0 j 1=(j.toNat:Nat):=by rw [rangeSize_one];split<;>omega
  refine call_list_range (n:=j.toNat) (I.ok.hd hc) (IsRange.new ..) (small_one (by omega) (by omega) q1 (by omega)) hn (by omega) fun h' tk acc' c' hk hS' hacc=>?_
  have hsz:(s1.heap.push { cls:=.type "range",data:=.fields #[.int 0 s1.toks,.int j t,.int 1 (s1.toks+1)] }).objs.size=s1.heap.objs.size+1:=Heap.size_push ..
  have hp:s1.heap.objs.size≤(s1.heap.push { cls:=.type "range",data:=.fields #[.int 0 s1.toks,.int j t,.int 1 (s1.toks+1)] }).objs.size:=by rw [hsz];exact Nat.le_succ _
  have vl:Vals ((List.range j.toNat).map fun i=>V.int (i:Nat)) acc'.toList:=by
   refine jG (by rw [List.length_map,List.length_range];exact hacc) fun i v hv hi=>?_
   obtain ⟨t,rfl⟩:=hv
   rw [List.length_map,List.length_range] at hi
   refine ⟨.int (i:Nat),by rw [List.getElem?_map,List.getElem?_range hi];rfl,t,?_⟩
   have:(0:Int)+(i:Int)*1=i:=by omega
   rw [this]
  have ok:bh X.prog X.w (upd H1 (s1.heap.push { cls:=.type "range",data:=.fields #[.int 0 s1.toks,.int j t,.int 1 (s1.toks+1)] }).objs.size (.lst ((List.range j.toNat).map fun i=>V.int (i:Nat)))) h' (s1.heap.push { cls:=.type "range",data:=.fields #[.int 0 s1.toks,.int j t,.int 1 (s1.toks+1)] }).objs.size (.lst ((List.range j.toNat).map fun i=>V.int (i:Nat))):=
   ⟨by rw [List.length_map,List.length_range,sizeLine_eq];omega,acc'.toList,c',vl,by simpa using hS'⟩
  exact ⟨.ref _,_,I1.laid (t':=tk) (fun b u e=>hk b u (Heap.get?_push_of_some _ e)) hp ok,rfl,q _ (I1.hok.fresh hp)⟩
end
theorem aF.rev {H:Hp} {xs:List V} {ds:List Dm.Dat} (h:aF H xs ds):aF H xs.reverse ds.reverse:=by
 induction xs generalizing ds with
 | nil=>cases h;exact .nil
 | cons x xs ih=>
  cases h with
  | cons r rs=>rw [List.reverse_cons,List.reverse_cons];exact (ih rs).append (.cons r .nil)
theorem EB {K:PySem.W.Frag} {H0:Hp} {a:Addr} {xs:List V} {ds:List Dm.Dat} (hq:Rd H0 a (.lst xs)) (rs:aF H0 xs ds):JW (Itv K a xs.length) H0 ds.reverse:=by
 intro H0' H s0 s1
 have q:SqL K H a xs:=.inl (aj.rd s1 (aj.rd s0 hq))
 refine ⟨fun i hi=>by rw [List.length_reverse,← rs.length] at hi;exact hi,fun i d e=>?_⟩
 obtain ⟨v,hv,rv⟩:=rs.rev.get e
 refine ⟨⟨xs,v,q,rfl,hv⟩,fun x H' y=>?_⟩
 obtain ⟨e1,y⟩:=y
 subst e1
 have z:=y xs q
 rw [hv] at z
 cases z
 exact ⟨H0',aL.refl s1,rv.mono s0⟩
theorem oY:∀ (ds:List Dm.Dat) (i:Nat),(Dm.gQ i ds).length=ds.length
 | [],_=>rfl
 | _::ds,i=>by simp [Dm.gQ,oY ds]
theorem oZ:∀ (ds:List Dm.Dat) (i j:Nat) (d:Dm.Dat),(Dm.gQ i ds)[j]?=some d→∃ x,ds[j]?=some x∧d=.tup [.int ((i+j:Nat):Int),x]
 | [],_,_,_,h=>by cases h
 | x::ds,i,0,d,h=>by cases h;exact ⟨x,rfl,rfl⟩
 | x::ds,i,j+1,d,h=>by
  obtain ⟨y,h1,h2⟩:=oZ ds (i+1) j d h
  refine ⟨y,h1,?_⟩
  rw [h2]
  have:i+1+j=i+(j+1):=by omega
  rw [this]
theorem AZ {K:PySem.W.Frag} {H0:Hp} {a:Addr} {xs:List V} {ds:List Dm.Dat} (hq:Rd H0 a (.lst xs)) (rs:aF H0 xs ds):JW (Ite K a) H0 (Dm.gQ 0 ds):=by
 intro H0' H s0 s1
 have q:SqL K H a xs:=.inl (aj.rd s1 (aj.rd s0 hq))
 refine ⟨fun i hi=>⟨xs,q,by rw [rs.length,← oY ds 0];exact hi⟩,fun i d e=>?_⟩
 obtain ⟨d',hd,rfl⟩:=oZ ds 0 i d e
 obtain ⟨v,hv,rv⟩:=rs.get hd
 refine ⟨⟨xs,v,q,hv⟩,fun x H' y=>?_⟩
 obtain ⟨p,v',hn,rfl,rfl,y⟩:=y
 have z:=y xs q
 rw [hv] at z
 cases z
 have g:=aL.D5 (o:=HO.tup [.int i,v]) s1 hn
 refine ⟨_,g,.tup aD (.cons ?_ (.cons ((rv.mono s0).mono g.s0) .nil))⟩
 rw [Nat.zero_add]
 exact .int _
section
variable {σ:L2.St} {H:Hp} {R:It→Hp→Prop}
theorem EC {K:PySem.W.Frag} {f:Dm.FE} (h:tDI (Dm.vL f) σ H R):Cw K (tD f) σ H R:=by
 obtain ⟨H0,ρ,ys,ρ',st,e,k⟩:=h
 unfold Dm.vL at e
 split at e
 ·cases e
 rename_i x ρ1 e1
 split at e
 ·rename_i ds ρ2 e2
  cases e
  refine ⟨H0,ρ,_,ρ1,st,e1,fun v H0' H' t r=>?_⟩
  obtain ⟨H1,t1,b1,r1,_,_⟩:=take1 t (aj.refl _) r e2
  cases r1 with
  | lst q rs=>exact ⟨_,_,rfl,.inl (aj.rd t1.st.same q),k _ H1 H' t1 (EB q rs)⟩
 ·cases e
theorem Hz {K:PySem.W.Frag} {f:Dm.FE} (h:tDI (Dm.iEn f) σ H R):Hx K (tD f) σ H R:=by
 obtain ⟨H0,ρ,ys,ρ',st,e,k⟩:=h
 unfold Dm.iEn at e
 split at e
 ·cases e
 rename_i x ρ1 e1
 split at e
 ·rename_i ds ρ2 e2
  cases e
  refine ⟨H0,ρ,_,ρ1,st,e1,fun v H0' H' t r=>?_⟩
  obtain ⟨H1,t1,b1,r1,_,_⟩:=take1 t (aj.refl _) r e2
  cases r1 with
  | lst q rs=>exact ⟨_,rfl,⟨_,.inl (aj.rd t1.st.same q)⟩,k _ H1 H' t1 (AZ q rs)⟩
 ·cases e
end
theorem xU {K:PySem.W.Frag}:UnD (fun x H Q=>∃ a xs,x=.ref a∧SqL K H a xs∧∀ q,H q=none→Q (.ref q) (upd H q (.lst xs.reverse))) Dm.jE:=by
 intro H0 H x dx z Q s rx e k
 unfold Dm.jE at e
 split at e
 ·cases e
  obtain ⟨a,us,rfl,qa,ra⟩:=bB s rx
  exact ⟨a,us,rfl,.inl qa,fun p hp=>k _ _ _ (aL.ng s hp) ⟨p,rfl,hp,s.free hp,_,aD,ra.rev⟩⟩
 ·cases e
theorem xV {H:Hp}:∀ (n:Nat) ,aF H ((List.range n).map fun i=>V.int (i:Nat)) (Dm.ups 0 n):=by
 intro n
 unfold Dm.ups
 have:∀ l:List Nat,aF H (l.map fun i=>V.int (i:Nat)) (l.map fun i=>Dm.Dat.int (0+(i:Nat))):=fun l=>by
  induction l with
  | nil=>exact .nil
  | cons x l ih=>rw [List.map_cons,List.map_cons,Int.zero_add];exact .cons (.int _) ih
 exact this _
theorem A0:CallD (fun xs H Q=>∃ j:Int,xs=[.int j]∧-(2 ^ 62)≤j∧j≤1000000∧∀ q,H q=none→Q (.ref q) (upd H q (.lst ((List.range j.toNat).map fun i=>V.int (i:Nat))))) Dm.jF:=by
 intro H0 H xs ds z Q s rx e k
 unfold Dm.jF at e
 split at e
 ·rename_i j
  split at e
  ·rename_i hb
   cases e
   cases rx with
   | cons r rr=>
    cases rr
    cases aB r
    exact ⟨j,rfl,by omega,hb.1,fun p hp=>k _ _ _ (aL.ng s hp) ⟨p,rfl,hp,s.free hp,_,aD,xV _⟩⟩
  ·cases e
 ·cases e
section
variable {X:Cx} {tg e a b c:Expr} {f fa fb fc:Dm.FE} {p pos p0 iw:Pos} {elts:List Expr} {x1:Nat} {tp:Pos}
theorem HA (hg:Gl X "reversed") (hm:X.mg "reversed" = none) (h:DE X e f) (hs:starEach [e] X.env=[(false,eval e X.env)]:=by rfl):DI X tg (.Call (.Name "reversed" p) [e] [] pos) (Dm.vL f):=PI.weak (Ez hg hm h hs) fun _ _ _=>EC
theorem JP (hg:Gl X "enumerate") (hm:X.mg "enumerate" = none) (h:DE X e f) (hs:starEach [e] X.env=[(false,eval e X.env)]:=by rfl):DI X (.Tuple elts x1 tp) (.Call (.Name "enumerate" p) [e] [] pos) (Dm.iEn f):=PI.weak (AX hg hm h hs) fun _ _ _=>Hz
theorem A1 (hc:X.calm=true) (hgl:Gl X "list") (hml:X.mg "list" = none) (hg:Gl X "reversed") (hm:X.mg "reversed" = none) (h:DE X e f) (hs:starEach [e] X.env=[(false,eval e X.env)]:=by rfl)
  (hs0:starEach [.Call (.Name "reversed" p) [e] [] pos] X.env=[(false,eval (.Call (.Name "reversed" p) [e] [] pos) X.env)]:=by rfl) :
  DE X (.Call (.Name "list" p0) [.Call (.Name "reversed" p) [e] [] pos] [] iw) (Dm.e1 Dm.jE f):=PE.weak (xT hc hgl hml hg hm h hs hs0) fun _ _ _=>GL xU
theorem xW (hc:X.calm=true) (hgl:Gl X "list") (hml:X.mg "list" = none) (hg:Gl X "range") (hm:X.mg "range" = none) (h:DA X [a] [fa]) (hs:starEach [a] X.env=[(false,eval a X.env)]:=by rfl)
  (hs0:starEach [.Call (.Name "range" p) [a] [] pos] X.env=[(false,eval (.Call (.Name "range" p) [a] [] pos) X.env)]:=by rfl) :
  DE X (.Call (.Name "list" p0) [.Call (.Name "range" p) [a] [] pos] [] iw) (Dm.eB Dm.jF [fa]):=PE.weak (AY hc hgl hml hg hm h hs hs0) fun _ _ _=>D7 A0
end
end Br
namespace Dm
noncomputable def b9 (i:Nat) (own:Nat) (bd:FB) (t:FT) (el:FE):FE:=fun ρ=>match ρ[i]? with
 | some (.ow (.lst ds))=>if ds.length≤SZ then (match cI bd t el ds (ρ.set i .un++List.replicate own .un) [] with
  | none=>none
  | some (ys,ρ2)=>some (.new (.lst ys),(ρ2.take ρ.length).set i (.ow (.lst ds)))) else none
 | _=>bG (iS (eV i)) own bd t el ρ
end Dm
namespace Br
open PySem PySem.Spec PyProof.Rows L2
theorem xX {K:PySem.W.Frag} {H0:Hp} {a:Addr} {xs:List V} {ds:List Dm.Dat} (rs:aF H0 xs ds):JWa (Itl K a) H0 (some (a,.lst xs)) ds:=by
 intro H0' H s0 s1 hq
 have hq:=hq _ rfl
 have q:SqL K H a xs:=.inl (.inl hq)
 refine ⟨fun i hi=>⟨xs,q,by rw [rs.length];exact hi⟩,fun i d e=>?_⟩
 obtain ⟨v,hv,rv⟩:=rs.get e
 refine ⟨⟨xs,v,q,hv⟩,fun x H' y=>?_⟩
 obtain ⟨e1,y⟩:=y
 subst e1
 have z:=y xs q
 rw [hv] at z
 cases z
 exact ⟨H0',aL.refl s1,rv.mono s0⟩
theorem A2 {K:PySem.W.Frag} {σ:L2.St} {H:Hp} {i own:Nat} {bd:Dm.FB} {g:TG} {t:Dm.FT} {el:Dm.FE} {is:List Nat} {Q:VK} (hb:BD is g bd) (hl:∀ i∈is,σ.length≤i) (h:tD (Dm.b9 i own bd t el) σ H Q) :
  tLC (fun σ H R=>oF K (tD (Dm.eV i)) σ H R∨wQ K (tD (Dm.eV i)) σ H R) own g (tDT t) (tD el) σ H Q:=by
 obtain ⟨H0,ρ,x,ρ',st,e,k⟩:=h
 unfold Dm.b9 at e
 split at e
 ·rename_i ds eo
  split at e
  case isFalse=>cases e
  rename_i hsz
  split at e
  ·cases e
  rename_i ys ρ2 e2
  cases e
  refine .inl ⟨H0,ρ,.slot i,ρ,st,by unfold Dm.eV;rw [eo],fun v H0' H' t1 r=>?_⟩
  obtain ⟨a,qa,na,xs,ha,rs⟩:=t1.st.ow i _ eo
  obtain ⟨r1,_⟩:=r
  rw [qa] at r1
  cases r1
  have nO:¬ ak σ (ρ.set i .un) a:=fun z=>by
   obtain ⟨j,d,hj,h1,h2⟩:=bU z
   exact hj (t1.st.dis j i d _ a h1 eo h2 qa)
  have hlt:i<ρ.length:=(List.getElem?_eq_some_iff.mp eo).1
  refine ⟨a,rfl,⟨xs,.inl (.inl ha)⟩,fun D hD=>oQ hb hl (t1.st.mask i) (fun q e=>by cases e;exact ⟨ha,na,nO⟩) (xX rs) hsz e2 (fun v H1 Hc t2 r2 hpa=>?_) D hD⟩
  obtain ⟨ha2,na2⟩:=hpa _ rfl
  rw [List.length_set] at t2 r2
  have oo:∀ b,ak σ ((ρ2.take ρ.length).set i (.ow (.lst ds))) b→b=a∨ak σ (ρ2.take ρ.length) b:=fun b ⟨j,d,h1,h2⟩=>by
   by_cases q:i=j
   ·subst q;rw [qa] at h2;cases h2;exact .inl rfl
   ·rw [List.getElem?_set_ne q] at h1;exact .inr ⟨j,d,h1,h2⟩
  have om:∀ b,ak σ (ρ.set i .un) b→ak σ ρ b:=fun b z=>by
   obtain ⟨j,d,hj,h1,h2⟩:=bU z
   exact ⟨j,d,h1,h2⟩
  have oa:ak σ ρ a:=⟨i,_,eo,qa⟩
  have nO2:¬ ak σ (ρ2.take ρ.length) a:=fun z=>nO (t2.own a z)
  have xY:(ρ2.take ρ.length).length=ρ.length:=by rw [← t2.st.len,st.len]
  refine k v H1 Hc (t1.trans ⟨⟨t2.st.same,by rw [List.length_set];exact t2.st.len,fun j d h=>?_,fun j d h=>?_,fun j j' d d' b h1 h2 h3 h4=>?_⟩,t2.stp.wide om,fun b z=>?_,fun j z=>?_⟩) ?_
  ·by_cases q:i=j
   ·subst q;rw [List.getElem?_set_self (by rw [xY];exact hlt)] at h;cases h
   ·rw [List.getElem?_set_ne q] at h;exact t2.st.sh j d h
  ·by_cases q:i=j
   ·subst q
    rw [List.getElem?_set_self (by rw [xY];exact hlt)] at h
    cases h
    exact ⟨a,qa,na2,xs,ha2,rs.mono t2.stp.s0⟩
   ·rw [List.getElem?_set_ne q] at h;exact t2.st.ow j d h
  ·by_cases q:i=j
   ·subst q
    by_cases q':i=j'
    ·exact q'
    ·rw [List.getElem?_set_ne q'] at h2
     rw [qa] at h3;cases h3
     exact absurd ⟨j',d',h2,h4⟩ nO2
   ·rw [List.getElem?_set_ne q] at h1
    by_cases q':i=j'
    ·subst q'
     rw [qa] at h4;cases h4
     exact absurd ⟨j,d,h1,h3⟩ nO2
    ·rw [List.getElem?_set_ne q'] at h2
     exact t2.st.dis j j' d d' b h1 h2 h3 h4
  ·rcases oo b z with rfl | z
   ·exact oa
   ·exact om b (t2.own b z)
  ·trivial
  ·obtain ⟨D',e',n',no',n0',w'⟩:=r2
   refine ⟨D',e',t1.stp.gone n',fun z=>?_,n0',w'⟩
   rcases oo D' z with rfl | z
   ·rw [n'] at ha;cases ha
   ·exact no' z
 ·have h2:=rG (fi:=Dm.iS (Dm.eV i)) hb hl ⟨H0,ρ,x,ρ',st,e,k⟩
  exact Hw h2
section
variable {X:Cx} {elt tg:Expr} {ifs:List Expr} {scope:Scope} {pos px:Pos} {bd:Dm.FB} {is:List Nat} {t:Dm.FT} {f:Dm.FE} {x:Str}
theorem i_M (i:Nat) (h:DE X (.Name x px) (Dm.eV i)):PI X tg (.Name x px) (fun σ H R=>oF X.K (tD (Dm.eV i)) σ H R∨wQ X.K (tD (Dm.eV i)) σ H R):=PI.or (tM h) (wR h)
theorem o6 (i:Nat) (nm own:List Str) (hg:TGc X nm scope own tg is bd) (hi:DE X (.Name x px) (Dm.eV i)) (ht:∀ cl C s H fp,DTs (aT X nm scope own cl C s H fp) ifs t) (he:∀ cl C s H fp,DE (aT X nm scope own cl C s H fp) elt f)
  (hc:X.calm=true:=by rfl) (hk:scope.kind=.function:=by rfl) (hS:oX X.env.scope X.N nm scope=true:=by rfl) (hl:(is.all fun i=>decide (X.N.length≤i))=true:=by rfl) (hs:∀ y,foldedSetIterable (.Name x px) X.env y=pure y:=by intro _;rfl) :
  DE X (.ListComp elt [⟨tg,.Name x px,ifs,0⟩] scope pos) (Dm.b9 i own.length bd t f):=by
 obtain ⟨g,h1,h2⟩:=hg.ex
 intro pins s σ H Q I h
 exact tX hc (cQ.of hS hk) (i_M i hi) h1 ht he hs pins s σ H Q I (A2 h2 (fun i hi=>by rw [I.len];exact xM hl i hi) h)
end
end Br
namespace Dm
noncomputable def ff:List Dat→List Dat→List Dat
 | x::xs,y::ys=>.tup [x,y]::ff xs ys
 | _,_=>[]
noncomputable def A3 (a b:FE):FI:=fun ρ=>match eAs [a,b] ρ with
 | some (vs,ρ1)=>(match tks ρ1 vs with
  | some ([.lst xs,.lst ys],ρ2)=>some (ff xs ys,ρ2)
  | _=>none)
 | none=>none
end Dm
namespace Br
open PySem PySem.Spec PyProof.Rows L2
theorem rM {X:Cx} {pins:List (Addr×Obj)} {σ:L2.St} {H:Hp} {s:Shared} {h':Heap} {t':Nat} {fp:List Addr} (I:Inv X pins σ H s) (hf:∀ b∈fp,lH X pins H b)
  (k:∀ b u,b∉fp→s.heap.get? b=some u→h'.get? b=some u):Inv X pins σ H { s with heap:=h',toks:=t' }:=by
 have nf:∀ b u,H b=some u→b∉fp:=fun b u e z=>by rw [(hf b z).1] at e;cases e
 have nL:X.env.locals∉fp:=fun z=>(hf _ z).2.1 rfl
 refine I.step (g':=s.gens) (d':=s.drawn) (ch:=fp) (fun b hb=>?_) (fun b u _ _ hc e _=>k b u hc e) (fun b u _ _ hc e _=>⟨u.slots,k b u hc e⟩)
  (fun b u _ e n=>n) (fun b u hc e=>⟨u,k b u hc e⟩)
  (fun b xs q=>q) (fun b u xs q=>q) (fun b ps q=>⟨#[],by rw [q];simp⟩) (fun m hm=>?_) (fun b u e=>?_) I.bare
 ·obtain ⟨f0,f1,f2,f3,f4,f5⟩:=hf b hb
  exact ⟨f3,f1,f4,f5⟩
 ·obtain ⟨o,es,ep,ho,r⟩:=hm
  exact ⟨o,es,ep,k _ o nL ho,r⟩
 ·refine (I.hok b u e).stay (fun c v hc q=>k c v ?_ q) (fun c q=>q) fun c xs q=>q
  rcases hc with z | z
  ·rw [z];exact nf b u e
  ·exact nf c _ z
noncomputable def Itz (K:PySem.W.Frag) (a b:Addr):It:=
 ⟨fun i H=>∃ xs ys x y,SqL K H a xs∧SqL K H b ys∧xs[i]?=some x∧ys[i]?=some y,
  fun i H r H'=>∃ p x y,H p=none∧r=.ref p∧H'=upd H p (.tup [x,y])∧(∀ xs,SqL K H a xs→xs[i]?=some x)∧∀ ys,SqL K H b ys→ys[i]?=some y,
  fun i H=>∃ xs ys,SqL K H a xs∧SqL K H b ys∧(xs.length≤i∨ys.length≤i)⟩
theorem ee {h:Heap} {a b:Addr} {o o':Obj} (ha:h.get? a=some o) (hb:h.get? b=some o') (n:o.cls≠o'.cls):a≠b:=fun z=>by
 subst z
 rw [ha] at hb
 cases hb
 exact n rfl
structure nv (z TI TO i1 i2:Addr):Prop where
 TIz:TI≠z
 TOz:TO≠z
 i1z:i1≠z
 i2z:i2≠z
 TITO:TI≠TO
 TIi1:TI≠i1
 TIi2:TI≠i2
 TOi1:TO≠i1
 TOi2:TO≠i2
 i12:i1≠i2
noncomputable def xZ (a b z TI TO i1 i2:Addr) (i:Nat) (h:Heap):Prop:=IsZip h z TI TO .none∧IsPair h TI (.ref i1) (.ref i2)∧(∃ x y,IsPair h TO x y)∧h.IsListIter i1 a i∧h.IsListIter i2 b i
theorem o7 {h:Heap} {a b z TI TO i1 i2:Addr} {i:Nat} {xs ys:Array Value} (F:nv z TI TO i1 i2) (st:xZ a b z TI TO i1 i2 i h) (ha:h.IsList a xs) (hb:h.IsList b ys):ZipApart z TI TO i1 i2 a b:=by
 obtain ⟨s1,s2,⟨x,y,s3⟩,s4,s5⟩:=st
 obtain ⟨o4,e4,c4,_⟩:=s4
 obtain ⟨o5,e5,c5,_⟩:=s5
 obtain ⟨oa,ea,ca,_⟩:=ha
 obtain ⟨ob,eb,cb,_⟩:=hb
 have d:∀ {n m:String},n≠m→(Value.type n)≠(Value.type m):=fun q z=>q (by injection z)
 exact ⟨F.TIz,F.TOz,F.i1z,F.i2z,F.TITO,F.TIi1,F.TIi2,F.TOi1,F.TOi2,F.i12,
  ee ea s1 (by rw [ca];exact d (by decide)),ee ea s3 (by rw [ca];exact d (by decide)),ee ea e4 (by rw [ca,c4];exact d (by decide)),ee ea e5 (by rw [ca,c5];exact d (by decide)),
  ee eb s1 (by rw [cb];exact d (by decide)),ee eb s3 (by rw [cb];exact d (by decide)),ee eb e4 (by rw [cb,c4];exact d (by decide)),ee eb e5 (by rw [cb,c5];exact d (by decide))⟩
theorem x8 {P:Program} {w:World} {K:PySem.W.Frag} {elts:List Expr} {x1} {tp:Pos} (a b z TI TO i1 i2:Addr) (F:nv z TI TO i1 i2):Turn P w K (.Tuple elts x1 tp) (Itz K a b) [z,TI,TO,i1,i2] z (xZ a b z TI TO i1 i2) where
 mem:=by simp
 obj:=fun i h st c hc=>by
  obtain ⟨s1,s2,⟨x,y,s3⟩,⟨o4,e4,c4,d4⟩,⟨o5,e5,c5,d5⟩⟩:=st
  simp only [List.mem_cons,List.not_mem_nil,or_false] at hc
  rcases hc with rfl | rfl | rfl | rfl | rfl
  ·exact ⟨_,s1,fun v q=>by have q':Data.fields _=Data.cell v:=q;cases q'⟩
  ·exact ⟨_,s2,fun v q=>by have q':Data.seq _ _=Data.cell v:=q;cases q'⟩
  ·exact ⟨_,s3,fun v q=>by have q':Data.seq _ _=Data.cell v:=q;cases q'⟩
  ·exact ⟨o4,e4,fun v q=>by rw [d4] at q;cases q⟩
  ·exact ⟨o5,e5,fun v q=>by rw [d5] at q;cases q⟩
 keep:=fun i h h' st k=>by
  obtain ⟨s1,s2,⟨x,y,s3⟩,s4,s5⟩:=st
  exact ⟨k z (by simp) _ s1,k TI (by simp) _ s2,⟨x,y,k TO (by simp) _ s3⟩,s4.at fun o q=>k i1 (by simp) o q,s5.at fun o q=>k i2 (by simp) o q⟩
 item:=by
  intro X hP hw hK hc i pins s σ H E I hf st hg
  subst hP hw hK
  obtain ⟨xs,ys,x,y,hq,hq',hx,hy⟩:=hg
  obtain ⟨its,rv,p,hz⟩:=I.list hq
  obtain ⟨its',rv',p',hz'⟩:=I.list hq'
  obtain ⟨u,hu,ru⟩:=rv.get hx
  obtain ⟨u',hu',ru'⟩:=rv'.get hy
  have D:=o7 F st p.isList p'.isList
  obtain ⟨s1,s2,⟨o1,o2,s3⟩,s4,s5⟩:=st
  have lt:∀ {c o},s.heap.get? c=some o→c<s.heap.objs.size:=fun q=>Heap.lt_size q
  have l1:=lt s1
  have l2:=lt s2
  have l3:=lt s3
  have l4:i1<s.heap.objs.size:=by obtain ⟨_,q,_⟩:=s4;exact lt q
  have l5:i2<s.heap.objs.size:=by obtain ⟨_,q,_⟩:=s5;exact lt q
  refine wpAny_pyNext_zip_item D s1 s2 s3 s4 s5 p.isList p'.isList (x:=u) (y:=u') (by simpa using hu) (by simpa using hu') fun h1 a1 a2 a3 a4 a5 a6 hk=>?_
  refine ⟨_,rfl,wpAny_letOwnedTupleGo_zip a1 fun h2 z2 hs2=>?_⟩
  have ht2:h2.get? s.heap.objs.size=some { cls:=.type "tuple",data:=.seq #[u,u'] }:=(hs2.2 _ (Nat.ne_of_gt l1)).trans a5
  have k2:∀ c o,c∉[z,TI,TO,i1,i2]→s.heap.get? c=some o→h2.get? c=some o:=fun c o hc q=>by
   simp only [List.mem_cons,List.not_mem_nil,or_false,not_or] at hc
   exact (hs2.2 c hc.1).trans (hk c o hc.1 hc.2.2.1 hc.2.2.2.1 hc.2.2.2.2 q)
  have hn:H s.heap.objs.size=none:=I.hok.fresh (Nat.le_refl _)
  have I2:Inv X pins σ (upd H s.heap.objs.size (.tup [x,y])) { s with heap:=h2,toks:=s.toks }:=
   l_ I hf k2 (Nat.le_refl _) ⟨by simp [sizeLine],[u,u'],.cons ru (.cons ru' .nil),_,ht2,rfl,_,rfl⟩
  refine ⟨.ref s.heap.objs.size,_,I2,rfl,⟨_,x,y,hn,rfl,rfl,fun vs hv=>by rw [I.dS hv hq];exact hx,fun vs hv=>by rw [I.dS hv hq'];exact hy⟩,⟨z2,?_,⟨_,_,hs2.extBut _ _ D.TOz a2⟩,?_,?_⟩,fun c hc=>?_⟩
  ·exact hs2.extBut _ _ D.TIz (hk TI _ D.TIz D.TITO D.TIi1 D.TIi2 s2)
  ·exact a3.extBut hs2.extBut D.i1z
  ·exact a4.extBut hs2.extBut D.i2z
  ·have hc1:c≠s.heap.objs.size:=fun q=>by
    simp only [List.mem_cons,List.not_mem_nil,or_false] at hc
    rcases hc with r | r | r | r | r
    ·subst r;rw [q] at l1;exact Nat.lt_irrefl _ l1
    ·subst r;rw [q] at l2;exact Nat.lt_irrefl _ l2
    ·subst r;rw [q] at l3;exact Nat.lt_irrefl _ l3
    ·subst r;rw [q] at l4;exact Nat.lt_irrefl _ l4
    ·subst r;rw [q] at l5;exact Nat.lt_irrefl _ l5
   rw [av hc1]
   exact (hf c hc).1
 done:=by
  intro X hP hw hK hc i pins s σ H E I hf st hg
  subst hP hw hK
  obtain ⟨xs,ys,hq,hq',hx⟩:=hg
  obtain ⟨its,rv,p,hz⟩:=I.list hq
  obtain ⟨its',rv',p',hz'⟩:=I.list hq'
  have hl:=rv.length
  have hl':=rv'.length
  have D:=o7 F st p.isList p'.isList
  obtain ⟨s1,s2,⟨o1,o2,s3⟩,s4,s5⟩:=st
  refine wpAny_pyNext_zip_end (I.ok.hd hc) D s1 s2 s3 s4 s5 p.isList p'.isList ?_ fun h' hk=>⟨rfl,rM (t':=s.toks) I hf fun c o hc q=>?_⟩
  ·rcases hx with hx | hx
   ·exact .inl (by simp;omega)
   ·exact .inr (by simp;omega)
  ·simp only [List.mem_cons,List.not_mem_nil,or_false,not_or] at hc
   exact hk c o hc.1 hc.2.2.1 hc.2.2.2.1 hc.2.2.2.2 q
 self:=fun A i s Q E st h=>wpAny_pyIter_zip st.1 h
noncomputable def Cy (K:PySem.W.Frag) (ta:TA):TI:=fun σ H R=>ta σ H fun vs H1=>∃ a b,vs=[.ref a,.ref b]∧(∃ xs,SqL K H1 a xs)∧(∃ ys,SqL K H1 b ys)∧R (Itz K a b) H1
section
variable {X:Cx} {l l':Expr} {ta:TA} {p pos:Pos} {elts:List Expr} {x1:Nat} {tp:Pos}
theorem ED (hg:Gl X "zip") (hm:X.mg "zip" = none) (ha:PA X [l,l'] ta) (hs:starEach [l,l'] X.env=(false,eval l X.env)::starEach [l'] X.env:=by rfl) (hs2:(backTo pos (starEach [l'] X.env)).any (·.1)=false:=by rfl) :
  PI X (.Tuple elts x1 tp) (.Call (.Name "zip" p) [l,l'] [] pos) (Cy X.K ta):=by
 intro pins s σ H R I h
 refine Call_ (b7 I hg hm boot_zip (PyProof.Rows.callWith_type1 (thn (ha pos pins s σ H _ I h) fun us s1 ⟨vs,H1,I1,r1,q1⟩=>?_) hs hs2))
 obtain ⟨a,b,e,⟨xs,hq⟩,⟨ys,hq'⟩,q⟩:=q1
 subst e
 obtain ⟨v1,v2,rfl,r,r'⟩:=vals2 r1
 cases r
 cases r'
 obtain ⟨its,rv,pl,hz⟩:=I1.list hq
 obtain ⟨its',rv',pl',hz'⟩:=I1.list hq'
 refine call_zip_2 pl.isList pl'.isList fun h' e1 e2 e3 e4 e5 hsz k=>?_
 have I2:Inv X pins σ H1 { s1 with heap:=h' }:=I1.kept (t':=s1.toks) k
 have F:nv (s1.heap.objs.size+4) (s1.heap.objs.size+2) (s1.heap.objs.size+3) s1.heap.objs.size (s1.heap.objs.size+1):=by
  constructor<;>first | exact Nat.ne_of_lt (by omega) | exact Nat.ne_of_gt (by omega)
 have T:=x8 (P:=X.prog) (w:=X.w) (K:=X.K) (elts:=elts) (x1:=x1) (tp:=tp) a b _ _ _ _ _ F
 have st:xZ a b (s1.heap.objs.size+4) (s1.heap.objs.size+2) (s1.heap.objs.size+3) s1.heap.objs.size (s1.heap.objs.size+1) 0 h':=⟨e1,e2,⟨_,_,e3⟩,e4,e5⟩
 refine T.self X.A 0 { s1 with heap:=h' } _ X.xe st ?_
 refine ⟨s1.heap.objs.size+4,_,_,_,H1,rfl,I2,T,st,fun c hc=>?_,q⟩
 have:s1.heap.objs.size≤c:=by
  simp only [List.mem_cons,List.not_mem_nil,or_false] at hc
  rcases hc with r | r | r | r | r<;>(rw [r];first | exact Nat.le_add_right _ _ | exact Nat.le_refl _)
 exact I1.qZ this (I1.hok.fresh this)
end
theorem t8:∀ (xs ys:List Dm.Dat),(Dm.ff xs ys).length=min xs.length ys.length
 | [],_=>by simp [Dm.ff]
 | _::_,[]=>by simp [Dm.ff]
 | x::xs,y::ys=>by simp [Dm.ff,t8 xs ys]
theorem zip_get:∀ (xs ys:List Dm.Dat) (j:Nat) (d:Dm.Dat),(Dm.ff xs ys)[j]?=some d→∃ x y,xs[j]?=some x∧ys[j]?=some y∧d=.tup [x,y]
 | [],_,_,_,h=>by simp [Dm.ff] at h
 | _::_,[],_,_,h=>by simp [Dm.ff] at h
 | x::xs,y::ys,0,d,h=>by cases h;exact ⟨x,y,rfl,rfl,rfl⟩
 | x::xs,y::ys,j+1,d,h=>zip_get xs ys j d h
theorem EE {K:PySem.W.Frag} {H0:Hp} {a b:Addr} {xs ys:List V} {ds es:List Dm.Dat} (hq:Rd H0 a (.lst xs)) (rs:aF H0 xs ds) (hq':Rd H0 b (.lst ys)) (rs':aF H0 ys es):JW (Itz K a b) H0 (Dm.ff ds es):=by
 intro H0' H s0 s1
 have q:SqL K H a xs:=.inl (aj.rd s1 (aj.rd s0 hq))
 have q':SqL K H b ys:=.inl (aj.rd s1 (aj.rd s0 hq'))
 refine ⟨fun i hi=>⟨xs,ys,q,q',?_⟩,fun i d e=>?_⟩
 ·rw [t8] at hi
  have:=rs.length
  have:=rs'.length
  omega
 obtain ⟨x,y,hx,hy,rfl⟩:=zip_get ds es i d e
 obtain ⟨v,hv,rv⟩:=rs.get hx
 obtain ⟨v',hv',rv'⟩:=rs'.get hy
 refine ⟨⟨xs,ys,v,v',q,q',hv,hv'⟩,fun r H' z=>?_⟩
 obtain ⟨p,u,u',hn,rfl,rfl,z1,z2⟩:=z
 have w1:=z1 xs q
 have w2:=z2 ys q'
 rw [hv] at w1
 rw [hv'] at w2
 cases w1
 cases w2
 have g:=aL.D5 (o:=HO.tup [v,v']) s1 hn
 exact ⟨_,g,.tup aD (.cons ((rv.mono s0).mono g.s0) (.cons ((rv'.mono s0).mono g.s0) .nil))⟩
section
variable {σ:L2.St} {H:Hp} {R:It→Hp→Prop}
theorem EF {K:PySem.W.Frag} {f g:Dm.FE} (h:tDI (Dm.A3 f g) σ H R):Cy K (tDA [f,g]) σ H R:=by
 obtain ⟨H0,ρ,ys,ρ',st,e,k⟩:=h
 unfold Dm.A3 at e
 split at e
 ·rename_i vs ρ1 e1
  split at e
  ·rename_i xs zs ρ2 e2
   cases e
   refine ⟨H0,ρ,vs,ρ1,st,e1,fun us H0' H' t r=>?_⟩
   obtain ⟨H1,t1,b1,r1⟩:=takes t (aj.refl _) r e2
   cases r1 with
   | cons q1 rr=>
    cases rr with
    | cons q2 rr=>
     cases rr
     cases q1 with
     | lst q rs=>
      cases q2 with
      | lst q' rs'=>exact ⟨_,_,rfl,⟨_,.inl (aj.rd t1.st.same q)⟩,⟨_,.inl (aj.rd t1.st.same q')⟩,k _ H1 H' t1 (EE q rs q' rs')⟩
  ·cases e
 ·cases e
end
section
variable {X:Cx} {a b:Expr} {fa fb:Dm.FE} {p pos:Pos} {elts:List Expr} {x1:Nat} {tp:Pos}
theorem HB (hg:Gl X "zip") (hm:X.mg "zip" = none) (ha:DA X [a,b] [fa,fb]) (hs:starEach [a,b] X.env=(false,eval a X.env)::starEach [b] X.env:=by rfl) (hs2:(backTo pos (starEach [b] X.env)).any (·.1)=false:=by rfl) :
  DI X (.Tuple elts x1 tp) (.Call (.Name "zip" p) [a,b] [] pos) (Dm.A3 fa fb):=PI.weak (ED hg hm ha hs hs2) fun _ _ _=>EF
end
end Br
namespace Dm
noncomputable def fnM (n m:Nat) (body:FS) (ds:List Dat):Option (RV×Dat):=if ds.length=n then (match ds with
 | d::r=>(match body (Cell.ow d::(r.map Cell.sh++List.replicate m .un)) with
  | some (.ret z ρ')=>(match ρ'[0]? with
   | some (Cell.ow d')=>some (z,d')
   | _=>none)
  | some (.nx ρ')=>(match ρ'[0]? with
   | some (Cell.ow d')=>some (.val .non,d')
   | _=>none)
  | _=>none)
 | []=>none) else none
noncomputable def flat:Dat→Bool
 | .tup xs=>xs.all fun x=>!dW x
 | d=>!dW d
noncomputable def nB:Dat→Bool
 | .lst xs=>xs.all fun x=>!dW x
 | _=>false
noncomputable def eFm (f:List Dat→Option (RV×Dat)) (j:Nat) (as:List FE):FE:=fun ρ=>match ρ[j]? with
 | some (.ow _)=>(match eAs as ρ with
  | none=>none
  | some (xs,ρ1)=>(match ρ1[j]? with
   | some (.ow d1)=>(match tks ρ1 xs with
    | none=>none
    | some (ds,ρ2)=>(match ρ2[j]? with
     | some (.ow d)=>(match f (d::ds) with
      | none=>none
      | some (v,d')=>if flat v.dat&&nB d' then some (v.bz,ρ1.set j (.ow d')) else some (v.bz,ρ2.set j (.ow d')))
     | _=>none))
   | _=>none))
 | _=>none
end Dm
namespace Br
open PySem PySem.Spec PyProof.Rows L2
noncomputable def spM (f:List Dm.Dat→Option (Dm.RV×Dm.Dat)):Sp:=fun vs H Q _=>∃ H0 a us d ds z d',vs=V.ref a::us∧aj H0 H∧H0 a=none∧Own H0 H a d∧aF H0 us ds∧f (d::ds)=some (z,d') ∧
 ∀ v H0' H',Stp (fun b=>b=a) H0 H H0' H'→aj H0' H'→H0' a=none→Own H0' H' a d'→rB H H0' H' v z→Q v H'
theorem dj {n m:Nat} {body:Dm.FS} {vs:List V} {H:Hp} {Q:VK} {E:XK} (h:spM (Dm.fnM n m body) vs H Q E):vs.length=n:=by
 obtain ⟨H0,a,us,d,ds,z,d',e,_,_,_,rs,ef,_⟩:=h
 unfold Dm.fnM at ef
 split at ef
 ·rename_i hl
  rw [e,List.length_cons,rs.length]
  simpa using hl
 ·cases ef
theorem az.iz {H0 H:Hp} {σ:L2.St} {ρ:Dm.Env} {j:Nat} {a:Addr} {d:Dm.Dat} (st:az H0 H σ ρ) (q:σ[j]?=some (some (V.ref a))) (no:¬ ak σ ρ a) (n0:H0 a=none) (w:Own H0 H a d):az H0 H σ (ρ.set j (.ow d)):=by
 have:=st.rE (i:=j) no n0 w
 have e:σ.set j (some (V.ref a))=σ:=by
  apply List.ext_getElem?
  intro i
  by_cases h:j=i
  ·subst h
   have hl:j<σ.length:=(List.getElem?_eq_some_iff.mp q).1
   rw [List.getElem?_set_self hl,q]
  ·rw [List.getElem?_set_ne h]
 rw [e] at this
 exact this
theorem az.off {H0 H H0' H':Hp} {σ:L2.St} {ρ:Dm.Env} {a:Addr} (st:az H0 H σ ρ) (s0:aj H0 H0') (ss:aj H0' H') (no:¬ ak σ ρ a) (s1:∀ b o,H b=some o→b≠a→H' b=some o) (s2:∀ (i:Nat) (d:Dm.Dat) (b:Addr),ρ[i]?=some (Dm.Cell.ow d)→σ[i]?=some (some (V.ref b))→H0' b=none):az H0' H' σ ρ where
 same:=ss
 len:=st.len
 sh:=fun i d e=>by
  obtain ⟨v,q,r⟩:=st.sh i d e
  exact ⟨v,q,r.mono s0⟩
 ow:=fun i d e=>by
  obtain ⟨b,q,n,w⟩:=st.ow i d e
  obtain ⟨o,z⟩:=w.some
  have nb:b≠a:=fun y=>no ⟨i,d,e,y▸q⟩
  exact ⟨b,q,s2 i d b e q,w.mono s0 ((s1 b o z nb).trans z.symm)⟩
 dis:=st.dis
theorem dw {H0 H1:Hp}:∀ {xs:List V} {ds:List Dm.Dat},aF H0 xs ds→(ds.all fun x=>!Dm.dW x)=true→aF H1 xs ds
 | _,_,.nil,_=>.nil
 | _,_,.cons r rs,h=>by
  rw [List.all_cons,Bool.and_eq_true] at h
  exact .cons (Rep.plain r (by simpa using h.1)) (dw rs h.2)
section
variable {σ:L2.St} {H:Hp} {Q:VK}
theorem A4 {f:List Dm.Dat→Option (Dm.RV×Dm.Dat)} {j:Nat} {fs:List Dm.FE} {E:XK} (h:tD (Dm.eFm f j fs) σ H Q):tO (spM f) [] E (tDA (Dm.eV j::fs)) σ H Q:=by
 obtain ⟨H0,ρ,x,ρ',st,e,k⟩:=h
 unfold Dm.eFm at e
 split at e
 case h_2=>cases e
 rename_i d0 h0
 split at e
 ·cases e
 rename_i xs ρ1 e1
 split at e
 case h_2=>cases e
 rename_i d1 h1
 split at e
 ·cases e
 rename_i ds ρ2 e2
 split at e
 case h_2=>cases e
 rename_i d h2
 split at e
 ·cases e
 rename_i z d' fz
 have ea:Dm.eAs (Dm.eV j::fs) ρ=some (.slot j::xs,ρ1):=by
  unfold Dm.eAs
  rw [show Dm.eV j ρ=some (.slot j,ρ) from by unfold Dm.eV;rw [h0]]
  dsimp only
  rw [e1]
 refine ⟨H0,ρ,.slot j::xs,ρ1,st,ea,fun vs H1 Hb t1 r1=>?_⟩
 dsimp only
 rw [List.append_nil]
 cases r1 with
 | cons r0 rr=>
  obtain ⟨H2,t2,b2,r2⟩:=takes t1 (aj.refl _) rr e2
  obtain ⟨a,qa,na,wa⟩:=t2.st.ow j d h2
  obtain ⟨q0,_⟩:=r0
  rw [qa] at q0
  cases q0
  obtain ⟨a1,qa1,na1,wa1⟩:=t1.st.ow j d1 h1
  rw [qa] at qa1
  cases qa1
  obtain ⟨oa,ha⟩:=wa.some
  have hl2:j<ρ2.length:=(List.getElem?_eq_some_iff.mp h2).1
  have hl1:j<ρ1.length:=(List.getElem?_eq_some_iff.mp h1).1
  have oa0:ak σ ρ a:=t1.own a ⟨j,d1,h1,qa⟩
  refine ⟨H2,a,_,d,ds,z,d',rfl,t2.st.same,na,wa,r2,fz,fun v H3 Hd s3 ss n3 w3 r3=>?_⟩
  have no2:¬ ak σ (ρ2.set j .un) a:=fun y=>by
   obtain ⟨i,d4,hi,y1,y2⟩:=bU y
   exact hi (t2.st.dis i j d4 d a y1 h2 y2 qa)
  have no1:¬ ak σ (ρ1.set j .un) a:=fun y=>by
   obtain ⟨i,d4,hi,y1,y2⟩:=bU y
   exact hi (t1.st.dis i j d4 d1 a y1 h1 y2 qa)
  split at e
  ·rename_i fl
   cases e
   rw [Bool.and_eq_true] at fl
   obtain ⟨f1,f2⟩:=fl
   have wp:∀ H',Own H' Hd a d':=fun H'=>by
    cases d' with
    | lst ys=>
     obtain ⟨us,y1,y2⟩:=w3
     exact ⟨us,y1,dw y2 f2⟩
    | _=>cases f2
   have fin:∀ H1':Hp,aj H1 H1'→aj H1' Hd→(∀ b o,H1' b=some o→H1 b=some o∨((∃ us,o=.tup us)∧H3 b=some o))→dY H H1' Hd σ (ρ1.set j (.ow d')) v z.bz→Q v Hd:=fun H1' m1 m2 m3 rv=>by
    have hd3:∀ b,H1' b≠none→b≠a:=fun b hb y=>by
     subst y
     cases y2:H1' b with
     | none=>exact hb y2
     | some o=>
      rcases m3 b o y2 with y3 | ⟨_,y3⟩
      ·rw [na1] at y3;cases y3
      ·rw [n3] at y3;cases y3
    have n1':H1' a=none:=by
     cases y:H1' a with
     | none=>rfl
     | some o=>exact absurd rfl (hd3 a (by rw [y];exact fun q=>nomatch q))
    have sm:az H1' Hd σ (ρ1.set j .un):=by
     refine (t1.st.mask j).off m1 m2 no1 (fun b o y nb=>s3.s1 b o y nb) fun i d4 b y1 y2=>?_
     obtain ⟨b',q',nb',w'⟩:=(t1.st.mask j).ow i d4 y1
     rw [y2] at q'
     cases q'
     cases y:H1' b with
     | none=>rfl
     | some o=>
      rcases m3 b o y with y3 | ⟨⟨us,y4⟩,y3⟩
      ·rw [nb'] at y3;cases y3
      ·subst y4
       have nb:b≠a:=hd3 b (by rw [y];exact fun q=>nomatch q)
       cases d4 with
       | lst _=>
        obtain ⟨ws,z1,_⟩:=w'
        have z2:=s3.s1 b _ z1 nb
        rw [ss _ _ y3] at z2
        cases z2
       | dct _ _=>
        obtain ⟨ws,z1,_⟩:=w'
        have z2:=s3.s1 b _ z1 nb
        rw [ss _ _ y3] at z2
        cases z2
       | _=>exact False.elim w'
    have sf:az H1' Hd σ (ρ1.set j (.ow d')):=by
     have:=sm.iz qa no1 n1' (wp H1')
     rw [List.set_set] at this
     exact this
    refine k v H1' Hd ⟨sf,⟨t1.stp.s0.trans m1,fun b o y nb=>?_,fun b o y=>?_,fun b o y=>?_⟩,fun b y=>?_,fun i y=>?_⟩ rv
    ·have y1:=t1.stp.s1 b o y nb
     exact s3.s1 b o y1 fun q=>nb (by rw [q];exact oa0)
    ·rcases m3 b o y with y3 | ⟨_,y3⟩
     ·exact t1.stp.s2 b o y3
     ·rcases s3.s2 b o y3 with y4 | y4 | y4
      ·exact .inl (t1.stp.gone y4)
      ·exact t2.stp.s2 b o y4
      ·subst y4;rw [n3] at y3;cases y3
    ·obtain ⟨o',y1⟩:=t1.stp.s3 b o y
     exact s3.s3 b o' y1
    ·obtain ⟨i,d4,y1,y2⟩:=y
     by_cases hi:j=i
     ·subst hi
      rw [qa] at y2
      cases y2
      exact oa0
     ·rw [List.getElem?_set_ne hi] at y1
      exact t1.own b ⟨i,d4,y1,y2⟩
    ·trivial
   have m0:aj H1 Hd:=fun b o y=>s3.s1 b o (t1.st.same _ _ y) fun q=>by rw [q,na1] at y;cases y
   cases z with
   | new d4=>
    obtain ⟨_,_,_,_,w⟩:=r3
    cases d4 with
    | lst _=>cases f1
    | dct _ _=>cases f1
    | _=>exact False.elim w
   | val d4=>
    have r3':Rep H3 v d4:=r3
    cases d4 with
    | tup es=>
     cases r3' with
     | tup q rs=>
      rename_i a2 us
      have rp:aF H1 us es:=dw rs f1
      refine fin (upd H1 a2 (.tup us)) (fun b o y=>?_) (fun b o y=>?_) (fun b o y=>?_) (.tup aD (dw rs f1))
      ·by_cases hb:b=a2
       ·subst hb
        have:=s3.s0 _ _ (b2 _ _ y)
        rw [q] at this
        rw [aD,this]
       ·rw [av hb];exact y
      ·by_cases hb:b=a2
       ·subst hb
        rw [aD] at y
        cases y
        exact ss _ _ q
       ·rw [av hb] at y;exact m0 _ _ y
      ·by_cases hb:b=a2
       ·subst hb
        rw [aD] at y
        cases y
        exact .inr ⟨⟨us,rfl⟩,q⟩
       ·rw [av hb] at y;exact .inl y
    | lst _=>cases f1
    | dct _ _=>cases f1
    | exc _=>cases f1
    | fn _=>exact fin H1 (aj.refl _) m0 (fun b o y=>.inl y) (Rep.plain r3' rfl)
    | non=>exact fin H1 (aj.refl _) m0 (fun b o y=>.inl y) (Rep.plain r3' rfl)
    | bl _=>exact fin H1 (aj.refl _) m0 (fun b o y=>.inl y) (Rep.plain r3' rfl)
    | int _=>exact fin H1 (aj.refl _) m0 (fun b o y=>.inl y) (Rep.plain r3' rfl)
    | str _=>exact fin H1 (aj.refl _) m0 (fun b o y=>.inl y) (Rep.plain r3' rfl)
  ·cases e
   have sm:az H3 Hd σ (ρ2.set j .un):=by
    refine (t2.st.mask j).off s3.s0 ss no2 (fun b o y nb=>s3.s1 b o y nb) fun i d4 b y1 y2=>?_
    obtain ⟨b',q',nb',w'⟩:=(t2.st.mask j).ow i d4 y1
    rw [y2] at q'
    cases q'
    obtain ⟨ob,hob⟩:=w'.some
    cases y:H3 b with
    | none=>rfl
    | some o=>
     rcases s3.s2 b o y with y3 | y3 | y3
     ·rw [hob] at y3;cases y3
     ·rw [nb'] at y3;cases y3
     ·exact absurd ⟨i,d4,y1,y3▸y2⟩ no2
   have sf:az H3 Hd σ (ρ2.set j (.ow d')):=by
    have:=sm.iz qa no2 n3 w3
    rw [List.set_set] at this
    exact this
   have of:∀ b,ak σ (ρ2.set j (.ow d')) b→b=a∨ak σ ρ2 b:=fun b ⟨i,d4,y1,y2⟩=>by
    by_cases hi:j=i
    ·subst hi
     rw [qa] at y2
     cases y2
     exact .inl rfl
    ·rw [List.getElem?_set_ne hi] at y1
     exact .inr ⟨i,d4,y1,y2⟩
   refine k v H3 Hd ⟨sf,t2.stp.trans s3 (fun b y=>.inl (y▸oa0)),fun b y=>?_,fun i y=>?_⟩ ?_
   ·rcases of b y with y | y
    ·exact y▸oa0
    ·exact t2.own b y
   ·trivial
   ·cases z with
    | val d4=>exact r3
    | new d4=>
     obtain ⟨b,y0,y1,y2,y3⟩:=r3
     refine ⟨b,y0,t2.stp.gone y1,fun y=>?_,y2,y3⟩
     rcases of b y with y | y
     ·subst y;rw [ha] at y1;cases y1
     ·exact t2.st.cU y1 y
end
theorem aN {X:Cx} {es:List Expr} {p pos px:Pos} {k:Nat} {F:Addr} {fd:FuncData} {ps:List Str} {g:List Dm.Dat→Option (Dm.RV×Dm.Dat)} {x y:Str} {j:Nat} {fs:List Dm.FE} (G:aR X.prog X.w X.K X.mg X.base CX0 k F fd ps (spM g)) (hr:bE k X.A) (hg:Gl X x) (hm:X.mg x=some (.ref F)) (hk:PySem.W.keepIn X.K (.ref F)=true) (hb:Binds X.K fd ps [])
  (ha:DA X (.Name y px::es) (Dm.eV j::fs)) (hdb:(x == ("__debug__" : Str))=false:=by decide) (he:starEach (.Name y px::es) X.env=(false,eval (.Name y px) X.env)::starEach es X.env:=by rfl) (hpl:(backTo pos (starEach es X.env)).any (·.1)=false:=by rfl) :
  DE X (.Call (.Name x p) (.Name y px::es) [] pos) (Dm.eFm g j fs):=PE.weak (m5 G hr hg hm hk hb .nil (xg (X:=X)) ha hdb he hpl) fun _ _ _=>A4
theorem mh {N:List Str} {n m:Nat} {body:Dm.FS} {vs:List V} {H:Hp} {Q:VK} {E:XK} (hm:N.length=n+m) (h:spM (Dm.fnM n m body) vs H Q E) :
  tDS body { nx:=fun _ H'=>Q .non H',rt:=Q } (start N vs) H:=by
 have hvn:=dj h
 obtain ⟨H0,a,us,d,ds,z,d',e,s,na,wa,rs,ef,k⟩:=h
 subst e
 have hl:=rs.length
 rw [List.length_cons] at hvn
 have e0:(start N (V.ref a::us))[0]?=some (some (V.ref a)):=rfl
 have get:∀ {i:Nat} {c:Dm.Cell},(Dm.Cell.ow d::(ds.map Dm.Cell.sh++List.replicate m .un))[i]?=some c→(i=0∧c=.ow d)∨(∃ i' d4,i=i'+1∧ds[i']?=some d4∧c=.sh d4)∨c=.un:=fun {i c} y=>by
  cases i with
  | zero=>cases y;exact .inl ⟨rfl,rfl⟩
  | succ i=>
   rw [List.getElem?_cons_succ] at y
   by_cases hi:i<ds.length
   ·rw [List.getElem?_append_left (by simpa using hi),List.getElem?_map,List.getElem?_eq_getElem hi] at y
    cases y
    exact .inr (.inl ⟨i,ds[i],rfl,List.getElem?_eq_getElem hi,rfl⟩)
   ·rw [List.getElem?_append_right (by simpa using hi),List.getElem?_replicate] at y
    split at y
    ·cases y;exact .inr (.inr rfl)
    ·cases y
 have ow0:∀ {i:Nat} {d4:Dm.Dat},(Dm.Cell.ow d::(ds.map Dm.Cell.sh++List.replicate m .un))[i]?=some (.ow d4)→i=0∧d4=d:=fun {i d4} y=>by
  rcases get y with ⟨y1,y2⟩ | ⟨_,_,_,_,y2⟩ | y2
  ·cases y2;exact ⟨y1,rfl⟩
  ·cases y2
  ·cases y2
 have oa:∀ b,ak (start N (V.ref a::us)) (Dm.Cell.ow d::(ds.map Dm.Cell.sh++List.replicate m .un)) b→b=a:=fun b ⟨i,d4,y1,y2⟩=>by
  obtain ⟨y3,_⟩:=ow0 y1
  subst y3
  rw [e0] at y2
  cases y2
  rfl
 have st:az H0 H (start N (V.ref a::us)) (Dm.Cell.ow d::(ds.map Dm.Cell.sh++List.replicate m .un)):=by
  refine ⟨s,?_,fun i d4 y=>?_,fun i d4 y=>?_,fun i i' d4 d5 b y1 y2 _ _=>(ow0 y1).1.trans (ow0 y2).1.symm⟩
  ·unfold L2.start
   simp only [List.length_append,List.length_map,List.length_replicate,List.length_cons]
   omega
  ·rcases get y with ⟨_,y2⟩ | ⟨i',d5,y1,y2,y3⟩ | y2
   ·cases y2
   ·cases y3
    subst y1
    obtain ⟨v,hv,r⟩:=rs.get y2
    refine ⟨v,?_,r⟩
    have hi:i'<us.length:=(List.getElem?_eq_some_iff.mp hv).1
    unfold L2.start
    rw [List.getElem?_append_left (by simp;omega),List.getElem?_map,List.getElem?_cons_succ,hv]
    rfl
   ·cases y2
  ·obtain ⟨y1,y2⟩:=ow0 y
   subst y1 y2
   exact ⟨a,e0,na,wa⟩
 have fin:∀ {σ':L2.St} {ρ':Dm.Env} {H0' H':Hp},SSt (start N (V.ref a::us)) (Dm.Cell.ow d::(ds.map Dm.Cell.sh++List.replicate m .un)) H0 H σ' ρ' H0' H'→ρ'[0]?=some (.ow d')→Stp (fun b=>b=a) H0 H H0' H'∧H0' a=none∧Own H0' H' a d'∧ak σ' ρ' a:=fun {σ' ρ' H0' H'} t y=>by
  obtain ⟨a',q',n',w'⟩:=t.st.ow 0 d' y
  have fx:=t.fx
  rw [e0,q'] at fx
  cases fx
  exact ⟨t.stp.wide fun b z=>oa b z,n',w',0,d',y,q'⟩
 unfold Dm.fnM at ef
 split at ef
 case isFalse=>cases ef
 dsimp only at ef
 split at ef
 ·rename_i z' ρ' e1
  split at ef
  case h_2=>cases ef
  rename_i d4 y
  cases ef
  refine ⟨H0,_,_,st,e1,fun σ' v H0' H' t r no=>?_⟩
  obtain ⟨f1,f2,f3,f4⟩:=fin t y
  refine k v H0' H' f1 t.st.same f2 f3 ?_
  cases z with
  | val d5=>exact r
  | new d5=>
   obtain ⟨b,y0,y1,y2,y3⟩:=r
   refine ⟨b,y0,?_,y2,y3⟩
   rcases y1 with y1 | y1
   ·exact y1
   ·exact absurd f4 (oa b y1▸no d5 b rfl y0)
 ·rename_i ρ' e1
  split at ef
  case h_2=>cases ef
  rename_i d4 y
  cases ef
  refine ⟨H0,_,_,st,e1,fun σ' H0' H' t=>?_⟩
  obtain ⟨f1,f2,f3,f4⟩:=fin t y
  exact k _ H0' H' f1 t.st.same f2 f3 .non
 ·cases ef
end Br
namespace Dm
end Dm
namespace Br
open PySem PySem.Spec PyProof.Rows L2
section
variable {σ:L2.St} {H:Hp} {Q:VK} {D:Ends}
end
section
variable {X:Cx} {a b e:Expr} {fa fb f:Dm.FE} {pos:Pos} {k:Nat}
end
end Br
namespace Dm
end Dm
namespace Br
open PySem PySem.Spec PyProof.Rows L2
section
variable {σ:L2.St} {H:Hp} {Q:VK}
end
section
variable {X:Cx} {a:Expr} {fa:Dm.FE} {p pos:Pos}
end
section
variable {X:Cx} {a b e:Expr} {fa fb f:Dm.FE} {fs:List Dm.FE} {p p2 pos:Pos}
end
end Br
namespace Dm
noncomputable def iQ:List Dat→Option (List Int)
 | []=>some []
 | .int i::r=>(iQ r).map fun ns=>i::ns
 | _=>none
end Dm
namespace Br
open PySem PySem.Spec PyProof.Rows L2
theorem intsAre_of:∀ {ns:List Int} {its:List Value},Vals (ns.map V.int) its→IntsAre its ns
 | [],_,r=>by cases r;exact .nil
 | n::ns,_,r=>by
  rw [List.map_cons] at r
  cases r with
  | cons h t=>
   obtain ⟨tk,rfl⟩:=h
   exact .cons _ _ (intsAre_of t)
section
variable {X:Cx}
end
theorem o8 {H0:Hp}:∀ {ds:List Dm.Dat} {xs:List V} {ns:List Int},aF H0 xs ds→Dm.iQ ds=some ns→xs=ns.map V.int
 | [],_,ns,r,e=>by cases r;cases e;rfl
 | d::ds,_,ns,r,e=>by
  cases r with
  | cons h t=>
   cases d with
   | int i=>
    unfold Dm.iQ at e
    cases q:Dm.iQ ds with
    | none=>rw [q] at e;cases e
    | some ms=>
     rw [q] at e
     cases e
     cases Rep.isInt h
     rw [o8 t q]
     rfl
   | _=>cases e
section
variable {X:Cx} {e:Expr} {f:Dm.FE} {p p0 pos iw:Pos}
end
end Br
namespace Ts
open PySem PyProof.Rows
variable {M:Model} {A:Around} {E:Value→Shared→Prop} {s:Shared} {κ:KeyKind} {kd:SortKind} {a₀:Array Keyed}
noncomputable def nC (M:Model) (A:Around) (E:Value→Shared→Prop) (s:Shared) (κ:KeyKind) (kd:SortKind):Prop:=
 ∀ (x y:Keyed) (a b:κ.α) (st:SortSt) (Q:Option Bool→SortSt→Prop),κ.keyOf x.1=some a→κ.keyOf y.1=some b→kindOf st=kd→Q (some (κ.blt a b)) st→wpS M A E s (lt' x y) Q st
structure SB (kd:SortKind) (a₀:Array Keyed) (st:SortSt):Prop where
 perm:(arrOf st).Perm a₀
 kind:kindOf st=kd
 failed:failedOf st=none
theorem SB.size {st:SortSt} (h:SB kd a₀ st):(arrOf st).size=a₀.size:=h.perm.size_eq
theorem SB.arr {st:SortSt} (h:SB kd a₀ st) {xs:Array Keyed} (hp:xs.Perm (arrOf st)):SB kd a₀ (setArr st xs):=⟨hp.trans h.perm,h.kind,h.failed⟩
theorem SB.pend {st:SortSt} (h:SB kd a₀ st) (p:Array (Nat×Nat×Nat)):SB kd a₀ (setPending st p):=⟨h.perm,h.kind,h.failed⟩
theorem SB.keys {st:SortSt} (h:SB kd a₀ st) (h0:KeysOf κ a₀):KeysOf κ (arrOf st):=fun p hp=>h0 p ((Array.perm_iff_toList_perm.mp h.perm).mem_iff.mp hp)
theorem dB {xs:Array Keyed} (h:KeysOf κ xs) {i:Nat} (hi:i<xs.size):∃ p,xs[i]?=some p∧κ.keyOf p.1=some (KK κ xs i):=by
 refine ⟨xs[i],getElem?_pos xs i hi,?_⟩
 obtain ⟨a,e⟩:=h xs[i] (by simp)
 unfold KK
 rw [getElem?_pos xs i hi]
 dsimp only
 rw [e]
 rfl
theorem mq (hL:nC M A E s κ kd) {st:SortSt} (hB:SB kd a₀ st) (h0:KeysOf κ a₀) {i j:Nat} (hi:i<a₀.size) (hj:j<a₀.size) {Q:Option Bool→SortSt→Prop}
  (h:Q (some (κ.blt (KK κ (arrOf st) i) (KK κ (arrOf st) j))) st):wpS M A E s (ltAt' i j) Q st:=by
 obtain ⟨p,ep,kp⟩:=dB (hB.keys h0) (i:=i) (by rw [hB.size];exact hi)
 obtain ⟨q,eq,kq⟩:=dB (hB.keys h0) (i:=j) (by rw [hB.size];exact hj)
 rw [ltAt'_eq]
 refine wpS_bind (wpS_get ?_)
 show wpS _ _ _ _ (elem' (arrOf st) i >>= fun x=>elem' (arrOf st) j >>= fun y=>lt' x y) Q st
 rw [elem'_eq,elem'_eq,ep,eq]
 exact wpS_bind (wpS_pure (wpS_bind (wpS_pure (hL p q _ _ st Q kp kq hB.kind h))))
noncomputable def Seg (κ:KeyKind) (xs:Array Keyed) (i j:Nat):Prop:=∀ p q,i≤p→p≤q→q<j→κ.kle (KK κ xs p) (KK κ xs q)
noncomputable def vN (κ:KeyKind) (xs:Array Keyed) (i j:Nat):Prop:=∀ p q,i≤p→p≤q→q<j→κ.kle (KK κ xs q) (KK κ xs p)
noncomputable def Out (xs ys:Array Keyed) (i j:Nat):Prop:=∀ k,(k<i∨j≤k)→ys[k]?=xs[k]?
theorem Out.refl (xs:Array Keyed) (i j:Nat):Out xs xs i j:=fun _ _=>rfl
theorem Out.trans {xs ys zs:Array Keyed} {i j:Nat} (h:Out xs ys i j) (h':Out ys zs i j):Out xs zs i j:=fun k hk=>(h' k hk).trans (h k hk)
theorem Out.mono {xs ys:Array Keyed} {i j i' j':Nat} (h:Out xs ys i j) (h1:i'≤i) (h2:j≤j'):Out xs ys i' j':=fun k hk=>h k (by omega)
theorem dD {xs:Array Keyed} {i j:Nat} (hj:j≤xs.size):Out xs (mirror xs i j ((j-i) / 2)) i j:=fun k hk=>by
 rw [getElem?_mirror_all hj,if_neg (by omega)]
theorem rN {xs:Array Keyed} {src d:Nat} (hs:src<xs.size) (hd:d≤src):Out xs (bubble xs src d) (src-d) (src+1):=fun k hk=>by
 rw [getElem?_bubble hs d hd,if_neg (by omega),if_neg (by omega)]
theorem EG (hL:nC M A E s κ kd) (h0:KeysOf κ a₀) {st:SortSt} (hB:SB kd a₀ st) {lo n ok:Nat} (hn:lo+n≤a₀.size) (h1:1≤ok) (hok:ok≤n) (hs:Seg κ (arrOf st) lo (lo+ok)) {Q:Bool→SortSt→Prop}
  (h:∀ xs,xs.Perm (arrOf st)→Seg κ xs lo (lo+n)→Out (arrOf st) xs lo (lo+n)→Q true (setArr st xs)):wpS M A E s (binarySort' lo n ok) Q st:=by
 rw [binarySort'_eq]
 refine wpS_bind (wpS_mono (wpS_forRange (I:=fun k c st'=>c=(none,())∧∃ xs,st'=setArr st xs∧xs.Perm (arrOf st)∧Seg κ xs lo (lo+k)∧Out (arrOf st) xs lo (lo+n)) (Q:=fun c st'=>c=(none,())∧∃ xs,st'=setArr st xs∧xs.Perm (arrOf st)∧Seg κ xs lo (lo+n)∧Out (arrOf st) xs lo (lo+n)) ?step ?fin ?ini) ?post)
 case ini=>
  refine ⟨rfl,arrOf st,rfl,Array.Perm.refl _,?_,Out.refl _ _ _⟩
  rw [show max ok 1=ok by omega];exact hs
 case fin=>
  rintro c st' ⟨rfl,xs,rfl,hp,hsg,ho⟩
  rw [show max (max ok 1) n=n by omega] at hsg
  exact ⟨rfl,xs,rfl,hp,hsg,ho⟩
 case post=>
  rintro c st' ⟨rfl,xs,rfl,hp,hsg,ho⟩
  exact wpS_pure (h xs hp hsg ho)
 case step=>
  rintro k c st' hk1 hk2 ⟨rfl,xs,rfl,hp,hsg,ho⟩
  dsimp only
  have hB':SB kd a₀ (setArr st xs):=hB.arr hp
  have hsz:xs.size=a₀.size:=hB'.size
  refine wpS_bind (wpS_mono (wpS_forRange (I:=fun i c st'=>∃ l r,c=(none,l,r)∧st'=setArr st xs∧l≤r∧r≤k∧r-l≤k-i∧(∀ p,p<l→κ.kle (KK κ xs (lo+p)) (KK κ xs (lo+k)))∧(∀ p,r≤p→p<k→κ.klt (KK κ xs (lo+k)) (KK κ xs (lo+p))))
   (Q:=fun c st'=>∃ l,c=(none,l,l)∧st'=setArr st xs∧l≤k∧(∀ p,p<l→κ.kle (KK κ xs (lo+p)) (KK κ xs (lo+k)))∧(∀ p,l≤p→p<k→κ.klt (KK κ xs (lo+k)) (KK κ xs (lo+p)))) ?st2 ?fi2 ⟨0,k,rfl,rfl,Nat.zero_le _,Nat.le_refl _,by omega,fun p hp=>by omega,fun p h1 h2=>by omega⟩) ?po2)
  case fi2=>
   rintro c st' ⟨l,r,rfl,rfl,h1,h2,h3,h4,h5⟩
   have:l=r:=by omega
   subst this
   exact ⟨l,rfl,rfl,h2,h4,h5⟩
  case st2=>
   rintro i c st' _ hi ⟨l,r,rfl,rfl,h1,h2,h3,h4,h5⟩
   dsimp only
   by_cases hlr:l≥r
   ·rw [if_pos hlr]
    have:l=r:=by omega
    subst this
    exact wpS_pure ⟨l,rfl,rfl,h2,h4,h5⟩
   ·rw [if_neg hlr]
    refine wpS_bind (mq hL hB' h0 (by omega) (by omega) ?_)
    dsimp only
    cases hb:κ.blt (KK κ (arrOf (setArr st xs)) (lo+k)) (KK κ (arrOf (setArr st xs)) (lo+(l+r) / 2))
    case true=>
     rw [if_pos rfl]
     refine wpS_pure ⟨l,(l+r) / 2,rfl,rfl,by omega,by omega,by omega,h4,fun p hp1 hp2=>?_⟩
     exact KeyOrd.klt_of_klt_of_kle hb (hsg _ _ (by omega) (by omega) (by omega))
    case false=>
     rw [if_neg (by decide)]
     refine wpS_pure ⟨(l+r) / 2+1,r,rfl,rfl,by omega,h2,by omega,fun p hp1=>?_,h5⟩
     exact KeyOrd.kle_trans (hsg _ _ (by omega) (by omega) (by omega)) hb
  case po2=>
   rintro c st' ⟨l,rfl,rfl,hlk,hlo,hhi⟩
   dsimp only
   rw [moveDown'_eq]
   have hd:lo+k-(lo+l)=k-l:=by omega
   have hsk:lo+k<xs.size:=by omega
   refine wpS_bind (wpS_modify (wpS_pure ⟨rfl,bubble xs (lo+k) (lo+k-(lo+l)),rfl,(bubble_perm _ _ _).trans hp,?_,ho.trans ((rN hsk (by omega)).mono (by omega) (by omega))⟩))
   intro p q h1 h2 h3
   rw [KK_bubble hsk (by omega),KK_bubble hsk (by omega)]
   rw [show lo+k-(lo+k-(lo+l))=lo+l by omega]
   by_cases hp1:p=lo+l
   ·rw [if_pos hp1]
    by_cases hq1:q=lo+l
    ·rw [if_pos hq1];exact KeyOrd.kle_refl _
    ·rw [if_neg hq1,if_pos (by omega)]
     have:=hhi (q-1-lo) (by omega) (by omega)
     rw [show lo+(q-1-lo)=q-1 by omega] at this
     exact KeyOrd.kle_of_klt this
   ·rw [if_neg hp1]
    by_cases hp2:lo+l<p∧p≤lo+k
    ·rw [if_pos hp2,if_neg (by omega),if_pos (by omega)]
     exact hsg _ _ (by omega) (by omega) (by omega)
    ·rw [if_neg hp2]
     by_cases hq1:q=lo+l
     ·rw [if_pos hq1]
      have:=hlo (p-lo) (by omega)
      rw [show lo+(p-lo)=p by omega] at this
      exact this
     ·rw [if_neg hq1]
      by_cases hq2:lo+l<q∧q≤lo+k
      ·rw [if_pos hq2]
       exact hsg _ _ (by omega) (by omega) (by omega)
      ·rw [if_neg hq2]
       exact hsg _ _ (by omega) (by omega) (by omega)
end Ts
namespace Ts
open PySem PyProof.Rows
variable {M:Model} {A:Around} {E:Value→Shared→Prop} {s:Shared} {κ:KeyKind} {kd:SortKind} {a₀:Array Keyed}
noncomputable def upL (lo k nrem:Nat):StateT SortSt Sem (Option Nat):=do
 let mut m:=k
 for _ in [k:nrem] do
  let some c ← ltAt' (lo+m) (lo+m-1)
   | return none
  if c then break
  m:=m+1
 return some m
noncomputable def Cz (lo k nrem:Nat):StateT SortSt Sem (Option Nat):=do
 rule "list.sort.descending-run"
 let mut m:=k+1
 let mut e:=0
 for _ in [k+1:nrem] do
  let some c ← ltAt' (lo+m) (lo+m-1)
   | return none
  if c then
   if e>0 then reverseSlice' (lo+m-(e+1)) (lo+m)
   e:=0
  else
   let some d ← ltAt' (lo+m-1) (lo+m)
    | return none
   if d then break
   e:=e+1
  m:=m+1
 if e>0 then reverseSlice' (lo+m-(e+1)) (lo+m)
 reverseSlice' lo (lo+m)
 let mut z:=m
 for _ in [m:nrem] do
  let some c ← ltAt' (lo+z) (lo+z-1)
   | return none
  if c then break
  z:=z+1
 return some z
theorem A5 {xs:Array Keyed} {i:Nat}:Seg κ xs i (i+1):=fun p q a b c=>by
 have:p=q:=by omega
 subst this
 exact KeyOrd.kle_refl _
theorem o9 {xs:Array Keyed} {i n:Nat} (h:Seg κ xs i (i+n)) (h1:1≤n) (hb:κ.kle (KK κ xs (i+n-1)) (KK κ xs (i+n))):Seg κ xs i (i+(n+1)):=fun p q a b c=>by
 by_cases hq:q<i+n
 ·exact h p q a b hq
 ·have:q=i+n:=by omega
  subst this
  by_cases hp:p=i+n
  ·subst hp;exact KeyOrd.kle_refl _
  ·exact KeyOrd.kle_trans (h p (i+n-1) a (by omega) (by omega)) hb
theorem cW {xs:Array Keyed} {i n:Nat} (h:vN κ xs i (i+n)) (h1:1≤n) (hb:κ.kle (KK κ xs (i+n)) (KK κ xs (i+n-1))):vN κ xs i (i+(n+1)):=fun p q a b c=>by
 by_cases hq:q<i+n
 ·exact h p q a b hq
 ·have:q=i+n:=by omega
  subst this
  by_cases hp:p=i+n
  ·subst hp;exact KeyOrd.kle_refl _
  ·exact KeyOrd.kle_trans hb (h p (i+n-1) a (by omega) (by omega))
section
variable {prog:Program} {w:World}
theorem HC (hL:nC (model prog w) A E s κ kd) (h0:KeysOf κ a₀) {st:SortSt} (hB:SB kd a₀ st) {lo k nrem:Nat} (hn:lo+nrem≤a₀.size) (h1:1≤k) (hk:k≤nrem) (hs:Seg κ (arrOf st) lo (lo+k)) {Q:Option Nat→SortSt→Prop}
  (h:∀ n,k≤n→n≤nrem→Seg κ (arrOf st) lo (lo+n)→Q (some n) st):wpS (model prog w) A E s (upL lo k nrem) Q st:=by
 unfold upL
 refine wpS_bind (wpS_mono (wpS_forRange (I:=fun i c st'=>c=(none,i)∧st'=st∧i≤nrem∧Seg κ (arrOf st) lo (lo+i)) (Q:=fun c st'=>∃ n,c=(none,n)∧st'=st∧k≤n∧n≤nrem∧Seg κ (arrOf st) lo (lo+n)) ?st1 ?fi1 ⟨rfl,rfl,hk,hs⟩) ?po1)
 case fi1=>
  rintro c st' ⟨rfl,rfl,hle,hsg⟩
  exact ⟨_,rfl,rfl,by omega,hle,hsg⟩
 case st1=>
  rintro i c st' hi1 hi2 ⟨rfl,rfl,hle,hsg⟩
  dsimp only
  refine wpS_bind (mq hL hB h0 (by omega) (by omega) ?_)
  dsimp only
  cases hb:κ.blt (KK κ (arrOf st') (lo+i)) (KK κ (arrOf st') (lo+i-1))
  case true=>
   rw [if_pos rfl]
   exact wpS_pure ⟨i,rfl,rfl,hi1,hle,hsg⟩
  case false=>
   rw [if_neg (by decide)]
   exact wpS_pure ⟨rfl,rfl,by omega,o9 hsg (by omega) hb⟩
 case po1=>
  rintro c st' ⟨n,rfl,rfl,h2,h3,h4⟩
  exact wpS_pure (h n h2 h3 h4)
theorem nD {xs:Array Keyed} {i j:Nat} (hj:j≤xs.size) (he:∀ k,i≤k→k<j→KK κ xs k=KK κ xs (j-1)):∀ k,KK κ (mirror xs i j ((j-i) / 2)) k=KK κ xs k:=KK_mirror_equal hj he
theorem t9 (hL:nC (model prog w) A E s κ kd) (h0:KeysOf κ a₀) {st:SortSt} (hB:SB kd a₀ st) {lo k nrem:Nat} (hn:lo+nrem≤a₀.size) (h1:1≤k) (hk:k<nrem) (hs:vN κ (arrOf st) lo (lo+(k+1))) {Q:Option Nat→SortSt→Prop}
  (h:∀ n xs,1≤n→n≤nrem→xs.Perm (arrOf st)→Seg κ xs lo (lo+n)→Out (arrOf st) xs lo (lo+nrem)→Q (some n) (setArr st xs)):wpS (model prog w) A E s (Cz lo k nrem) Q st:=by
 unfold Cz
 refine wpS_bind (wpS_lift (wpAny_rule ⟨rfl,?_⟩))
 refine wpS_bind (wpS_mono (wpS_forRange
  (I:=fun i c st'=>∃ e xs,c=(none,i,e)∧st'=setArr st xs∧i≤nrem∧xs.Perm (arrOf st)∧Out (arrOf st) xs lo (lo+nrem)∧vN κ xs lo (lo+i)∧e+1≤i∧∀ p,lo+i-(e+1)≤p→p<lo+i→KK κ xs p=KK κ xs (lo+i-1))
  (Q:=fun c st'=>∃ e i xs,c=(none,i,e)∧st'=setArr st xs∧k+1≤i∧i≤nrem∧xs.Perm (arrOf st)∧Out (arrOf st) xs lo (lo+nrem)∧vN κ xs lo (lo+i)∧e+1≤i∧∀ p,lo+i-(e+1)≤p→p<lo+i→KK κ xs p=KK κ xs (lo+i-1)) ?st1 ?fi1 ?in1) ?po1)
 case in1=>exact ⟨0,arrOf st,rfl,rfl,by omega,Array.Perm.refl _,Out.refl _ _ _,hs,by omega,fun p h2 h3=>by rw [show p=lo+(k+1)-1 by omega]⟩
 case fi1=>
  rintro c st' ⟨e,xs,rfl,rfl,h2,h3,h4,h5,h6,h7⟩
  exact ⟨e,_,xs,rfl,rfl,by omega,h2,h3,h4,h5,h6,h7⟩
 case st1=>
  rintro i c st' hi1 hi2 ⟨e,xs,rfl,rfl,h2,h3,h4,h5,h6,h7⟩
  have hB':SB kd a₀ (setArr st xs):=hB.arr h3
  have hsz:xs.size=a₀.size:=hB'.size
  dsimp only
  refine wpS_bind (mq hL hB' h0 (by omega) (by omega) ?_)
  dsimp only
  cases hb:κ.blt (KK κ (arrOf (setArr st xs)) (lo+i)) (KK κ (arrOf (setArr st xs)) (lo+i-1))
  case true=>
   rw [if_pos rfl]
   have hd:κ.kle (KK κ xs (lo+i)) (KK κ xs (lo+i-1)):=KeyOrd.kle_of_klt hb
   by_cases he:e>0
   ·rw [if_pos he,reverseSlice'_eq]
    have ke:=nD (κ:=κ) (xs:=xs) (i:=lo+i-(e+1)) (j:=lo+i) (by omega) h7
    refine wpS_bind (wpS_modify (wpS_pure ⟨0,mirror xs (lo+i-(e+1)) (lo+i) ((lo+i-(lo+i-(e+1))) / 2),rfl,rfl,by omega,(mirror_perm _ _ _ _).trans h3,h4.trans ((dD (by omega)).mono (by omega) (by omega)),?_,by omega,fun p h8 h9=>by rw [show p=lo+(i+1)-1 by omega]⟩))
    have:=cW h5 (by omega) hd
    exact fun p q a b c=>by rw [ke,ke];exact this p q a b c
   ·rw [if_neg he]
    exact wpS_pure ⟨0,xs,rfl,rfl,by omega,h3,h4,cW h5 (by omega) hd,by omega,fun p h8 h9=>by rw [show p=lo+(i+1)-1 by omega]⟩
  case false=>
   rw [if_neg (by decide)]
   refine wpS_bind (mq hL hB' h0 (by omega) (by omega) ?_)
   dsimp only
   cases hb2:κ.blt (KK κ (arrOf (setArr st xs)) (lo+i-1)) (KK κ (arrOf (setArr st xs)) (lo+i))
   case true=>
    rw [if_pos rfl]
    exact wpS_pure ⟨e,i,xs,rfl,rfl,hi1,h2,h3,h4,h5,h6,h7⟩
   case false=>
    rw [if_neg (by decide)]
    have heq:KK κ xs (lo+i-1)=KK κ xs (lo+i):=κ.total _ _ hb2 hb
    refine wpS_pure ⟨e+1,xs,rfl,rfl,by omega,h3,h4,cW h5 (by omega) hb2,by omega,fun p h8 h9=>?_⟩
    rw [show lo+(i+1)-1=lo+i by omega]
    by_cases hp:p=lo+i
    ·rw [hp]
    ·rw [h7 p (by omega) (by omega),heq]
 case po1=>
  rintro c st' ⟨e,i,xs,rfl,rfl,hki,h2,h3,h4,h5,h6,h7⟩
  have hB':SB kd a₀ (setArr st xs):=hB.arr h3
  have hsz:xs.size=a₀.size:=hB'.size
  dsimp only
  have last:∀ ys,ys.Perm xs→(∀ p,KK κ ys p=KK κ xs p)→Out xs ys lo (lo+nrem)→wpS (model prog w) A E s (reverseSlice' lo (lo+i) >>= fun _=>upL lo i nrem) Q (setArr st ys):=fun ys hp hk hO=>by
   rw [reverseSlice'_eq]
   have Kl:ys.size=a₀.size:=hp.size_eq.trans hsz
   refine wpS_bind (wpS_modify ?_)
   have hB2:SB kd a₀ (setArr st (mirror ys lo (lo+i) ((lo+i-lo) / 2))):=hB.arr ((mirror_perm _ _ _ _).trans (hp.trans h3))
   refine HC hL h0 hB2 hn (by omega) h2 (fun p q a b c=>?_) fun n h8 h9 h10=>?_
   ·show κ.kle (KK κ (mirror ys lo (lo+i) ((lo+i-lo) / 2)) p) (KK κ (mirror ys lo (lo+i) ((lo+i-lo) / 2)) q)
    rw [KK_mirror (by omega),KK_mirror (by omega),if_pos (by omega),if_pos (by omega),hk,hk]
    exact h5 _ _ (by omega) (by omega) (by omega)
   ·exact h n _ (by omega) h9 ((mirror_perm _ _ _ _).trans (hp.trans h3)) h10 ((h4.trans hO).trans ((dD (by omega)).mono (by omega) (by omega)))
  by_cases he:e>0
  ·rw [if_pos he]
   refine wpS_bind ?_
   rw [reverseSlice'_eq]
   refine wpS_modify ?_
   exact last (mirror xs (lo+i-(e+1)) (lo+i) ((lo+i-(lo+i-(e+1))) / 2)) (mirror_perm _ _ _ _) (nD (xs:=xs) (by omega) h7) ((dD (xs:=xs) (by omega)).mono (by omega) (by omega))
  ·rw [if_neg he]
   exact last xs (Array.Perm.refl _) (fun _=>rfl) (Out.refl _ _ _)
theorem nE (hL:nC (model prog w) A E s κ kd) (h0:KeysOf κ a₀) {st:SortSt} (hB:SB kd a₀ st) {lo nrem:Nat} (hn:lo+nrem≤a₀.size) (h1:1≤nrem) {Q:Option Nat→SortSt→Prop}
  (h:∀ n xs,1≤n→n≤nrem→xs.Perm (arrOf st)→Seg κ xs lo (lo+n)→Out (arrOf st) xs lo (lo+nrem)→Q (some n) (setArr st xs)):wpS (model prog w) A E s (countRun' lo nrem) Q st:=by
 rw [countRun'_eq]
 refine wpS_bind (wpS_mono (wpS_forRange (I:=fun i c st'=>c=(none,i)∧st'=st∧i≤nrem∧Seg κ (arrOf st) lo (lo+i))
  (Q:=fun c st'=>∃ n,c=(none,n)∧st'=st∧1≤n∧n≤nrem∧Seg κ (arrOf st) lo (lo+n)∧(n=nrem∨κ.klt (KK κ (arrOf st) (lo+n)) (KK κ (arrOf st) (lo+n-1)))) ?st1 ?fi1 ⟨rfl,rfl,h1,A5⟩) ?po1)
 case fi1=>
  rintro c st' ⟨rfl,rfl,hle,hsg⟩
  exact ⟨_,rfl,rfl,by omega,hle,hsg,.inl (by omega)⟩
 case st1=>
  rintro i c st' hi1 hi2 ⟨rfl,rfl,hle,hsg⟩
  dsimp only
  refine wpS_bind (mq hL hB h0 (by omega) (by omega) ?_)
  dsimp only
  cases hb:κ.blt (KK κ (arrOf st') (lo+i)) (KK κ (arrOf st') (lo+i-1))
  case true=>
   rw [if_pos rfl]
   exact wpS_pure ⟨i,rfl,rfl,hi1,hle,hsg,.inr hb⟩
  case false=>
   rw [if_neg (by decide)]
   exact wpS_pure ⟨rfl,rfl,by omega,o9 hsg hi1 hb⟩
 case po1=>
  rintro c st' ⟨n,rfl,rfl,hn1,hle,hsg,hstop⟩
  dsimp only
  by_cases hnn:n=nrem
  ·rw [if_pos (by simpa using hnn)]
   exact wpS_pure (h n _ hn1 hle (Array.Perm.refl _) hsg (Out.refl _ _ _))
  ·rw [if_neg (by simpa using hnn)]
   have hlt:κ.klt (KK κ (arrOf st') (lo+n)) (KK κ (arrOf st') (lo+n-1)):=hstop.resolve_left hnn
   by_cases hn2:n>1
   ·rw [if_pos hn2]
    refine wpS_bind (mq hL hB h0 (by omega) (by omega) ?_)
    dsimp only
    cases hb:κ.blt (KK κ (arrOf st') lo) (KK κ (arrOf st') (lo+n-1))
    case true=>
     rw [if_pos rfl]
     exact wpS_pure (h n _ hn1 hle (Array.Perm.refl _) hsg (Out.refl _ _ _))
    case false=>
     rw [if_neg (by decide)]
     have hsz:=hB.size
     have EH:∀ p,lo≤p→p<lo+n→KK κ (arrOf st') p=KK κ (arrOf st') (lo+n-1):=fun p h2 h3=>
      KeyOrd.kle_antisymm (hsg p _ h2 (by omega) (by omega)) (KeyOrd.kle_trans hb (hsg lo p (by omega) h2 h3))
     have ke:=nD (κ:=κ) (xs:=arrOf st') (i:=lo) (j:=lo+n) (by omega) EH
     refine wpS_bind ?_
     rw [reverseSlice'_eq]
     refine wpS_modify ?_
     have hB2:SB kd a₀ (setArr st' (mirror (arrOf st') lo (lo+n) ((lo+n-lo) / 2))):=hB.arr (mirror_perm _ _ _ _)
     refine t9 hL h0 hB2 hn hn1 (by omega) ?_ fun m xs h2 h3 h4 h5 h6=>?_
     ·have:vN κ (arrOf st') lo (lo+(n+1)):=cW (fun p q a b c=>by rw [EH p a (by omega),EH q (by omega) c];exact KeyOrd.kle_refl _) hn1 (KeyOrd.kle_of_klt hlt)
      intro p q a b c
      show κ.kle (KK κ (mirror (arrOf st') lo (lo+n) ((lo+n-lo) / 2)) q) (KK κ (mirror (arrOf st') lo (lo+n) ((lo+n-lo) / 2)) p)
      rw [ke,ke]
      exact this p q a b c
     ·exact h m xs h2 h3 (h4.trans (mirror_perm _ _ _ _)) h5 (((dD (by omega)).mono (by omega) (by omega)).trans h6)
   ·rw [if_neg hn2]
    have:n=1:=by omega
    subst this
    refine t9 hL h0 hB hn hn1 (by omega) ?_ h
    exact cW (fun p q a b c=>by
     have:p=q:=by omega
     subst this
     exact KeyOrd.kle_refl _) hn1 (KeyOrd.kle_of_klt hlt)
end
end Ts
namespace Ts
open PySem PyProof.Rows
variable {M:Model} {A:Around} {E:Value→Shared→Prop} {s:Shared} {κ:KeyKind} {kd:SortKind} {a₀:Array Keyed}
end Ts
namespace Ts
open PySem PyProof.Rows
variable {M:Model} {A:Around} {E:Value→Shared→Prop} {s:Shared} {κ:KeyKind} {kd:SortKind} {a₀:Array Keyed}
noncomputable def kp (κ:KeyKind) (p:Keyed):κ.α:=(κ.keyOf p.1).getD κ.dflt
noncomputable def le (κ:KeyKind) (x y:Keyed):Prop:=κ.kle (kp κ x) (kp κ y)
theorem A6 {a:Array Keyed} {i:Nat}:(a.extract i a.size).toList=a.toList.drop i:=by
 rw [Array.toList_extract,List.extract_eq_take_drop,List.take_of_length_le]
 rw [List.length_drop,Array.length_toList]
 exact Nat.le_refl _
theorem t_ {xs:Array Keyed} (hk:KeysOf κ xs) {i:Nat} (h:i<xs.size):κ.keyOf (xs[i]).1=some (kp κ xs[i])∧KK κ xs i=kp κ xs[i]:=by
 obtain ⟨p,e,k⟩:=dB hk h
 rw [getElem?_pos xs i h] at e
 cases e
 have:KK κ xs i=kp κ xs[i]:=by
  unfold kp
  rw [k]
  rfl
 exact ⟨by rw [k,this],this⟩
end Ts
namespace Ts
open PySem PyProof.Rows
variable {A:Around} {E:Value→Shared→Prop} {s:Shared} {κ:KeyKind} {kd:SortKind} {a₀:Array Keyed} {prog:Program} {w:World}
section
variable {a b:Array Keyed}
end
end Ts
namespace Ts
open PySem PyProof.Rows
variable {A:Around} {E:Value→Shared→Prop} {s:Shared} {κ:KeyKind} {kd:SortKind} {a₀:Array Keyed} {prog:Program} {w:World}
section
variable {a b:Array Keyed}
end
end Ts
namespace Ts
open PySem PyProof.Rows
variable {A:Around} {E:Value→Shared→Prop} {s:Shared} {κ:KeyKind} {kd:SortKind} {a₀:Array Keyed} {prog:Program} {w:World}
theorem ext_get {xs:Array Keyed} {i j n:Nat} (hj:j≤xs.size) (h:n<(xs.extract i j).toList.length):∃ hn:i+n<xs.size,i+n<j∧(xs.extract i j).toList[n]=xs[i+n]:=by
 rw [Array.length_toList,Array.size_extract] at h
 refine ⟨by omega,by omega,?_⟩
 simp
theorem x9 {xs:Array Keyed} (hk:KeysOf κ xs) {i j:Nat} (hj:j≤xs.size):Seg κ xs i j↔(xs.extract i j).toList.Pairwise (le κ):=by
 rw [List.pairwise_iff_getElem]
 constructor
 ·intro h p q hp hq hpq
  obtain ⟨p1,p2,ep⟩:=ext_get hj hp
  obtain ⟨q1,q2,eq⟩:=ext_get hj hq
  rw [ep,eq]
  have:=h (i+p) (i+q) (by omega) (by omega) q2
  rw [(t_ hk p1).2,(t_ hk q1).2] at this
  exact this
 ·intro h p q h1 h2 h3
  by_cases e:p=q
  ·subst e;exact KeyOrd.kle_refl _
  have hl:(xs.extract i j).toList.length=j-i:=by rw [Array.length_toList,Array.size_extract];omega
  obtain ⟨p1,p2,ep⟩:=ext_get (i:=i) (n:=p-i) hj (by omega)
  obtain ⟨q1,q2,eq⟩:=ext_get (i:=i) (n:=q-i) hj (by omega)
  have:=h (p-i) (q-i) (by omega) (by omega) (by omega)
  rw [ep,eq] at this
  have e1:KK κ xs p=kp κ (xs[i+(p-i)]):=(congrArg (KK κ xs) (show p=i+(p-i) by omega)).trans (t_ hk p1).2
  have e2:KK κ xs q=kp κ (xs[i+(q-i)]):=(congrArg (KK κ xs) (show q=i+(q-i) by omega)).trans (t_ hk q1).2
  rw [e1,e2]
  exact this
end Ts
namespace Ts
open PySem PyProof.Rows
variable {A:Around} {E:Value→Shared→Prop} {s:Shared} {κ:KeyKind} {kd:SortKind} {a₀:Array Keyed} {prog:Program} {w:World}
end Ts
namespace Ts
open PySem PyProof.Rows
variable {A:Around} {E:Value→Shared→Prop} {s:Shared} {κ:KeyKind} {kd:SortKind} {prog:Program} {w:World}
theorem done_one {vs:List Value} (h:vs.toArray.size<2):Seg κ (pairsOf vs) 0 (pairsOf vs).size:=fun p q _ h2 h3=>by
 rw [pairsOf_size] at h3
 simp at h
 have:p=q:=by omega
 subst this
 exact KeyOrd.kle_refl _
end Ts
namespace Ts
open PySem PyProof.Rows
variable {A:Around} {E:Value→Shared→Prop} {s:Shared} {κ:KeyKind} {kd:SortKind} {a₀:Array Keyed} {prog:Program} {w:World}
noncomputable def Fi (κ:KeyKind) (kd:SortKind) (a₀:Array Keyed) (st:SortSt):Prop:=SB kd a₀ st∧Seg κ (arrOf st) 0 a₀.size∧(pendingOf st).size≤1
theorem rO (hL:nC (model prog w) A E s κ kd) (h0:KeysOf κ a₀) {st:SortSt} (hB:SB kd a₀ st) (hp:pendingOf st=#[]) (h1:1≤a₀.size) (h64:a₀.size<64) {Q:Unit→SortSt→Prop}
  (h:∀ st',SB kd a₀ st'→Seg κ (arrOf st') 0 a₀.size→Q () st'):wpS (model prog w) A E s sortRuns' Q st:=by
 rw [sortRuns'_eq]
 refine wpS_bind (wpS_get ?_)
 try dsimp only
 rw [hB.size]
 have em:minRun' a₀.size a₀.size 0=a₀.size:=by
  obtain ⟨m,e⟩:∃ m,a₀.size=m+1:=⟨a₀.size-1,by omega⟩
  rw [e] at h64 ⊢
  rw [minRun'_succ,if_pos h64,Nat.add_zero]
 rw [em]
 refine wpS_bind (wpS_mono (wpS_forRange (I:=fun x c st'=>(x=0∧c=(none,0)∧SB kd a₀ st'∧pendingOf st'=#[])∨(1≤x∧c=(none,a₀.size)∧Fi κ kd a₀ st'))
  (Q:=fun c st'=>c=(none,a₀.size)∧Fi κ kd a₀ st') ?st1 ?fi1 (.inl ⟨rfl,rfl,hB,hp⟩)) ?po1)
 case fi1=>
  rintro c st' (⟨hx,_⟩ | ⟨_,rfl,F⟩)
  ·omega
  ·exact ⟨rfl,F⟩
 case st1=>
  rintro x c st' _ hx (⟨rfl,rfl,hB,hp⟩ | ⟨hx1,rfl,F⟩)
  ·try dsimp only
   rw [if_neg (by omega)]
   refine wpS_bind (nE hL h0 hB (by omega) (by omega) fun n xs hn1 hn2 hpm hsg hout=>?_)
   try dsimp only
   have fin:∀ (k:Nat) (ys:Array Keyed),k=a₀.size→ys.Perm (arrOf st')→Seg κ ys 0 (0+k)→(fun c st'=>(0+1=0∧c=(none,0)∧SB kd a₀ st'∧pendingOf st'=#[])∨(1≤0+1∧c=(none,a₀.size)∧Fi κ kd a₀ st')) ((none:Option Unit),0+k) (setPending (setArr st' ys) ((pendingOf (setArr st' ys)).push (0,k,0))):=fun k ys hk hpm hsg=>by
    subst hk
    refine .inr ⟨by omega,by rw [Nat.zero_add],(hB.arr hpm).pend _,by rw [Nat.zero_add] at hsg;exact hsg,?_⟩
    show ((pendingOf st').push _).size≤1
    rw [hp]
    exact Nat.le_refl 1
   by_cases hmr:n<a₀.size
   ·rw [if_pos hmr]
    refine wpS_bind (wpS_lift (wpAny_rule ⟨rfl,?_⟩))
    have hB2:SB kd a₀ (setArr st' xs):=hB.arr hpm
    refine wpS_bind (EG hL h0 hB2 (by omega) hn1 (by omega) hsg fun ys hp2 hs2 ho2=>?_)
    rw [if_neg (by decide)]
    show wpS _ _ _ _ _ _ (setArr st' ys)
    refine wpS_bind (wpS_get ?_)
    split
    ·rename_i u m c hb
     have:(pendingOf st').back?=some (u,m,c):=hb
     rw [hp] at this
     cases this
    ·exact wpS_bind (wpS_modify (wpS_pure (fin _ ys (by omega) (hp2.trans hpm) hs2)))
   ·rw [if_neg hmr]
    refine wpS_bind (wpS_get ?_)
    split
    ·rename_i u m c hb
     have:(pendingOf st').back?=some (u,m,c):=hb
     rw [hp] at this
     cases this
    ·exact wpS_bind (wpS_modify (wpS_pure (fin _ xs (by omega) hpm hsg)))
  ·try dsimp only
   rw [if_pos (Nat.le_refl _)]
   exact wpS_pure ⟨rfl,F⟩
 case po1=>
  rintro c st' ⟨rfl,F⟩
  try dsimp only
  refine wpS_bind (wpS_mono (wpS_forRange (I:=fun _ c st'=>c=(none,())∧Fi κ kd a₀ st') (Q:=fun c st'=>c=(none,())∧Fi κ kd a₀ st') ?st2 (fun c st' z=>z) ⟨rfl,F⟩) ?po2)
  case st2=>
   rintro x c st' _ hx ⟨rfl,F⟩
   try dsimp only
   refine wpS_bind (wpS_get ?_)
   rw [if_pos F.2.2]
   exact wpS_pure ⟨rfl,F⟩
  case po2=>
   rintro c st' ⟨rfl,F⟩
   exact wpS_pure (h st' F.1 F.2.1)
end Ts
namespace Ts
open PySem PyProof.Rows
variable {A:Around} {E:Value→Shared→Prop} {s:Shared} {κ:KeyKind} {kd:SortKind} {prog:Program} {w:World}
theorem jH {a:Addr} {vs:List Value} {n:Nat} {R:Fin→Shared→Prop} (ho:s.heap.get? a=some (seqObj "list" vs.toArray n)) (hn:vs.length≤63)
  (hk:KeysOf κ (pairsOf vs)) (hkk:∀ h',(∀ b o,b≠a→s.heap.get? b=some o→h'.get? b=some o)→2≤vs.length→∀ {Q:SortKind→Shared→Prop},Q kd { s with heap:=h' }→wpAny (model prog w) A (keyKind' vs.toArray) Q E { s with heap:=h' })
  (hL:∀ h',(∀ b o,b≠a→s.heap.get? b=some o→h'.get? b=some o)→nC (model prog w) A E { s with heap:=h' } κ kd)
  (h:∀ st':SortSt,(arrOf st').Perm (pairsOf vs)→Seg κ (arrOf st') 0 (pairsOf vs).size→R (.done (.ret .none)) { s with heap:=sortedHeap s.heap a vs ((arrOf st').map (·.2)) }) :
  wpAny (model prog w) A (Builtin.«list.sort» ⟨[.ref a],[]⟩) R E s:=by
 have lt:=Heap.lt_size ho
 have fits:sizeLine=sizeLine:=rfl
 rw [list_sort_plain]
 refine wpAny_bind (listItems_at ho rfl (wpAny_bind (listUpdate_at ho rfl ?_ (hsz:=by simp;exact Nat.le_trans hn (by decide)) (hsz2:=Nat.zero_le _))))
 obtain ⟨ep,h1⟩:∃ ep,(s.heap.update a (Obj.mapSeq fun _=>#[])).get? a=some (seqObj "list" #[] ep):=⟨_,get?_update_seq ho _⟩
 refine wpAny_bind (seqEpoch_at h1 rfl (wpAny_bind (wpAny_newTuple (wpAny_bind (wpAny_newList (wpAny_holding ?_))))))
 have h6:(((s.heap.update a (Obj.mapSeq fun _=>#[])).push (seqObj "tuple" vs.toArray 0)).push (seqObj "list" #[] 0)).get? a=some (seqObj "list" #[] ep):=by
  have z1:(s.heap.update a (Obj.mapSeq fun _=>#[])).objs.size=s.heap.objs.size:=Heap.size_update _ _ _
  rw [Heap.get?_push_ne _ _ _ (by rw [size_push',z1];exact Nat.ne_of_lt (Nat.lt_succ_of_lt lt)),Heap.get?_push_ne _ _ _ (by rw [z1];exact Nat.ne_of_lt lt)]
  exact h1
 have ext:∀ b o,b≠a→s.heap.get? b=some o→(((s.heap.update a (Obj.mapSeq fun _=>#[])).push (seqObj "tuple" vs.toArray 0)).push (seqObj "list" #[] 0)).get? b=some o:=fun b o hb e=>by
  have z1:(s.heap.update a (Obj.mapSeq fun _=>#[])).objs.size=s.heap.objs.size:=Heap.size_update _ _ _
  have lb:=Heap.lt_size e
  rw [Heap.get?_push_ne _ _ _ (by rw [size_push',z1];exact Nat.ne_of_lt (Nat.lt_succ_of_lt lb)),Heap.get?_push_ne _ _ _ (by rw [z1];exact Nat.ne_of_lt lb),Heap.get?_update_ne _ _ _ _ hb]
  exact e
 show wpAny (model prog w) A _ R E { s with heap:=(((s.heap.update a (Obj.mapSeq fun _=>#[])).push (seqObj "tuple" vs.toArray 0)).push (seqObj "list" #[] 0)) }
 have hkk':=hkk _ ext
 have hL':=hL _ ext
 have fin:∀ st':SortSt,failedOf st'=none→(arrOf st').Perm (pairsOf vs)→Seg κ (arrOf st') 0 (pairsOf vs).size →
   wpAny (model prog w) A (do
    let d ← seqEpoch a
    let touched:=d != ep
    Builtin.List.listUpdate (Value.ref a) fun _=>Array.map (fun x=>x.snd) (arrOf st')
    if let some e:=failedOf st' then
     rule "list.sort.comparison-raised"
     throw e
    if touched then
     rule "list.sort.modified"
     raiseError "ValueError" "list modified during sort"
    ret .none) R E { s with heap:=(((s.heap.update a (Obj.mapSeq fun _=>#[])).push (seqObj "tuple" vs.toArray 0)).push (seqObj "list" #[] 0)) }:=fun st' hf hp hs=>by
  refine wpAny_bind (seqEpoch_at h6 rfl ?_)
  have hz:(Array.map (fun x=>x.snd) (arrOf st')).size=vs.length:=by rw [Array.size_map,hp.size_eq,pairsOf_size]
  refine wpAny_bind (listUpdate_at h6 rfl ?_ (hsz:=Nat.zero_le _) (hsz2:=by rw [hz];exact Nat.le_trans hn (by decide)))
  rw [hf]
  simp only [bne_self_eq_false,Bool.false_eq_true,if_false]
  exact wpAny_pure (h st' hp hs)
 by_cases h2:vs.toArray.size<2
 ·rw [if_pos h2,if_pos h2]
  refine wpAny_bind (wpAny_pure ?_)
  refine wpAny_bind (show wpAny (model prog w) A ((pure ():StateT SortSt Sem Unit).run (SortSt.mk' general' (vs.toArray.zip vs.toArray) #[] 7 none)) _ E _ from ?_)
  rw [StateT.run_pure]
  refine wpAny_pure ?_
  exact fin (SortSt.mk' general' (vs.toArray.zip vs.toArray) #[] 7 none) rfl (Array.Perm.refl _) (done_one h2)
 ·rw [if_neg h2,if_neg h2]
  have hl:2≤vs.length:=by simp at h2;omega
  refine wpAny_bind (hkk' hl ?_)
  refine wpAny_bind (wpAny_mono (rO (κ:=κ) hL' hk (st:=SortSt.mk' kd (vs.toArray.zip vs.toArray) #[] 7 none) ⟨Array.Perm.refl _,rfl,rfl⟩ rfl (by rw [pairsOf_size];omega) (by rw [pairsOf_size];omega)
   (Q:=fun _ st'=>(arrOf st').Perm (pairsOf vs)∧failedOf st'=none∧Seg κ (arrOf st') 0 (pairsOf vs).size) fun st' sb sg=>⟨sb.perm,sb.failed,sg⟩) ?_ fun _ _ e=>e)
  rintro ⟨⟨⟩,st'⟩ s' ⟨rfl,hp,hf,hs⟩
  exact fin st' hf hp hs
theorem nF {l:Addr} {vs:List Value} {Q:Value→Shared→Prop} (hl:s.heap.IsList l vs.toArray) (hn:vs.length≤63)
  (hk:KeysOf κ (pairsOf vs)) (hkk:∀ (A:Around) h',(∀ b o,s.heap.get? b=some o→h'.get? b=some o)→2≤vs.length→∀ {Q:SortKind→Shared→Prop} {E:Value→Shared→Prop},Q kd { s with heap:=h' }→wpAny (model prog w) A (keyKind' vs.toArray) Q E { s with heap:=h' })
  (hL:∀ (A:Around) (E:Value→Shared→Prop) h',(∀ b o,s.heap.get? b=some o→h'.get? b=some o)→nC (model prog w) A E { s with heap:=h' } κ kd)
  (h:∀ st':SortSt,(arrOf st').Perm (pairsOf vs)→Seg κ (arrOf st') 0 (pairsOf vs).size→Q (.ref (s.heap.objs.size+1)) { s with heap:=sortedAll s.heap vs ((arrOf st').map (·.2)) }) :
  wpAny (model prog w) A (call (.builtin "sorted") [.ref l]) Q E s:=by
 refine Calls.call_function_entry kind_sorted plain_sorted entry_sorted (args_sorted1 _) ?_
 unfold Builtin.«sorted»
 refine wpAny_bind (m:=checkCount "sorted" 1 1 _) (wpAny_pure (wpAny_bind (collect_list hl (wpAny_bind (wpAny_newList ?_ (Nat.le_trans hn (by decide)))) (Nat.le_trans hn (by decide)))))
 have zs:((s.heap.push (seqObj "list" #[] 0)).update s.heap.objs.size (Obj.mapSeq (·++vs.toArray))).objs.size=s.heap.objs.size+1:=by rw [Heap.size_update,size_push']
 have hL0:(((s.heap.push (seqObj "list" #[] 0)).update s.heap.objs.size (Obj.mapSeq (·++vs.toArray))).push (seqObj "list" vs.toArray 0)).get? (s.heap.objs.size+1)=some (seqObj "list" vs.toArray 0):=by
  rw [← zs];exact Heap.get?_push_size _ rfl
 have up:∀ b o,s.heap.get? b=some o→(((s.heap.push (seqObj "list" #[] 0)).update s.heap.objs.size (Obj.mapSeq (·++vs.toArray))).push (seqObj "list" vs.toArray 0)).get? b=some o:=fun b o e=>by
  have lb:=Heap.lt_size e
  rw [Heap.get?_push_ne _ _ _ (by rw [zs];exact Nat.ne_of_lt (Nat.lt_succ_of_lt lb)),Heap.get?_update_ne _ _ _ _ (Nat.ne_of_lt lb),Heap.get?_push_ne _ _ _ (Nat.ne_of_lt lb)]
  exact e
 show wpAny _ _ _ _ _ { s with heap:=((s.heap.push (seqObj "list" #[] 0)).update s.heap.objs.size (Obj.mapSeq (·++vs.toArray))).push (seqObj "list" vs.toArray 0) }
 dsimp only
 rw [zs]
 have nb:∀ b o,s.heap.get? b=some o→b≠s.heap.objs.size+1:=fun b o e=>Nat.ne_of_lt (Nat.lt_succ_of_lt (Heap.lt_size e))
 refine wpAny_bind (wpAny_holding (wpAny_call_entry slot_list_sort ⟨_,hL0,rfl⟩ entry_list_sort (jH (κ:=κ) (kd:=kd) hL0 hn hk (fun h' k h2 {Q} hq=>hkk _ h' (fun b o e=>k b o (nb b o e) (up b o e)) h2 hq) (fun h' k=>hL _ _ h' fun b o e=>k b o (nb b o e) (up b o e)) fun st' a1 a2=>⟨_,rfl,?_⟩) (args_list_sort _)))
 exact wpAny_pure ⟨_,rfl,h st' a1 a2⟩
end Ts
namespace Tk
open PySem PySem.W PyProof.Rows
section
variable {cmp:Nat→Nat→(Bool→Shared→Prop)→Shared→Prop} {s:Shared} {lt:Nat→Nat→Bool} {n pos:Nat}
end
section
variable {A:Around} {E:Value→Shared→Prop} {s:Shared} {kd:SortKind} {prog:Program} {w:World} {lt:Nat→Nat→Bool} {pos:Nat} {vs:List Value} {v:Value}
end
end Tk
namespace Dm
noncomputable def lx:List Int→List Int→Bool
 | [],[]=>false
 | [],_::_=>true
 | _::_,[]=>false
 | a::x,b::y=>if a=b then lx x y else decide (a<b)
theorem cX:∀ a,lx a a=false
 | []=>rfl
 | a::x=>by rw [lx,if_pos rfl,cX x]
theorem cY:∀ a b c,lx a b=true→lx b c=true→lx a c=true
 | [],[],_,h,_=>by cases h
 | [],_::_,[],_,h=>by cases h
 | [],_::_,_::_,_,_=>rfl
 | _::_,[],_,h,_=>by cases h
 | _::_,_::_,[],_,h=>by cases h
 | a::x,b::y,c::z,h1,h2=>by
  rw [lx] at h1 h2 ⊢
  by_cases e1:a=b
  ·subst e1
   rw [if_pos rfl] at h1
   by_cases e2:a=c
   ·subst e2;rw [if_pos rfl] at h2 ⊢;exact cY x y z h1 h2
   ·rw [if_neg e2] at h2 ⊢;exact h2
  ·rw [if_neg e1] at h1
   have h1:=of_decide_eq_true h1
   by_cases e2:b=c
   ·subst e2;rw [if_neg e1];exact decide_eq_true h1
   ·rw [if_neg e2] at h2
    have h2:=of_decide_eq_true h2
    rw [if_neg (by omega)]
    exact decide_eq_true (by omega)
theorem cZ:∀ a b,lx a b=false→lx b a=false→a=b
 | [],[],_,_=>rfl
 | [],_::_,h,_=>by cases h
 | _::_,[],_,h=>by cases h
 | a::x,b::y,h1,h2=>by
  rw [lx] at h1 h2
  by_cases e:a=b
  ·subst e
   rw [if_pos rfl] at h1 h2
   rw [cZ x y h1 h2]
  ·rw [if_neg e] at h1
   rw [if_neg (fun z=>e z.symm)] at h2
   have h1:=of_decide_eq_false h1
   have h2:=of_decide_eq_false h2
   omega
theorem nG (a b c:List Int) (h:lx a c=true):lx a b=true∨lx b c=true:=by
 by_cases h1:lx a b=true
 ·exact .inl h1
 ·refine .inr ?_
  have h1':lx a b=false:=by simpa using h1
  by_cases h2:lx b a=true
  ·exact cY b a c h2 h
  ·have:=cZ a b h1' (by simpa using h2)
   subst this
   exact h
noncomputable def ins {α:Type} (lt:α→α→Bool) (x:α):List α→List α
 | []=>[x]
 | y::l=>if lt y x then y::ins lt x l else x::y::l
noncomputable def gR {α:Type} (lt:α→α→Bool):List α→List α
 | []=>[]
 | x::l=>ins lt x (gR lt l)
noncomputable def iR:List Dat→Option (List (List Int))
 | []=>some []
 | .tup ds::r=>(match iQ ds with
  | some ns=>if ns.isEmpty then none else (iR r).map fun nss=>ns::nss
  | none=>none)
 | _=>none
noncomputable def rP (ns:List Int):Dat:=.tup (ns.map .int)
theorem jI {α:Type} (lt:α→α→Bool) (x:α):∀ l,(ins lt x l).Perm (x::l)
 | []=>List.Perm.refl _
 | y::l=>by
  rw [ins]
  split
  ·exact ((jI lt x l).cons y).trans (List.Perm.swap x y l)
  ·exact List.Perm.refl _
theorem dF {α:Type} (lt:α→α→Bool):∀ l,(gR lt l).Perm l
 | []=>List.Perm.refl _
 | x::l=>(jI lt x _).trans ((dF lt l).cons x)
theorem jJ {α:Type} {lt:α→α→Bool} (tr:∀ a b c,lt b a=false→lt c b=false→lt c a=false) (as:∀ a b,lt a b=true→lt b a=false) (x:α):∀ l:List α,l.Pairwise (fun a b=>lt b a=false)→(ins lt x l).Pairwise (fun a b=>lt b a=false)
 | [],_=>by simp [ins]
 | y::l,h=>by
  rw [ins]
  obtain ⟨h1,h2⟩:=List.pairwise_cons.mp h
  split
  ·rename_i hl
   refine List.pairwise_cons.mpr ⟨fun z hz=>?_,jJ tr as x l h2⟩
   rcases List.mem_cons.mp ((jI lt x l).mem_iff.mp hz) with rfl | hz
   ·exact as _ _ hl
   ·exact h1 z hz
  ·rename_i hl
   have hl':lt y x=false:=by simpa using hl
   refine List.pairwise_cons.mpr ⟨fun z hz=>?_,h⟩
   rcases List.mem_cons.mp hz with rfl | hz
   ·exact hl'
   ·exact tr _ _ _ hl' (h1 z hz)
theorem cu {α:Type} {lt:α→α→Bool} (tr:∀ a b c,lt b a=false→lt c b=false→lt c a=false) (as:∀ a b,lt a b=true→lt b a=false):∀ l:List α,(gR lt l).Pairwise (fun a b=>lt b a=false)
 | []=>List.Pairwise.nil
 | x::l=>jJ tr as x _ (cu tr as l)
theorem cK {α:Type} {lt:α→α→Bool} (tot:∀ a b,lt a b=false→lt b a=false→a=b):∀ {l m:List α},l.Perm m→l.Pairwise (fun a b=>lt b a=false)→m.Pairwise (fun a b=>lt b a=false)→l=m
 | [],m,p,_,_=>(List.nil_perm.mp p).symm
 | x::l,[],p,_,_=>by have:=p.length_eq;simp at this
 | x::l,y::m,p,h1,h2=>by
  obtain ⟨a1,a2⟩:=List.pairwise_cons.mp h1
  obtain ⟨b1,b2⟩:=List.pairwise_cons.mp h2
  have e:x=y:=by
   rcases List.mem_cons.mp (p.mem_iff.mp List.mem_cons_self) with hx | hx
   ·exact hx
   ·rcases List.mem_cons.mp (p.mem_iff.mpr (List.mem_cons_self (a:=y) (l:=m))) with hy | hy
    ·exact hy.symm
    ·exact tot x y (b1 x hx) (a1 y hy)
  subst e
  rw [cK tot (List.Perm.cons_inv p) a2 b2]
end Dm
namespace Br
open PySem PySem.Spec PyProof.Rows L2
noncomputable def lexOrd:KeyOrd:=⟨List Int,Dm.lx,Dm.cX,Dm.cY,fun a b c h=>Dm.nG a b c h,Dm.cZ⟩
noncomputable def ek:List V→Option (List Int)
 | []=>some []
 | .int i::r=>(ek r).map fun ns=>i::ns
 | _=>none
theorem a_:∀ ns:List Int,ek (ns.map V.int)=some ns
 | []=>rfl
 | n::ns=>by rw [List.map_cons,ek,a_ ns];rfl
theorem jK:∀ {xs:List V} {ns:List Int},ek xs=some ns→xs=ns.map V.int
 | [],ns,h=>by cases h;rfl
 | .int i::r,ns,h=>by
  unfold ek at h
  cases e:ek r with
  | none=>rw [e] at h;cases h
  | some ms=>rw [e] at h;cases h;rw [jK e];rfl
 | .non::_,_,h=>by cases h
 | .bl _::_,_,h=>by cases h
 | .str _::_,_,h=>by cases h
 | .ref _::_,_,h=>by cases h
 | .byt _::_,_,h=>by cases h
 | .flt _::_,_,h=>by cases h
 | .ty _::_,_,h=>by cases h
noncomputable def dG (H:Hp):Value→Option (List Int)
 | .ref a=>(match H a with
  | some (.tup xs)=>ek xs
  | _=>none)
 | _=>none
noncomputable def eO (H:Hp):KeyKind:={ lexOrd with keyOf:=dG H,dflt:=([]:List Int) }
section
variable {prog:Program} {w:World} {A:Around} {E:Value→Shared→Prop} {s:Shared}
theorem jL {fin:Bool} {Q:Bool→Shared→Prop}:∀ {xs ys:List Value} {ks ms:List Int} (i:Nat),IntsAre xs ks→IntsAre ys ms→fin=decide (ks.length<ms.length)→Q (Dm.lx ks ms) s →
  PySem.W.KatLex prog w A true fin Q (xs.zip ys) i s
 | _,_,_,_,i,.nil,.nil,hf,q=>by subst hf;exact q
 | _,_,_,_,i,.nil,.cons m u h',hf,q=>by subst hf;exact q
 | _,_,_,_,i,.cons k t h,.nil,hf,q=>by subst hf;exact q
 | _,_,_,_,i,.cons k t h,.cons m u h',hf,q=>by
  rw [List.zip_cons_cons]
  refine PySem.W.kat_cons (wpAny_eqBool_int ?_)
  rw [Dm.lx] at q
  by_cases e:k=m
  ·rw [if_pos e] at q
   have:(k == m)=true:=by simpa using e
   rw [this]
   refine PySem.W.kat_yes (jL (i+1) h h' ?_ q)
   rw [hf]
   simp
  ·rw [if_neg e] at q
   have:(k == m)=false:=by simpa using e
   rw [this]
   refine PySem.W.kat_no ?_
   cases hb:(true&&i == 0)
   ·exact PySem.W.kat_one _ _ (lt_int q)
   ·exact oneLt_int q
theorem mw {κ:KeyKind} {kd:SortKind} (h:∀ (x y:Keyed) (a b:κ.α) {Q:Bool→Shared→Prop} {E:Value→Shared→Prop},κ.keyOf x.1=some a→κ.keyOf y.1=some b→Q (κ.blt a b) s→wpAny (model prog w) A (keyLt' kd x.1 y.1) Q E s):Ts.nC (model prog w) A E s κ kd:=fun x y a b st Q ha hb hk q=>by
 rw [lt'_eq]
 refine wpS_bind (wpS_get ?_)
 rw [hk]
 refine wpS_bind (wpS_lift (wpAny_attempt (h x y a b ha hb ⟨rfl,?_⟩)))
 exact wpS_pure q
end
noncomputable def bk:Value→V
 | .ref a=>.ref a
 | .int n _=>.int n
 | _=>.non
section
variable {X:Cx}
theorem eS {vs:List Value} {q:Keyed} (h:q∈(pairsOf vs).toList):q.1=q.2∧q.1∈vs:=by
 rw [pairsOf_toList] at h
 have hh:∀ (l:List Value) (q:Keyed),q∈l.zip l→q.1=q.2∧q.1∈l:=fun l=>by
  induction l with
  | nil=>intro q h;cases h
  | cons v l ih=>
   intro q h
   rw [List.zip_cons_cons] at h
   rcases List.mem_cons.mp h with rfl | h
   ·exact ⟨rfl,List.mem_cons_self⟩
   ·exact ⟨(ih q h).1,List.mem_cons_of_mem _ (ih q h).2⟩
 exact hh _ q h
theorem vO (vs:List Value):(pairsOf vs).toList.map (·.2)=vs:=by
 rw [pairsOf_toList]
 have hh:∀ l:List Value,(l.zip l).map (·.2)=l:=fun l=>by
  induction l with
  | nil=>rfl
  | cons v l ih=>rw [List.zip_cons_cons,List.map_cons,ih]
 exact hh vs
theorem x_ {κ:KeyKind} {vs:List Value} {st':SortSt} (hk:KeysOf κ (pairsOf vs)) (hp:(arrOf st').Perm (pairsOf vs)) (hs:Ts.Seg κ (arrOf st') 0 (pairsOf vs).size) :
  ∃ out:List Value,((arrOf st').map (·.2))=out.toArray∧out.Perm vs∧out.Pairwise (fun u v=>∀ a b,κ.keyOf u=some a→κ.keyOf v=some b→κ.blt b a=false):=by
 have pm:=Array.perm_iff_toList_perm.mp hp
 refine ⟨(arrOf st').toList.map (·.2),Array.toList_inj.mp (by rw [Array.toList_map]),?_,?_⟩
 ·have:=pm.map (·.2)
  rwa [vO] at this
 ·have ka:KeysOf κ (arrOf st'):=fun q hq=>hk q (pm.mem_iff.mp hq)
  have hz:(arrOf st').size=(pairsOf vs).size:=hp.size_eq
  rw [← hz] at hs
  have:=(Ts.x9 ka (i:=0) (j:=(arrOf st').size) (Nat.le_refl _)).mp hs
  rw [Ts.A6,List.drop_zero] at this
  rw [List.pairwise_map]
  refine List.Pairwise.imp_of_mem ?_ this
  intro x y hx hy hle a b ha hb
  have e1:=(eS (pm.mem_iff.mp hx)).1
  have e2:=(eS (pm.mem_iff.mp hy)).1
  have hle':κ.blt (Ts.kp κ y) (Ts.kp κ x)=false:=hle
  unfold Ts.kp at hle'
  rw [e1,e2,ha,hb] at hle'
  exact hle'
end
end Br
namespace Dm
end Dm
namespace Br
open PySem PySem.Spec PyProof.Rows L2
section
variable {X:Cx}
end
theorem iA {H0:Hp}:∀ {zs:List V} (ks:V→List Int),(∀ z∈zs,∃ a:Addr,z=.ref a∧H0 a=some (.tup ((ks z).map V.int)))→aF H0 zs ((zs.map ks).map Dm.rP)
 | [],ks,_=>.nil
 | z::zs,ks,h=>by
  obtain ⟨a,rfl,e⟩:=h z List.mem_cons_self
  refine .cons (.tup e ?_) (iA ks fun y hy=>h y (List.mem_cons_of_mem _ hy))
  have:∀ ns:List Int,aF H0 (ns.map V.int) (ns.map Dm.Dat.int):=fun ns=>by
   induction ns with
   | nil=>exact .nil
   | cons n ns ih=>exact .cons (.int n) ih
  exact this _
section
variable {X:Cx} {a b c e:Expr} {f fa fb:Dm.FE} {fs:List Dm.FE} {p pos:Pos}
end
section
variable {X:Cx}
end
section
variable {σ:L2.St} {H:Hp} {Q:VK} {D:Ends}
end
section
variable {X:Cx} {e:Expr} {f:Dm.FE} {pos:Pos}
end
end Br
namespace L2
open PySem PySem.Spec PyProof.Rows
section
variable {X:Cx} {pins:List (Addr×Obj)} {σ:St} {H:Hp} {s:Shared} {x:Str} {C:Addr} {bmB:List Value} {B newId initId:String} {np cpos pos:Pos}
end
section
variable {P:Program} {w:World} {K:PySem.W.Frag} {mg:Str→Option Value} {base:Heap} {N:List Str} {qual:Str} {scope:Scope} {f:Addr} {cd:Value} {A:Around} {outer:List Env} {s₀:Shared} {H₀:Hp} {E:XK} {C:Addr}
 {pins:List (Addr×Obj)} {σ:St} {H:Hp} {s:Shared}
end
section
variable {X:Cx} {st:Stmt} {rest:List Stmt} {t:TS}
end
end L2
namespace Br
open PySem PySem.Spec PyProof.Rows L2
section
variable {X:Cx} {C:Addr} {E:L2.St→XK} {k:Nat} {F:Addr} {fd:FuncData} {ps:List Str} {x:Str} {p pos:Pos} {e:Expr} {es:List Expr} {fs:List Dm.FE} {bad:List Dm.Dat→Bool} {R S:Dm.Env→Option Dm.Env}
end
section
variable {P:Program} {w:World} {K:PySem.W.Frag} {mg:Str→Option Value} {base:Heap} {N:List Str} {qual:Str} {scope:Scope} {f:Addr} {cd:Value} {A:Around} {outer:List Env} {s₀:Shared} {H₀:Hp} {E:XK} {C:Addr}
end
end Br
namespace PySem.W
open PySem PySem.Spec PySem.Calls PyProof.Rows
section
variable {prog:Program} {w:World} {A:Around} {K:Frag} {x C:Addr} {s:Shared} {R:Result→Shared→Prop}
end
section
variable {prog:Program} {w:World} {A:Around} {E:Value→Shared→Prop} {K:Frag} {x C:Addr} {ox:Obj} {h:Heap} {g:Array GenState} {d:Drawn} {t:Nat} {os:OsState}
end
end PySem.W
namespace PySem
section
variable {M:Model} {A:Around} {E:Value→Shared→Prop} {s:Shared} {env:Env}
end
end PySem
namespace PySem.W
open PySem PySem.Spec PySem.Calls PyProof.Rows
end PySem.W
namespace L2
open PySem PySem.Spec PyProof.Rows
section
variable {X:Cx} {pins:List (Addr×Obj)} {σ:L2.St} {H:Hp} {s:Shared}
end
end L2
namespace Br
open PySem PySem.Spec PyProof.Rows L2
section
variable {X:Cx} {pins pn:List (Addr×Obj)} {σ:L2.St} {H:Hp} {s:Shared} {xe:Value→Shared→Prop}
end
section
variable {X:Cx} {C:Addr} {e:Expr} {f:Dm.FE} {p p2 pos:Pos} {b:Bool}
end
section
variable {X:Cx} {C:Addr} {e:Expr} {es:List Expr} {f:Dm.FE} {p p2 pos:Pos} {b:Bool} {Ds:List Addr}
end
section
variable {X:Cx} {a b c e:Expr} {f fa fb fc:Dm.FE} {p p2 pos:Pos} {es:List Expr} {fs:List Dm.FE}
end
end Br
namespace Dm
end Dm
namespace Br
open PySem PySem.Spec PyProof.Rows L2
section
variable {X:Cx}
end
section
variable {X:Cx} {e:Expr} {fs:List Dm.FE} {p pos:Pos}
end
section
variable {X:Cx}
end
section
variable {σ:L2.St} {H:Hp} {Q:VK}
end
section
variable {X:Cx} {a e:Expr} {fa f:Dm.FE}
end
section
variable {P:Program} {w:World} {K:PySem.W.Frag} {mg:Str→Option Value} {base:Heap}
end
section
variable {X:Cx} {l a:Expr} {tl:TE} {ta:TA} {fa:Dm.FE} {p pos p0 iw:Pos}
end
section
variable {σ:L2.St} {H:Hp} {Q:VK}
end
section
variable {X:Cx} {e:Expr} {es:List Expr} {fs:List Dm.FE} {p pos:Pos}
end
end Br
namespace Dm
noncomputable abbrev FN:=Env→List (List Dat)→Option (Env×List (List Dat))
noncomputable def nNx:FN:=fun ρ r=>some (ρ,r)
noncomputable def rQ (s u:FN):FN:=fun ρ r=>match s ρ r with
 | none=>none
 | some (ρ1,r1)=>u ρ1 r1
noncomputable def nIf (t:FT) (a b:FN):FN:=fun ρ r=>match t ρ with
 | none=>none
 | some (true,ρ1)=>a ρ1 r
 | some (false,ρ1)=>b ρ1 r
noncomputable def o_ (i e:FE):FN:=fun ρ r=>match i ρ with
 | some (.val (.int k),ρ1)=>(match ixN r.length k with
  | none=>none
  | some m=>match r[m]? with
   | none=>none
   | some row=>match e ρ1 with
    | none=>none
    | some (x,ρ2)=>match tk ρ2 x with
     | none=>none
     | some (d,ρ3)=>if row.length<SZ then some (ρ3,r.set m (row++[d])) else none)
 | _=>none
noncomputable def nA (j i:Nat) (e:FE):FN:=fun ρ r=>if i=j then none else match sA i e ρ with
 | some (.nx ρ1)=>some (ρ1,r)
 | _=>none
noncomputable def iU (bd:FB) (body:FN):List Dat→FN
 | [],ρ,r=>some (ρ,r)
 | d::q,ρ,r=>match bd d ρ with
  | none=>none
  | some ρ1=>match body ρ1 r with
   | none=>none
   | some (ρ2,r2)=>iU bd body q ρ2 r2
noncomputable def vP (it:FI) (bd:FB) (body:FN):FN:=fun ρ r=>match it ρ with
 | none=>none
 | some (ds,ρ1)=>iU bd body ds ρ1 r
noncomputable def gS:Dat→Dat→Option RV
 | .int i,.int j=>if i.natAbs.log2<1000000∧j.natAbs.log2<1000000 then vI (i*j) else none
 | _,_=>none
noncomputable def fF (lo k:Int) (n:Nat):List Dat:=(List.range n).map fun i=>Dat.int (lo+(i:Nat)*k)
noncomputable def bW (i j k:Int):Nat:=if i<j then ((j-i-1) / k+1).toNat else 0
noncomputable def iRs (a b c:FE):FI:=fun ρ=>match a ρ with
 | some (.val (.int i),ρ1)=>(match b ρ1 with
  | some (.val (.int j),ρ2)=>(match c ρ2 with
   | some (.val (.int k),ρ3)=>if (0<k∧k≤1000)∧j≤BIG∧-BIG≤j∧i≤BIG∧-BIG≤i then some (fF i k (bW i j k),ρ3) else none
   | _=>none)
  | _=>none)
 | _=>none
noncomputable def iB:List Val→Option (List Dat)
 | []=>some []
 | .val d::r=>(iB r).map fun ds=>d::ds
 | _=>none
noncomputable def eFn (f:List Dat→Option (RV×Dat)) (e0:FE) (as:List FE):FE:=fun ρ=>match eAs (e0::as) ρ with
 | some (.new d::xs,ρ1)=>(match iB xs with
  | none=>none
  | some ds=>match f (d::ds) with
   | none=>none
   | some (v,_)=>some (v.bz,ρ1))
 | _=>none
end Dm
namespace Br
open PySem PySem.Spec PyProof.Rows L2
noncomputable def aS (H0 H:Hp):List Addr→List (List Dm.Dat)→Prop
 | [],[]=>True
 | p::ps,r::rs=>(∃ xs,H p=some (.lst xs)∧aF H0 xs r)∧aS H0 H ps rs
 | _,_=>False
theorem aS.len {H0 H:Hp}:∀ {ps:List Addr} {rs:List (List Dm.Dat)},aS H0 H ps rs→ps.length=rs.length
 | [],[],_=>rfl
 | _::_,_::_,h=>by simp [aS.len h.2]
theorem aS.get {H0 H:Hp}:∀ {ps:List Addr} {rs:List (List Dm.Dat)} {i:Nat} {r:List Dm.Dat},aS H0 H ps rs→rs[i]?=some r→∃ p xs,ps[i]?=some p∧H p=some (.lst xs)∧aF H0 xs r
 | [],[],_,_,_,e=>by simp at e
 | p::_,_::_,0,_,h,e=>by simp at e;subst e;obtain ⟨xs,h1,h2⟩:=h.1;exact ⟨p,xs,rfl,h1,h2⟩
 | _::_,_::_,i+1,_,h,e=>by
  obtain ⟨p,xs,h1,h2⟩:=aS.get (i:=i) h.2 (by simpa using e)
  exact ⟨p,xs,by simpa using h1,h2⟩
theorem aS.mono {H0 H H0' H':Hp}:∀ {ps:List Addr} {rs:List (List Dm.Dat)},aS H0 H ps rs→aj H0 H0'→(∀ p∈ps,H' p=H p)→aS H0' H' ps rs
 | [],[],_,_,_=>trivial
 | p::ps,r::rs,h,s,k=>by
  obtain ⟨⟨xs,h1,h2⟩,h3⟩:=h
  exact ⟨⟨xs,by rw [k p List.mem_cons_self];exact h1,h2.mono s⟩,aS.mono h3 s fun q hq=>k q (List.mem_cons_of_mem _ hq)⟩
theorem aS.set {H0 H:Hp} {p:Addr} {xs:List V} {r:List Dm.Dat} (w:aF H0 xs r):∀ {ps:List Addr} {rs:List (List Dm.Dat)} {i:Nat},aS H0 H ps rs→ps.Nodup→ps[i]?=some p→aS H0 (upd H p (.lst xs)) ps (rs.set i r)
 | [],[],_,_,_,e=>by simp at e
 | q::ps,_::rs,0,h,n,e=>by
  simp at e
  subst e
  refine ⟨⟨xs,aD,w⟩,h.2.mono (aj.refl _) fun y hy=>av fun z=>?_⟩
  subst z
  exact (List.nodup_cons.mp n).1 hy
 | q::ps,_::rs,i+1,h,n,e=>by
  have e':ps[i]?=some p:=by simpa using e
  obtain ⟨⟨ys,h1,h2⟩,h3⟩:=h
  obtain ⟨n1,n2⟩:=List.nodup_cons.mp n
  refine ⟨⟨ys,?_,h2⟩,aS.set w h3 n2 e'⟩
  rw [av fun z=>?_]
  ·exact h1
  ·subst z
   exact n1 (List.mem_of_getElem? e')
theorem aS.some {H0 H:Hp}:∀ {ps:List Addr} {rs:List (List Dm.Dat)},aS H0 H ps rs→∀ p∈ps,∃ o,H p=some o
 | [],[],_,_,h=>by cases h
 | q::ps,_::rs,h,p,hp=>by
  rcases List.mem_cons.mp hp with rfl | hp
  ·obtain ⟨xs,h1,_⟩:=h.1;exact ⟨_,h1⟩
  ·exact aS.some h.2 p hp
structure NS (j:Nat) (σs:L2.St) (ρs:Dm.Env) (H0s Hs:Hp) (σ:L2.St) (ρ:Dm.Env) (H0 H:Hp) (rows:List (List Dm.Dat)):Prop where
 st:az H0 H σ ρ
 stp:Stp (ak σs ρs) H0s Hs H0 H
 own:∀ a,ak σ ρ a→ak σs ρs a∨Hs a=none
 fx:σ[0]?=σs[0]?
 ex:∃ (L:Addr) (ps:List Addr),σ[j]?=some (some (.ref L))∧Hs L=none∧H0 L=none∧¬ ak σ ρ L∧H L=some (.lst (ps.map V.ref))∧(L::ps).Nodup∧(∀ p∈ps,Hs p=none∧H0 p=none∧¬ ak σ ρ p)∧aS H0 H ps rows
theorem NS.est {j:Nat} {σs:L2.St} {ρs:Dm.Env} {H0s Hs:Hp} {σ:L2.St} {ρ ρ':Dm.Env} {H0 H H0' H':Hp} {rows:List (List Dm.Dat)} (n:NS j σs ρs H0s Hs σ ρ H0 H rows) (t:ESt σ ρ H0 H ρ' H0' H'):NS j σs ρs H0s Hs σ ρ' H0' H' rows:=by
 obtain ⟨L,ps,h1,h2,h3,h4,h5,h6,h7,h8⟩:=n.ex
 obtain ⟨k1,k2,k3⟩:=t.cV h5 h3 h4
 refine ⟨t.st,n.stp.trans t.stp n.own,fun a z=>n.own a (t.own a z),n.fx,L,ps,h1,h2,k2,k3,k1,h6,fun p hp=>?_,h8.mono t.stp.s0 fun p hp=>?_⟩
 ·obtain ⟨q1,q2,q3⟩:=h7 p hp
  obtain ⟨o,q4⟩:=h8.some p hp
  obtain ⟨z1,z2,z3⟩:=t.cV q4 q2 q3
  exact ⟨q1,z2,z3⟩
 ·obtain ⟨q1,q2,q3⟩:=h7 p hp
  obtain ⟨o,q4⟩:=h8.some p hp
  obtain ⟨z1,z2,z3⟩:=t.cV q4 q2 q3
  rw [z1,q4]
theorem NS.bind {j:Nat} {σs:L2.St} {ρs:Dm.Env} {H0s Hs:Hp} {σ σ':L2.St} {ρ ρ':Dm.Env} {H0 H:Hp} {rows:List (List Dm.Dat)} (n:NS j σs ρs H0s Hs σ ρ H0 H rows) (st:az H0 H σ' ρ') (o:∀ a,ak σ' ρ' a→ak σ ρ a) (hj:σ'[j]?=σ[j]?) (h0:σ'[0]?=σ[0]?):NS j σs ρs H0s Hs σ' ρ' H0 H rows:=by
 obtain ⟨L,ps,h1,h2,h3,h4,h5,h6,h7,h8⟩:=n.ex
 exact ⟨st,n.stp,fun a z=>n.own a (o a z),h0.trans n.fx,L,ps,hj.trans h1,h2,h3,fun z=>h4 (o L z),h5,h6,fun p hp=>⟨(h7 p hp).1,(h7 p hp).2.1,fun z=>(h7 p hp).2.2 (o p z)⟩,h8⟩
noncomputable def pq (H0 H:Hp) (ps:List Addr):Hp:=fun b=>if b∈ps then H b else H0 b
theorem nH {H0 H:Hp} {ps:List Addr} {b:Addr} (h:b∈ps):pq H0 H ps b=H b:=by unfold pq;rw [if_pos h]
theorem eu {H0 H:Hp} {ps:List Addr} {b:Addr} (h:b∉ps):pq H0 H ps b=H0 b:=by unfold pq;rw [if_neg h]
theorem vQ {H0 H:Hp} {ps:List Addr} (s:aj H0 H):aj H0 (pq H0 H ps):=fun b o e=>by
 by_cases q:b∈ps
 ·rw [nH q];exact s _ _ e
 ·rw [eu q];exact e
theorem ya {H0 H:Hp} {ps:List Addr} (s:aj H0 H):aj (pq H0 H ps) H:=fun b o e=>by
 by_cases q:b∈ps
 ·rw [nH q] at e;exact e
 ·rw [eu q] at e;exact s _ _ e
theorem aS.reps {H0 H H1:Hp}:∀ {ps:List Addr} {rs:List (List Dm.Dat)},aS H0 H ps rs→aj H0 H1→(∀ p∈ps,H1 p=H p)→aF H1 (ps.map V.ref) (rs.map Dm.Dat.lst)
 | [],[],_,_,_=>.nil
 | p::ps,r::rs,h,s,k=>by
  obtain ⟨⟨xs,h1,h2⟩,h3⟩:=h
  exact .cons (.lst (.inl ((k p List.mem_cons_self).trans h1)) (h2.mono s)) (aS.reps h3 s fun q hq=>k q (List.mem_cons_of_mem _ hq))
theorem NS.done {j:Nat} {σs:L2.St} {ρs:Dm.Env} {H0s Hs:Hp} {σ:L2.St} {ρ:Dm.Env} {H0 H:Hp} {rows:List (List Dm.Dat)} (n:NS j σs ρs H0s Hs σ ρ H0 H rows):∃ H0',SSt σs ρs H0s Hs σ (ρ.set j (.ow (.lst (rows.map Dm.Dat.lst)))) H0' H:=by
 obtain ⟨L,ps,h1,h2,h3,h4,h5,h6,h7,h8⟩:=n.ex
 obtain ⟨n1,n2⟩:=List.nodup_cons.mp h6
 have ss:=vQ (ps:=ps) n.st.same
 have st:az (pq H0 H ps) H σ ρ:={
  same:=ya n.st.same
  len:=n.st.len
  sh:=fun i d h=>by
   obtain ⟨v,z,r⟩:=n.st.sh i d h
   exact ⟨v,z,r.mono ss⟩
  ow:=fun i d h=>by
   obtain ⟨b,z,q,w⟩:=n.st.ow i d h
   have nb:b∉ps:=fun y=>(h7 b y).2.2 ⟨i,d,h,z⟩
   exact ⟨b,z,by rw [eu nb];exact q,w.mono ss rfl⟩
  dis:=n.st.dis }
 refine ⟨pq H0 H ps,st.iz h1 h4 (by rw [eu n1];exact h3) ⟨_,h5,h8.reps ss fun p hp=>nH hp⟩,⟨n.stp.s0.trans ss,n.stp.s1,fun a o e=>?_,n.stp.s3⟩,fun a z=>?_,n.fx⟩
 ·by_cases q:a∈ps
  ·exact .inl (h7 a q).1
  ·rw [eu q] at e;exact n.stp.s2 a o e
 ·obtain ⟨i,d,z1,z2⟩:=z
  by_cases q:j=i
  ·subst q
   rw [h1] at z2
   cases z2
   exact .inr h2
  ·rw [List.getElem?_set_ne q] at z1
   exact n.own a ⟨i,d,z1,z2⟩
noncomputable def tDN (j:Nat) (f:Dm.FN):TS:=fun D σ H=>∃ σs ρs H0s Hs H0 ρ rows ρ' rows',NS j σs ρs H0s Hs σ ρ H0 H rows∧f ρ rows=some (ρ',rows')∧∀ σ' H0' H',NS j σs ρs H0s Hs σ' ρ' H0' H' rows'→aj H0 H0'→D.nx σ' H'
section
variable {D:Ends} {σ:L2.St} {H:Hp} {j:Nat}
theorem HD (h:tDN j Dm.nNx D σ H):wI D σ H:=by
 obtain ⟨σs,ρs,H0s,Hs,H0,ρ,rows,ρ',rows',n,e,k⟩:=h
 cases e
 exact k σ H0 H n (aj.refl _)
theorem EI {s u:Dm.FN} (h:tDN j (Dm.rQ s u) D σ H):wJ (tDN j s) (tDN j u) D σ H:=by
 obtain ⟨σs,ρs,H0s,Hs,H0,ρ,rows,ρ',rows',n,e,k⟩:=h
 unfold Dm.rQ at e
 split at e
 ·cases e
 rename_i ρ1 r1 e1
 exact ⟨σs,ρs,H0s,Hs,H0,ρ,rows,ρ1,r1,n,e1,fun σ' H0' H' n' s1=>⟨σs,ρs,H0s,Hs,H0',ρ1,r1,ρ',rows',n',e,fun σ2 H2 Hc n2 s2=>k σ2 H2 Hc n2 (s1.trans s2)⟩⟩
theorem HE {t:Dm.FT} {a b:Dm.FN} (h:tDN j (Dm.nIf t a b) D σ H):Dy (tDT t) (tDN j a) (tDN j b) D σ H:=by
 obtain ⟨σs,ρs,H0s,Hs,H0,ρ,rows,ρ',rows',n,e,k⟩:=h
 unfold Dm.nIf at e
 split at e
 ·cases e
 ·rename_i ρ1 e1
  refine ⟨H0,ρ,true,ρ1,n.st,e1,fun H1 Hb t1=>?_⟩
  dsimp only
  rw [if_pos rfl]
  exact ⟨σs,ρs,H0s,Hs,H1,ρ1,rows,ρ',rows',n.est t1,e,fun σ2 H2 Hc n2 s2=>k σ2 H2 Hc n2 (t1.stp.s0.trans s2)⟩
 ·rename_i ρ1 e1
  refine ⟨H0,ρ,false,ρ1,n.st,e1,fun H1 Hb t1=>?_⟩
  dsimp only
  rw [if_neg Bool.false_ne_true]
  exact ⟨σs,ρs,H0s,Hs,H1,ρ1,rows,ρ',rows',n.est t1,e,fun σ2 H2 Hc n2 s2=>k σ2 H2 Hc n2 (t1.stp.s0.trans s2)⟩
theorem EJ {fi:Dm.FI} {bd:Dm.FB} {g:TG} {body:Dm.FN} {is:List Nat} (hb:BD is g bd) (hj:j∉is) (h:tDN j (Dm.vP fi bd body) D σ H):DG (tDI fi) g (tDN j body) D σ H:=by
 obtain ⟨σs,ρs,H0s,Hs,H0,ρ,rows,ρ',rows',n,e,k⟩:=h
 unfold Dm.vP at e
 split at e
 ·cases e
 rename_i ys ρ1 e1
 refine ⟨H0,ρ,ys,ρ1,n.st,e1,fun J H00 Hb t1 jw=>?_⟩
 refine ⟨fun i m σ H=>∃ H0 ρ rows,NS j σs ρs H0s Hs σ ρ H0 H rows∧aj H00 H0∧m=ys.length-i∧i≤ys.length∧Dm.iU bd body (ys.drop i) ρ rows=some (ρ',rows'),
  ⟨ys.length,H00,ρ1,rows,n.est t1,aj.refl _,by simp,Nat.zero_le _,by simpa using e⟩,?_⟩
 rintro i m σ H ⟨H0,ρ,rows,n,s00,rfl,hi,e⟩
 obtain ⟨js,jg⟩:=jw H0 H s00 n.st.same
 by_cases hlt:i<ys.length
 ·have hd:ys[i]?=some ys[i]:=by simp [hlt]
  obtain ⟨g1,g2⟩:=jg i ys[i] hd
  rw [List.drop_eq_getElem_cons hlt] at e
  unfold Dm.iU at e
  refine .inr ⟨g1,fun σ' H'=>∃ H0 ρ rows,NS j σs ρs H0s Hs σ' ρ H0 H' rows∧aj H00 H0∧Dm.iU bd body (ys.drop (i+1)) ρ rows=some (ρ',rows'),?_,fun x H' y=>?_⟩
  ·rintro σ' H' ⟨H0',ρ2,r2,h1,h2,h3⟩
   exact ⟨ys.length-(i+1),by omega,H0',ρ2,r2,h1,h2,rfl,hlt,h3⟩
  ·obtain ⟨H0',gr,rx⟩:=g2 x H' y
   split at e
   ·cases e
   ·rename_i ρ2 e2
    have t2:=ESt.grow n.st gr
    have n2:=n.est t2
    refine hb H0' H' σ ρ ρ2 x ys[i] _ t2.st rx e2 fun σ2 st2 o2 k2 _ f2=>?_
    have n3:=n2.bind st2 o2 (k2 j hj) f2
    have s3:aj H00 H0':=s00.trans gr.s0
    split at e
    ·cases e
    ·rename_i ρ3 r3 e3
     refine ⟨σs,ρs,H0s,Hs,H0',ρ2,rows,ρ3,r3,n3,e3,fun σ4 H4 Hd n4 s4=>⟨H4,ρ3,r3,n4,s3.trans s4,e⟩⟩
 ·have e':i=ys.length:=by omega
  subst e'
  rw [List.drop_length] at e
  cases e
  exact .inl ⟨js _ (Nat.le_refl _),k σ H0 H n (t1.stp.s0.trans s00)⟩
theorem EK {K:PySem.W.Frag} {fi f:Dm.FE} (h:tDN j (Dm.o_ fi f) D σ H):tL (tBM K "list" m8 (tOp (DV K) (wF j) (tD fi)) (tDA [f])) D σ H:=by
 obtain ⟨σs,ρs,H0s,Hs,H0,ρ,rows,ρ',rows',n,e,k⟩:=h
 unfold Dm.o_ at e
 split at e
 case h_2=>cases e
 rename_i z ρ1 e1
 split at e
 ·cases e
 rename_i m em
 split at e
 ·cases e
 rename_i row er
 split at e
 ·cases e
 rename_i x ρ2 e2
 split at e
 ·cases e
 rename_i d ρ3 e3
 split at e
 case isFalse=>cases e
 rename_i hz
 cases e
 obtain ⟨L,ps0,h1,_⟩:=n.ex
 refine ⟨_,h1,H0,ρ,_,ρ1,n.st,e1,fun y H1 Hb t1 r1=>?_⟩
 have n1:=n.est t1
 obtain ⟨L',ps,q1,q2,q3,q4,q5,q6,q7,q8⟩:=n1.ex
 rw [h1] at q1
 cases q1
 obtain ⟨q,xs,hq,hqx,hqr⟩:=q8.get er
 have hqm:q∈ps:=List.mem_of_getElem? hq
 refine ⟨L,ps.map V.ref,z,V.ref q,rfl,Rep.isInt r1,.inl (.inl q5),?_,.inl ⟨rfl,xs,.inl (.inl hqx)⟩,?_⟩
 ·show (L2.ixN (ps.map V.ref).length z).bind (fun j=>(ps.map V.ref)[j]?)=_
  rw [List.length_map,q8.len,← Eb,em]
  show (ps.map V.ref)[m]?=_
  rw [List.getElem?_map,hq]
  rfl
 refine ⟨H1,ρ1,[x],ρ2,n1.st,by unfold Dm.eAs;rw [e2];rfl,fun vs H2 Hc t2 r2=>?_⟩
 cases r2 with
 | cons r rr=>
  cases rr
  obtain ⟨H3,t3,b3,r3,_,_⟩:=take1 t2 (aj.refl _) r e3
  have n3:=n1.est t3
  obtain ⟨L',ps',w1,w2,w3,w4,w5,w6,w7,w8⟩:=n3.ex
  rw [h1] at w1
  cases w1
  obtain ⟨k1,_,_⟩:=t3.cV q5 q3 q4
  rw [k1] at w5
  have ep:ps'=ps:=by
   have:ps.map V.ref=ps'.map V.ref:=by injection w5 with z;injection z
   exact ((List.map_inj_right fun a b h=>by injection h).mp this).symm
  subst ep
  obtain ⟨q',ys,hq',hqy,HF⟩:=w8.get er
  rw [hq] at hq'
  cases hq'
  have nL:L≠q:=fun z=>(List.nodup_cons.mp w6).1 (z▸hqm)
  refine ⟨q,ys,_,rfl,rfl,hqy,by rw [HF.length];exact Nat.lt_of_lt_of_le hz (by decide),?_⟩
  obtain ⟨z1,z2,z3⟩:=w7 q hqm
  refine k σ H3 _ ⟨n3.st.aside z2 z3,n3.stp.aside z1,n3.own,n3.fx,L,ps',h1,w2,w3,w4,by rw [av nL];exact k1,w6,w7,aS.set (HF.append (.cons r3 .nil)) w8 (List.nodup_cons.mp w6).2 hq⟩ (t1.stp.s0.trans t3.stp.s0)
theorem JQ {i:Nat} {f:Dm.FE} (h:tDN j (Dm.nA j i f) D σ H):oB (tD f) (gD i) D σ H:=by
 obtain ⟨σs,ρs,H0s,Hs,H0,ρ,rows,ρ',rows',n,e,k⟩:=h
 unfold Dm.nA at e
 split at e
 ·cases e
 rename_i hij
 split at e
 case h_2=>cases e
 rename_i ρ9 e9
 cases e
 unfold Dm.sA at e9
 split at e9
 ·cases e9
 rename_i hi0
 split at e9
 ·cases e9
 ·rename_i d ρ1 e1
  cases e9
  refine ⟨H0,ρ,_,ρ1,n.st,e1,fun v H0' H' t r=>?_⟩
  obtain ⟨a,e,n1,no,n0,w⟩:=r
  subst e
  have m:=n.est t
  obtain ⟨L0,ps0,y1,_,_,_,y5,_,y7,y8⟩:=n.ex
  obtain ⟨L,ps,h1,h2,h3,h4,h5,h6,h7,h8⟩:=m.ex
  rw [y1] at h1
  cases h1
  obtain ⟨k1,_,_⟩:=t.cV y5 (by assumption) (by assumption)
  rw [k1] at h5
  have ep:ps=ps0:=by
   have:ps0.map V.ref=ps.map V.ref:=by injection h5 with z;injection z
   exact ((List.map_inj_right fun a b h=>by injection h).mp this).symm
  subst ep
  have nL:L0≠a:=fun z=>by rw [z,n1] at y5;cases y5
  have nP:∀ p∈ps,p≠a:=fun p hp z=>by
   obtain ⟨o,q⟩:=y8.some p hp
   rw [z,n1] at q;cases q
  refine k _ H0' H' ⟨m.st.rE no n0 w,m.stp,fun b z=>?_,(List.getElem?_set_ne hi0).trans m.fx,L0,ps,(List.getElem?_set_ne hij).trans y1,h2,h3,fun z=>?_,k1,h6,fun p hp=>⟨(h7 p hp).1,(h7 p hp).2.1,fun z=>?_⟩,h8⟩ t.stp.s0
  ·rcases ck z with rfl | z
   ·exact .inr (n.stp.gone n1)
   ·exact m.own b z
  ·rcases ck z with z | z
   ·exact nL z
   ·exact h4 z
  ·rcases ck z with z | z
   ·exact nP p hp z
   ·exact (h7 p hp).2.2 z
 ·rename_i x ρ1 _ e1
  split at e9
  ·cases e9
  ·rename_i d ρ2 e2
   cases e9
   refine ⟨H0,ρ,_,ρ1,n.st,e1,fun v H0' H' t r=>?_⟩
   obtain ⟨H1,t1,b1,r1,_,_⟩:=take1 t (aj.refl _) r e2
   exact k _ H1 H' ((n.est t1).bind (t1.st.nq r1) (fun b z=>cj z) (List.getElem?_set_ne hij) (List.getElem?_set_ne hi0)) t1.stp.s0
end
theorem A7 {s u:Dm.FS} {ρ:Dm.Env} {o:Dm.Out} (hs:∀ z,s ρ=some z→∃ ρ',z=.nx ρ') (e:Dm.aA s u ρ=some o):∃ ρ1,s ρ=some (.nx ρ1)∧u ρ1=some o:=by
 cases q:s ρ with
 | none=>unfold Dm.aA at e;rw [q] at e;cases e
 | some z=>
  obtain ⟨ρ1,rfl⟩:=hs z q
  unfold Dm.aA at e
  rw [q] at e
  exact ⟨ρ1,rfl,e⟩
noncomputable abbrev DN (X:Cx) (j:Nat) (st:Stmt) (f:Dm.FN):Prop:=PS X st (tDN j f)
noncomputable abbrev DNs (X:Cx) (j:Nat) (st:List Stmt) (f:Dm.FN):Prop:=PSs X st (tDN j f)
section
variable {X:Cx} {st:Stmt} {rest:List Stmt} {fs gs:Dm.FN} {e c:Expr} {f:Dm.FE} {pos:Pos} {j:Nat}
theorem HG:DNs X j [] Dm.nNx:=PSs.weak tH fun _ _ _=>HD
theorem yb (h1:DN X j st fs) (h2:DNs X j rest gs):DNs X j (st::rest) (Dm.rQ fs gs):=PSs.weak (gC h1 h2) fun _ _ _=>EI
theorem CA (h1:DN X j st fs):DNs X j [st] fs:=tK h1
theorem JR {t:Dm.FT} {x y:List Stmt} (ht:DT X c t) (ha:DNs X j x fs) (hb:DNs X j y gs):DN X j (.If c x y pos) (Dm.nIf t fs gs):=PS.weak (Cc ht ha hb) fun _ _ _=>HE
theorem n_a (i:Nat) {x:Str} {pos':Pos} (hN:X.N.Nodup) (he:DE X e f) (hi:X.N[i]?=some x:=by rfl) (hx:Loc X.env.scope x:=by first | exact Or.inl rfl | exact Or.inr rfl) (hs:swapsWith e (some (.Name x pos')) pos.line X.env=pure false:=by rfl)
  (hf:X.fn x=true∨X.env.scope.names.lookup x=some .local:=by first | exact .inl rfl | exact .inr rfl | assumption):DN X j (.Assign [.Name x pos'] e pos) (Dm.nA j i f):=PS.weak (qY hN hi hx he hs hf) fun _ _ _=>JQ
theorem HH {tg it:Expr} {fi:Dm.FI} {is:List Nat} {bd:Dm.FB} {body:List Stmt} (hp:PassesOwn (model X.prog X.w) X.A X.env X.xe) (hc:X.calm=true) (hi:DI X tg it fi) (hg:TG' X tg is bd) (hb:DNs X j body fs) (hj:decide (j∈is)=false:=by rfl)
  (hs:∀ x,foldedSetIterable it X.env x=pure x:=by intro _;rfl):DN X j (.For tg it body [] pos) (Dm.vP fi bd fs):=by
 obtain ⟨g,h1,h2⟩:=hg.ex
 exact PS.weak (wU hp hc hi h1 hb hs) fun _ _ _=>EJ h2 (of_decide_eq_false hj)
theorem CB {x:Str} {i:Expr} {fi:Dm.FE} {px sp ap cp:Pos} (hi':DE X i fi) (he:DE X e f) (hi:X.N[j]?=some x:=by rfl) (hv:Vis X.env.scope x:=by first | exact Or.inl rfl | exact Or.inr (Or.inl rfl) | exact Or.inr (Or.inr rfl)) (hd:(x == ("__debug__" : Str))=false:=by decide)
  (hcd:(x == ("__classdict__" : Str))=false:=by decide) (hpl:m6 i:=by intro _ _;rfl) (hbase:attributeBase (.Subscript (.Name x px) i sp) "append" X.env (eval (.Subscript (.Name x px) i sp) X.env)=eval (.Subscript (.Name x px) i sp) X.env:=by rfl)
  (hfew:((backTo cp (starEach [e] X.env)).all (fun x=>!x.1)&&(backToKw cp (keywordEach [] X.env)).all (fun x=>x.1.isSome)
   && decide ([e].length+([]:List Keyword).length+(if ([]:List Keyword).isEmpty then 0 else 1)<30))=true:=by rfl)
  (hline:(ap.endLine == cp.line)=true:=by rfl) (hs:starEach [e] X.env=(false,eval e X.env)::starEach [] X.env:=by rfl) (hplain:(backTo cp (starEach [] X.env)).any (·.1)=false:=by rfl)
  (hsw:swapsWith (.Call (.Attribute (.Subscript (.Name x px) i sp) "append" ap) [e] [] cp) none pos.line X.env=pure false:=by rfl) :
  DN X j (.Expr (.Call (.Attribute (.Subscript (.Name x px) i sp) "append" ap) [e] [] cp) pos) (Dm.o_ fi f):=
 PS.weak (mX (Cn PySem.F.plainAttrs_list PySem.F.slot_list_append PySem.F.type_list_append h_ (Ck tR (mW hi hv hd hcd) hi' hpl) (aa he af hs) hbase hfew hline hs hplain) hsw) fun _ _ _=>EK
end
section
variable {σ:L2.St} {H:Hp} {Q:VK}
end
open Classical in
section
variable {X:Cx} {e b:Expr} {es:List Expr} {fs:List Dm.FE} {fb:Dm.FE} {p pos:Pos}
end
section
variable {X:Cx} {a b c e:Expr} {fa fb fc:Dm.FE} {p pos:Pos}
theorem bits_le {i:Int} (h:i.natAbs.log2<1000000):Builtin.Int.intBits i≤2 ^ 20:=by
 have:Builtin.Int.intBits i≤i.natAbs.log2+1:=by
  unfold Builtin.Int.intBits
  first | omega | (split<;>omega) | simp
 omega
noncomputable def CC (i j:Int):Prop:=i.natAbs.log2<1000000∧j.natAbs.log2<1000000
theorem A8:OpR X (binaryOp .Mult) (rI CC fun i j=>.int (i*j)):=opI fun _ _ _ _ _ _ _ hc q=>mul_int q (.of_bits (bits_le hc.1) (bits_le hc.2))
theorem A9:OpD (rI CC fun i j=>.int (i*j)) Dm.gS:=by
 intro H0 H x y dx dy z Q s rx ry e k
 unfold Dm.gS at e
 split at e
 ·split at e
  case isFalse=>cases e
  rename_i hb
  cases e
  cases aB rx
  cases aB ry
  exact ⟨_,_,rfl,rfl,hb,k _ H0 H (aL.refl s) (.int _)⟩
 ·cases e
theorem nI (ha:DE X a fa) (hb:DE X b fb):DE X (.BinOp a .Mult b pos) (Dm.e2 Dm.gS fa fb):=rH A8 A9 ha hb
end
noncomputable def Its (lo k:Int) (n:Nat):It:=⟨fun i _=>i<n,fun i H x H'=>H'=H∧x=.int (lo+(i:Nat)*k),fun i _=>n≤i⟩
theorem rR {P:Program} {w:World} {K:PySem.W.Frag} {tg:Expr} (it:Addr) (lo k:Int) (n:Nat):Turn P w K tg (Its lo k n) [it] it (fun i h=>IsRangeIter h it (lo+(i:Nat)*k) ((n:Int)-(i:Nat)) k) where
 mem:=by simp
 obj:=fun i h st b hb=>by
  have e:b=it:=by simpa using hb
  subst e
  exact ⟨_,st,fun v z=>by
   have z':Data.fields _=Data.cell v:=z
   cases z'⟩
 keep:=fun i h h' st k=>k it (by simp) _ st
 item:=by
  intro X hP hw hK hc i pins s σ H E I hf st hg
  subst hP hw hK
  obtain ⟨f0,f1,f2,f3,f4,f5⟩:=hf it (by simp)
  have W:=Walks.range (prog:=X.prog) (w:=X.w) (I.ok.hd hc) it lo k n
  refine W.item i s _ _ hg st fun v h' tk hv st' kk=>?_
  obtain ⟨t,rfl⟩:=hv
  have I1:Inv X pins σ H { s with heap:=h',toks:=tk }:=I.turned (fun b o hb e=>kk b o (by simpa using hb) e) f0 f1 f3 f4 f5
  exact ⟨_,rfl,oE (s:={ s with heap:=h',toks:=tk }) (n := "range_iterator") st' rfl rfl (by decide) ⟨.int (lo+(i:Nat)*k),H,I1,⟨t,rfl⟩,⟨rfl,rfl⟩,st',fun b hb=>(hf b hb).1⟩⟩
 done:=by
  intro X hP hw hK hc i pins s σ H E I hf st hg
  subst hP hw hK
  obtain ⟨f0,f1,f2,f3,f4,f5⟩:=hf it (by simp)
  exact wpAny_pyNext_range_end (I.ok.hd hc) st (by have:n≤i:=hg;omega) fun h' eb=>⟨rfl,I.turned (t':=s.toks) (fun b o hb e=>eb b o hb e) f0 f1 f3 f4 f5⟩
 self:=fun _ _ _ _ _ st h=>wpAny_pyIter_rangeiter st h
theorem ua {a k:Int} (hk:0<k) (h:0≤a):0≤a / k∧a / k≤a:=⟨Int.ediv_nonneg h (by omega),by
 have:=Int.ediv_mul_le a (b:=k) (by omega)
 have h2:0≤a / k:=Int.ediv_nonneg h (by omega)
 have:(a / k)*1≤(a / k)*k:=Int.mul_le_mul_of_nonneg_left (by omega) h2
 omega⟩
theorem gT (a b k:Int) (hk:0<k):Builtin.Range.rangeSize a b k=(Dm.bW a b k:Nat):=by
 unfold Builtin.Range.rangeSize Dm.bW
 simp only [hk,show (k>0)=True from eq_true hk,if_true]
 by_cases h:a<b
 ·have:=ua hk (show 0≤b-a-1 by omega)
  simp only [h,show (a<b)=True from eq_true h,if_true]
  first | omega | (split<;>omega)
 ·simp only [show (a<b)=False from eq_false h,if_false]
  first | omega | (split<;>omega) | simp
theorem yc {a b k:Int} (hk:0<k) (hk':k≤1000) (ha:-(2 ^ 60)≤a) (ha':a<2 ^ 60) (hb:-(2 ^ 60)≤b) (hb':b<2 ^ 60):Builtin.Range.small a b k=true:=by
 unfold Builtin.Range.small
 rw [gT a b k hk]
 have hs:(Dm.bW a b k:Int)≤2 ^ 61:=by
  unfold Dm.bW
  split
  ·have:=ua hk (show 0≤b-a-1 by omega)
   omega
  ·omega
 simp only [Builtin.Range.rangeFitsLong,Bool.and_eq_true,Bool.or_eq_true,decide_eq_true_eq,beq_iff_eq,show (k>0)=True from eq_true hk,if_true]
 first | omega | (refine ⟨?_,?_⟩<;>omega) | (split<;>omega)
section
variable {X:Cx} {tg:Expr}
noncomputable def CD (ta:TA):TI:=fun σ H R=>ta σ H fun vs H1=>∃ i j k:Int,vs=[.int i,.int j,.int k]∧(0<k∧k≤1000)∧(-(2 ^ 60)≤i∧i<2 ^ 60∧-(2 ^ 60)≤j∧j<2 ^ 60)∧R (Its i k (Dm.bW i j k)) H1
theorem vR {a b c:Expr} {ta:TA} {p pos:Pos} (hg:Gl X "range") (hm:X.mg "range" = none) (ha:PA X [a,b,c] ta) (hs:starEach [a,b,c] X.env=(false,eval a X.env)::starEach [b,c] X.env:=by rfl) (hs2:(backTo pos (starEach [b,c] X.env)).any (·.1)=false:=by rfl) :
  PI X tg (.Call (.Name "range" p) [a,b,c] [] pos) (CD ta):=by
 intro pins s σ H R I h
 refine Call_ (b7 I hg hm boot_range (PyProof.Rows.callWith_type1 (thn (ha pos pins s σ H _ I h) fun us s1 ⟨vs,H1,I1,r1,q1⟩=>?_) hs hs2))
 obtain ⟨i,j,k,e,⟨hk,hk'⟩,⟨q1,q2,q3,q4⟩,q⟩:=q1
 subst e
 cases r1 with
 | cons r rr=>
  cases rr with
  | cons r' rr=>
   cases rr with
   | cons r'' rr=>
   cases rr
   obtain ⟨t,rfl⟩:=r
   obtain ⟨t',rfl⟩:=r'
   obtain ⟨t'',rfl⟩:=r''
   refine call_range_3 (by simp;omega) ?_ (Or.inl (PyProof.noPylong_small (by omega)))
   refine wpAny_pyIter_range (IsRange.new ..) (yc hk hk' q1 q2 q3 q4) ?_
   have I2:Inv X pins σ H1 { s1 with heap:=s1.heap.push { cls:=.type "range",data:=.fields #[.int i t,.int j t',.int k t''] },toks:=s1.toks }:=I1.kept fun b o e=>Heap.get?_push_of_some _ e
   refine ⟨(s1.heap.push { cls:=.type "range",data:=.fields #[.int i t,.int j t',.int k t''] }).objs.size,[(s1.heap.push { cls:=.type "range",data:=.fields #[.int i t,.int j t',.int k t''] }).objs.size],_,_,H1,rfl,
    I2.kept (t':=s1.toks) fun b o e=>Heap.get?_push_of_some _ e,rR _ i k (Dm.bW i j k),?_,fun b hb=>?_,q⟩
   ·have e1:i+((0:Nat):Int)*k=i:=by simp
    have e2:((Dm.bW i j k:Nat):Int)-((0:Nat):Int)=Builtin.Range.rangeSize i j k:=by rw [gT i j k hk];omega
    show IsRangeIter _ _ (i+((0:Nat):Int)*k) (((Dm.bW i j k:Nat):Int)-((0:Nat):Int)) k
    rw [e1,e2]
    exact Heap.get?_push_size _ rfl
   ·have e:b=(s1.heap.push { cls:=.type "range",data:=.fields #[.int i t,.int j t',.int k t''] }).objs.size:=by simpa using hb
    subst e
    exact I2.qZ (Nat.le_refl _) (I2.hok.fresh (Nat.le_refl _))
theorem yd {H0:Hp} {lo k:Int} {n:Nat}:JW (Its lo k n) H0 (Dm.fF lo k n):=by
 intro H0' H s0 s1
 have el:(Dm.fF lo k n).length=n:=by simp [Dm.fF]
 refine ⟨fun i hi=>by rw [el] at hi;exact hi,fun i d e=>?_⟩
 have hlt:i<n:=by have:=(List.getElem?_eq_some_iff.mp e).1;rw [el] at this;exact this
 have hd:d=.int (lo+(i:Nat)*k):=by
  unfold Dm.fF at e
  rw [List.getElem?_map,List.getElem?_range hlt] at e
  exact (Option.some.inj e).symm
 refine ⟨hlt,fun x H' y=>?_⟩
 obtain ⟨rfl,rfl⟩:=y
 subst hd
 exact ⟨H0',aL.refl s1,.int _⟩
theorem HJ {σ:L2.St} {H:Hp} {R:It→Hp→Prop} {f g c:Dm.FE} (h:tDI (Dm.iRs f g c) σ H R):CD (tDA [f,g,c]) σ H R:=by
 obtain ⟨H0,ρ,ys,ρ',st,e,k⟩:=h
 unfold Dm.iRs at e
 split at e
 ·rename_i i ρ1 e1
  split at e
  ·rename_i j ρ2 e2
   split at e
   ·rename_i l ρ3 e3
    split at e
    ·rename_i hb
     cases e
     refine ⟨H0,ρ,[.val (.int i),.val (.int j),.val (.int l)],_,st,by simp only [Dm.eAs,e1,e2,e3];rfl,fun vs H0' H' t r=>?_⟩
     cases r with
     | cons r rr=>
      cases rr with
      | cons r' rr=>
       cases rr with
       | cons r'' rr=>
        cases rr
        cases Rep.isInt r
        cases Rep.isInt r'
        cases Rep.isInt r''
        obtain ⟨h0,h1,h2,h3,h4⟩:=hb
        unfold Dm.BIG at h1 h2 h3 h4
        exact ⟨i,j,l,rfl,h0,⟨by omega,by omega,by omega,by omega⟩,k _ H0' H' t yd⟩
    ·cases e
   ·cases e
  ·cases e
 ·cases e
theorem JS {a b c:Expr} {fa fb fc:Dm.FE} {p pos:Pos} (hg:Gl X "range") (hm:X.mg "range" = none) (ha:DA X [a,b,c] [fa,fb,fc]) (hs:starEach [a,b,c] X.env=(false,eval a X.env)::starEach [b,c] X.env:=by rfl) (hs2:(backTo pos (starEach [b,c] X.env)).any (·.1)=false:=by rfl) :
  DI X tg (.Call (.Name "range" p) [a,b,c] [] pos) (Dm.iRs fa fb fc):=PI.weak (vR hg hm ha hs hs2) fun _ _ _=>HJ
end
theorem mC {Hs H0 H:Hp} {σ:L2.St} {ρ:Dm.Env}:∀ {xs:List Dm.Val} {vs:List V} {ds:List Dm.Dat},cC Hs H0 H σ ρ vs xs→Dm.iB xs=some ds→aF H0 vs ds
 | [],_,_,.nil,e=>by cases e;exact .nil
 | .val d::xs,_,ds,.cons h r,e=>by
  unfold Dm.iB at e
  cases q:Dm.iB xs with
  | none=>rw [q] at e;cases e
  | some es=>rw [q] at e;cases e;exact .cons h (mC r q)
 | .new _::_,_,_,_,e=>by cases e
 | .slot _::_,_,_,_,e=>by cases e
theorem A_ {σ:L2.St} {H:Hp} {Q:VK} {f:List Dm.Dat→Option (Dm.RV×Dm.Dat)} {f0:Dm.FE} {fs:List Dm.FE} {E:XK} (h:tD (Dm.eFn f f0 fs) σ H Q):tO (spM f) [] E (tDA (f0::fs)) σ H Q:=by
 obtain ⟨H0,ρ,x,ρ',st,e,k⟩:=h
 unfold Dm.eFn at e
 split at e
 case h_2=>cases e
 rename_i d xs ρ1 e1
 split at e
 ·cases e
 rename_i ds e2
 split at e
 ·cases e
 rename_i z d' fz
 cases e
 refine ⟨H0,ρ,_,_,st,e1,fun vs H1 Hb t1 r1=>?_⟩
 dsimp only
 rw [List.append_nil]
 cases r1 with
 | cons r0 rr=>
  obtain ⟨a,rfl,n,no,n0,w⟩:=r0
  obtain ⟨oa,ha⟩:=w.some
  refine ⟨H1,a,_,d,ds,z,d',rfl,t1.st.same,n0,w,mC rr e2,fz,fun v H3 Hd s3 ss n3 w3 r3=>?_⟩
  have st3:az H3 Hd σ ρ':=t1.st.off s3.s0 ss no (fun b o y nb=>s3.s1 b o y nb) fun i d4 b y1 y2=>by
   obtain ⟨b',q',nb',w'⟩:=t1.st.ow i d4 y1
   rw [y2] at q'
   cases q'
   cases y:H3 b with
   | none=>rfl
   | some o=>
    obtain ⟨o',z'⟩:=w'.some
    rcases s3.s2 b o y with y3 | y3 | y3
    ·rw [y3] at z';cases z'
    ·rw [nb'] at y3;cases y3
    ·exact absurd ⟨i,d4,y1,y3▸y2⟩ no
  exact k v H3 Hd ⟨st3,t1.stp.trans s3 fun b y=>.inr (by rw [y];exact n),t1.own,t1.dfn⟩ ((r3.toV t1.st).early fun b y=>t1.stp.gone y)
theorem Ba {X:Cx} {e0:Expr} {es:List Expr} {p pos:Pos} {k:Nat} {F:Addr} {fd:FuncData} {ps:List Str} {g:List Dm.Dat→Option (Dm.RV×Dm.Dat)} {x:Str} {f0:Dm.FE} {fs:List Dm.FE} (G:aR X.prog X.w X.K X.mg X.base CX0 k F fd ps (spM g)) (hr:bE k X.A) (hg:Gl X x) (hm:X.mg x=some (.ref F)) (hk:PySem.W.keepIn X.K (.ref F)=true) (hb:Binds X.K fd ps [])
  (ha:DA X (e0::es) (f0::fs)) (hdb:(x == ("__debug__" : Str))=false:=by decide) (he:starEach (e0::es) X.env=(false,eval e0 X.env)::starEach es X.env:=by rfl) (hpl:(backTo pos (starEach es X.env)).any (·.1)=false:=by rfl) :
  DE X (.Call (.Name x p) (e0::es) [] pos) (Dm.eFn g f0 fs):=PE.weak (m5 G hr hg hm hk hb .nil (xg (X:=X)) ha hdb he hpl) fun _ _ _=>A_
open PySem
variable {C:List Value→Prop} {us:List Value}
theorem len0 (h:us.length=0) (c:C []):C us:=by rw [List.eq_nil_of_length_eq_zero h];exact c
theorem rS {n:Nat} {C:List Value→Prop} {us:List Value} (h:us.length=n+1) (c:∀ a us,us.length=n→C (a::us)):C us:=by
 cases us with
 | nil=>cases h
 | cons a us=>exact c a us (by simpa using h)
theorem HK (h:us.length=1) (c:∀ a,C [a]):C us:=rS h fun a _ h=>len0 h (C:=fun us=>C (a::us)) (c a)
theorem xY (h:us.length=2) (c:∀ a b,C [a,b]):C us:=rS h fun a _ h=>HK h (C:=fun us=>C (a::us)) (c a)
theorem HL (h:us.length=3) (c:∀ a b d,C [a,b,d]):C us:=rS h fun a _ h=>xY h (C:=fun us=>C (a::us)) (c a)
theorem JT (h:us.length=4) (c:∀ a b d e,C [a,b,d,e]):C us:=rS h fun a _ h=>HL h (C:=fun us=>C (a::us)) (c a)
theorem JU (h:us.length=5) (c:∀ a b d e f,C [a,b,d,e,f]):C us:=rS h fun a _ h=>JT h (C:=fun us=>C (a::us)) (c a)
theorem JV (h:us.length=6) (c:∀ a b d e f g,C [a,b,d,e,f,g]):C us:=rS h fun a _ h=>JU h (C:=fun us=>C (a::us)) (c a)
theorem JX (h:us.length=7) (c:∀ a b d e f g i,C [a,b,d,e,f,g,i]):C us:=rS h fun a _ h=>JV h (C:=fun us=>C (a::us)) (c a)
end Br
namespace L2
open PySem
variable {K:PySem.W.Frag} {x qual:Str} {st:Stmt} {f:Addr} {fd:FuncData} {ps:List Str}
theorem Fun.cE (F:Fun K x qual st f fd) (hp:ps.length=1) (h:∀ (kV doc pm:Value) (an:Option Addr) (cdv ct:Value) (a:Value),bindArgs (PySem.W.fnOf x qual (bw st) (aZ st) (ah st) .none kV doc pm an cdv ct) ⟨[a],[]⟩=pure (ps.zip [a])):Binds K fd ps []:=
 F.binds fun kV doc pm an cdv ct us hl=>Br.HK (C:=fun us=>bindArgs (PySem.W.fnOf x qual (bw st) (aZ st) (ah st) .none kV doc pm an cdv ct) ⟨us,[]⟩=pure (ps.zip us)) (hl.trans hp) (h kV doc pm an cdv ct)
theorem Fun.bK (F:Fun K x qual st f fd) (hp:ps.length=2) (h:∀ (kV doc pm:Value) (an:Option Addr) (cdv ct:Value) (a b:Value),bindArgs (PySem.W.fnOf x qual (bw st) (aZ st) (ah st) .none kV doc pm an cdv ct) ⟨[a,b],[]⟩=pure (ps.zip [a,b])):Binds K fd ps []:=
 F.binds fun kV doc pm an cdv ct us hl=>Br.xY (C:=fun us=>bindArgs (PySem.W.fnOf x qual (bw st) (aZ st) (ah st) .none kV doc pm an cdv ct) ⟨us,[]⟩=pure (ps.zip us)) (hl.trans hp) (h kV doc pm an cdv ct)
theorem Fun.b_ (F:Fun K x qual st f fd) (hp:ps.length=3) (h:∀ (kV doc pm:Value) (an:Option Addr) (cdv ct:Value) (a b d:Value),bindArgs (PySem.W.fnOf x qual (bw st) (aZ st) (ah st) .none kV doc pm an cdv ct) ⟨[a,b,d],[]⟩=pure (ps.zip [a,b,d])):Binds K fd ps []:=
 F.binds fun kV doc pm an cdv ct us hl=>Br.HL (C:=fun us=>bindArgs (PySem.W.fnOf x qual (bw st) (aZ st) (ah st) .none kV doc pm an cdv ct) ⟨us,[]⟩=pure (ps.zip us)) (hl.trans hp) (h kV doc pm an cdv ct)
theorem Fun.EL (F:Fun K x qual st f fd) (hp:ps.length=7) (h:∀ (kV doc pm:Value) (an:Option Addr) (cdv ct:Value) (a b d e g i j:Value),bindArgs (PySem.W.fnOf x qual (bw st) (aZ st) (ah st) .none kV doc pm an cdv ct) ⟨[a,b,d,e,g,i,j],[]⟩=pure (ps.zip [a,b,d,e,g,i,j])):Binds K fd ps []:=
 F.binds fun kV doc pm an cdv ct us hl=>Br.JX (C:=fun us=>bindArgs (PySem.W.fnOf x qual (bw st) (aZ st) (ah st) .none kV doc pm an cdv ct) ⟨us,[]⟩=pure (ps.zip us)) (hl.trans hp) (h kV doc pm an cdv ct)
end L2
namespace Dm
end Dm
namespace Br
open PySem L2
section
variable {X:Cx} {e:Expr} {es:List Expr} {fs:List Dm.FE} {p pos:Pos}
end
end Br
namespace Dm
end Dm
namespace Br
open PySem PySem.Spec PyProof.Rows L2
section
variable {X:Cx} {e:Expr} {es:List Expr} {fs:List Dm.FE} {p pos:Pos}
end
section
variable {X:Cx} {e1 e2 e3:Expr} {f1 f2 f3:Dm.FE} {p pos kpos:Pos}
end
end Br
namespace Dm
end Dm
namespace Br
open PySem PySem.Spec PyProof.Rows L2
open Classical in
section
variable {X:Cx} {e:Expr} {es:List Expr} {fs:List Dm.FE} {p pos:Pos}
end
end Br
namespace Dm
end Dm
namespace Br
open PySem PySem.Spec PyProof.Rows L2
section
variable {X:Cx}
end
section
variable {X:Cx} {e:Expr} {fs:List Dm.FE} {p pos:Pos}
end
end Br
namespace Dm
end Dm
namespace Br
open PySem PySem.Spec PyProof.Rows L2
section
variable {X:Cx} {l a b:Expr} {tl:TE} {ta:TA} {fa fb:Dm.FE} {p pos p0 iw:Pos}
end
end Br
namespace Dm
end Dm
namespace Br
open PySem PySem.Spec PyProof.Rows L2
section
variable {prog:Program} {w:World} {A:Around} {E:Value→Shared→Prop} {s:Shared}
end
section
variable {prog:Program} {w:World} {A:Around} {s:Shared}
end
section
variable {X:Cx}
end
section
variable {X:Cx} {e:Expr} {fs:List Dm.FE} {p pos:Pos} {k:Nat}
end
end Br
namespace Dm
end Dm
namespace Br
open PySem PySem.Spec PyProof.Rows L2
section
variable {X:Cx} {tg c e:Expr} {bd:Dm.FB} {is:List Nat} {t:Dm.FT} {f:Dm.FE} {x:Str} {px rp ip pos:Pos}
end
end Br
namespace Dm
end Dm
namespace Br
open PySem PySem.Spec PyProof.Rows L2
section
variable {X:Cx}
end
section
variable {X:Cx} {e:Expr} {fs:List Dm.FE} {p pos:Pos}
end
end Br
namespace Dm
end Dm
namespace Br
open PySem PySem.Spec PyProof.Rows L2
section
variable {X:Cx} {a b c:Expr} {fa fb fc:Dm.FE} {apos cpos:Pos} {k:Nat}
end
end Br
namespace Dk
open PySem PyProof.Rows
open Sem (wp)
section
variable {prog:Program} {w:World} {A:Around} {E:Value→Shared→Prop} {s:Shared}
end
section
variable {prog:Program} {w:World} {K:Type} [DecidableEq K] {knd:PySem.KeyKind prog w K} {A:Around} {E:Value→Shared→Prop} {s:Shared}
end
end Dk
namespace Dm
end Dm
namespace Br
open PySem PySem.Spec PyProof.Rows L2
section
variable {X:Cx} {e:Expr} {fs:List Dm.FE} {p pos:Pos}
end
end Br
namespace Dm
end Dm
namespace Br
open PySem PySem.Spec PyProof.Rows L2
section
variable {N N':Addr→Prop} {H0 H H0' H':Hp}
end
section
variable {σ:L2.St} {H:Hp} {Q:VK}
end
section
variable {X:Cx} {e:Expr} {es:List Expr} {f:Dm.FE} {pos:Pos}
end
section
variable {D:Ends} {σ:L2.St} {H:Hp}
end
section
variable {X:Cx} {e:Expr} {st:Stmt} {rest:List Stmt} {fs:Dm.FS} {pos:Pos}
end
section
variable {j:Nat} {σs:L2.St} {ρs:Dm.Env} {H0s Hs:Hp} {σ:L2.St} {ρ ρ':Dm.Env} {H0 H H0' H':Hp}
end
section
variable {D:Ends} {σ:L2.St} {H:Hp} {j:Nat}
end
section
variable {X:Cx} {e c:Expr} {rest:List Stmt} {fs gs:Dm.FS} {pos:Pos} {j:Nat}
end
end Br
namespace Dm
end Dm
namespace Br
open PySem PySem.Spec PyProof.Rows L2
section
variable {X:Cx} {e elt iter tg:Expr} {es:List Expr} {fs:List Dm.FE} {fi:Dm.FI} {bd:Dm.FB} {is:List Nat} {scope:Scope} {pos p:Pos}
end
section
variable {j:Nat} {σs:L2.St} {ρs:Dm.Env} {H0s Hs:Hp} {σ:L2.St} {ρ ρ':Dm.Env} {H0 H H0' H':Hp}
end
section
variable {D:Ends} {σ:L2.St} {H:Hp} {j:Nat}
end
section
variable {X:Cx} {st:Stmt} {rest:List Stmt} {e c:Expr} {f:Dm.FE} {pos:Pos} {j:Nat}
end
end Br
namespace Dm
end Dm
namespace Br
open PySem PySem.Spec PyProof.Rows L2
section
variable {σ:L2.St} {H:Hp} {Q:VK}
end
section
variable {D:Ends} {σ:L2.St} {H:Hp} {j:Nat}
end
section
variable {D:Ends} {σ:L2.St} {H:Hp} {j:Nat}
end
section
variable {X:Cx} {e c:Expr} {es:List Expr} {rest:List Stmt} {fs:List Dm.FE} {f:Dm.FE} {pos p:Pos} {j:Nat}
end
section
variable {X:Cx} {e:Expr} {es:List Expr} {fs:List Dm.FE} {pos p:Pos}
end
end Br
namespace Sx
open PySem PySem.SetTable
theorem nJ (xs:Array Nat) (j:Nat) (hs:xs.toList.Pairwise (· < ·)):∀ (f lo hi:Nat),hi≤xs.size→hi-lo≤f→lo≤hi→(∀ i,i<lo→∀ v,xs[i]?=some v→v<j)→(∀ i,hi≤i→∀ v,xs[i]?=some v→j≤v) →
  (∀ i,i<below.go xs j f lo hi→∀ v,xs[i]?=some v→v<j)∧(∀ i,below.go xs j f lo hi≤i→∀ v,xs[i]?=some v→j≤v)∧below.go xs j f lo hi≤xs.size
 | 0,lo,hi,h1,h2,h3,a,b=>by
  unfold below.go
  have:lo=hi:=by omega
  subst this
  exact ⟨a,b,h1⟩
 | f+1,lo,hi,h1,h2,h3,a,b=>by
  unfold below.go
  have mono:∀ i k v w,i≤k→xs[i]?=some v→xs[k]?=some w→v≤w:=fun i k v w hik e1 e2=>by
   rcases Nat.eq_or_lt_of_le hik with z | z
   ·subst z;rw [e1] at e2;cases e2;exact Nat.le_refl _
   ·obtain ⟨q1,q2⟩:=Array.getElem?_eq_some_iff.mp e1
    obtain ⟨q3,q4⟩:=Array.getElem?_eq_some_iff.mp e2
    have:=List.pairwise_iff_getElem.mp hs i k (by simpa using q1) (by simpa using q3) z
    simp only [Array.getElem_toList] at this
    omega
  split
  ·rename_i hlt
   have hm:(lo+hi) / 2<xs.size:=by omega
   dsimp only
   rw [Array.getD_eq_getD_getElem?,Array.getElem?_eq_getElem hm,Option.getD_some]
   split
   ·rename_i hv
    refine nJ xs j hs f _ hi h1 (by omega) (by omega) (fun i hi' v e=>?_) b
    have:=mono i ((lo+hi) / 2) v _ (by omega) e (Array.getElem?_eq_getElem hm)
    omega
   ·rename_i hv
    refine nJ xs j hs f lo _ (by omega) (by omega) (by omega) a fun i hi' v e=>?_
    have:=mono ((lo+hi) / 2) i _ v hi' (Array.getElem?_eq_getElem hm) e
    omega
  ·have:lo=hi:=by omega
   subst this
   exact ⟨a,b,h1⟩
theorem cF {xs:Array Nat} (j:Nat) (hs:xs.toList.Pairwise (· < ·)):(∀ i,i<below xs j→∀ v,xs[i]?=some v→v<j)∧(∀ i,below xs j≤i→∀ v,xs[i]?=some v→j≤v)∧below xs j≤xs.size:=
 nJ xs j hs xs.size 0 xs.size (Nat.le_refl _) (by omega) (Nat.zero_le _) (fun i h=>by omega) fun i h v e=>by rw [Array.getElem?_eq_none h] at e;cases e
theorem iC {xs:Array Nat} {j:Nat} (hs:xs.toList.Pairwise (· < ·)):xs[below xs j]?=some j↔j∈xs.toList:=by
 obtain ⟨a,b,c⟩:=cF j hs
 constructor
 ·intro h
  obtain ⟨q1,q2⟩:=Array.getElem?_eq_some_iff.mp h
  rw [← q2]
  exact Array.getElem_mem_toList q1
 ·intro h
  obtain ⟨i,hi,e⟩:=List.getElem_of_mem h
  have hi':i<xs.size:=by simpa using hi
  have e':xs[i]?=some j:=by rw [Array.getElem?_eq_getElem hi'];simpa using e
  have h1:below xs j≤i:=Nat.not_lt.mp fun z=>by have:=a i z j e';omega
  have hb:below xs j<xs.size:=by omega
  have h2:=b (below xs j) (Nat.le_refl _) _ (Array.getElem?_eq_getElem hb)
  rcases Nat.eq_or_lt_of_le h1 with z | z
  ·rw [z];exact e'
  ·have:=List.pairwise_iff_getElem.mp hs (below xs j) i (by simpa using hb) hi z
   simp only [Array.getElem_toList] at this
   have e2:xs[i]=j:=by simpa using e
   omega
theorem bZ {α:Type} (xs:Array α) (p:Nat) (x:α):(insertAt xs p x).toList=xs.toList.take p++x::xs.toList.drop p:=by
 unfold insertAt
 simp [Array.toList_append,Array.toList_push,Array.toList_extract,List.take_of_length_le]
theorem lO {xs:Array Nat} {j:Nat} (hs:xs.toList.Pairwise (· < ·)) (hj:j∉xs.toList):(insertAt xs (below xs j) j).toList.Pairwise (· < ·):=by
 obtain ⟨a,b,c⟩:=cF j hs
 rw [bZ]
 have l1:∀ v∈xs.toList.take (below xs j),v<j:=fun v hv=>by
  obtain ⟨i,hi,e⟩:=List.getElem_of_mem hv
  rw [List.length_take] at hi
  rw [List.getElem_take] at e
  refine a i (by omega) v ?_
  rw [Array.getElem?_eq_getElem (by rw [Array.length_toList] at hi;omega)]
  simpa using e
 have l2:∀ v∈xs.toList.drop (below xs j),j<v:=fun v hv=>by
  have hm:=List.mem_of_mem_drop hv
  obtain ⟨i,hi,e⟩:=List.getElem_of_mem hv
  rw [List.length_drop,Array.length_toList] at hi
  rw [List.getElem_drop] at e
  have:=b (below xs j+i) (by omega) v (by rw [Array.getElem?_eq_getElem (by omega)];simpa using e)
  rcases Nat.eq_or_lt_of_le this with z | z
  ·exact absurd (z▸hm) hj
  ·exact z
 rw [List.pairwise_append]
 refine ⟨hs.sublist (List.take_sublist _ _),?_,fun u hu v hv=>?_⟩
 ·rw [List.pairwise_cons]
  exact ⟨l2,hs.sublist (List.drop_sublist _ _)⟩
 ·rcases List.mem_cons.mp hv with rfl | hv
  ·exact l1 u hu
  ·exact Nat.lt_trans (l1 u hu) (l2 v hv)
noncomputable def lp (mask:Nat):Nat→Nat×Nat→Nat×Nat
 | 0,q=>q
 | m+1,q=>lp mask m (leap mask q.1 q.2)
noncomputable def lc (mask:Nat):Nat→Nat→Nat
 | 0,i=>i
 | m+1,i=>lc mask m ((i*5+1) % (mask+1))
theorem uc (mask:Nat):∀ m i,lp mask m (i,0)=(lc mask m i,0)
 | 0,_=>rfl
 | m+1,i=>by
  unfold lp lc leap
  simp only [Nat.zero_div,Nat.add_zero]
  exact uc mask m _
theorem ye (mask:Nat):∀ a b q,lp mask (a+b) q=lp mask b (lp mask a q)
 | 0,b,q=>by rw [Nat.zero_add];rfl
 | a+1,b,q=>by
  rw [Nat.add_right_comm]
  show lp mask (a+b) (leap mask q.1 q.2)=lp mask b (lp mask a (leap mask q.1 q.2))
  exact ye mask a b _
theorem yf (mask:Nat):∀ m q,(lp mask m q).2=q.2 / 32 ^ m
 | 0,q=>by simp [lp]
 | m+1,q=>by
  show (lp mask m (leap mask q.1 q.2)).2=_
  rw [yf mask m]
  unfold leap
  dsimp only
  rw [Nat.div_div_eq_div_mul,Nat.pow_succ,Nat.mul_comm]
theorem pA (mask:Nat):∀ m q,q.1≤mask→(lp mask m q).1≤mask
 | 0,_,h=>h
 | m+1,q,h=>pA mask m _ (by unfold leap;exact Nat.le_of_lt_succ (Nat.mod_lt _ (Nat.succ_pos mask)))
noncomputable def Cov (mask:Nat):Prop:=∀ i,i≤mask→∀ j,j≤mask→∃ m,m≤mask∧lc mask m i=j
noncomputable def HM (mask:Nat):Bool:=(List.range (mask+1)).all fun i=>(List.range (mask+1)).all fun j=>(List.range (mask+1)).any fun m=>lc mask m i == j
theorem yg {mask:Nat} (h:HM mask=true):Cov mask:=fun i hi j hj=>by
 unfold HM at h
 have h1:=List.all_eq_true.mp h i (List.mem_range.mpr (by omega))
 have h2:=List.all_eq_true.mp h1 j (List.mem_range.mpr (by omega))
 obtain ⟨m,hm,e⟩:=List.any_eq_true.mp h2
 have:=List.mem_range.mp hm
 exact ⟨m,by omega,by simpa using e⟩
theorem JY:Cov 7:=yg (by decide +kernel)
theorem HN:Cov 31:=yg (by decide +kernel)
noncomputable def orb (mask:Nat):Nat→Nat→List Nat
 | 0,_=>[]
 | m+1,i=>i::orb mask m ((i*5+1) % (mask+1))
theorem yh (mask:Nat):∀ (n i m:Nat),m<n→(orb mask n i)[m]?=some (lc mask m i)
 | 0,i,m,h=>by omega
 | n+1,i,0,h=>rfl
 | n+1,i,m+1,h=>by
  show (orb mask n ((i*5+1) % (mask+1)))[m]?=_
  rw [yh mask n _ m (by omega)]
  rfl
theorem nK (mask:Nat):∀ (n i:Nat),(orb mask n i).length=n
 | 0,_=>rfl
 | n+1,i=>by show (orb mask n _).length+1=_;rw [nK mask n]
theorem nM (mask:Nat):∀ a b i,lc mask (a+b) i=lc mask b (lc mask a i)
 | 0,b,i=>by rw [Nat.zero_add];rfl
 | a+1,b,i=>by
  rw [Nat.add_right_comm]
  show lc mask (a+b) _=lc mask b (lc mask a _)
  exact nM mask a b _
theorem yi {mask:Nat} (h1:((List.range (mask+1)).all fun j=>(orb mask (mask+1) 0).elem j)=true) (h2:lc mask (mask+1) 0=0):Cov mask:=fun i hi j hj=>by
 have look:∀ x,x≤mask→∃ m,m≤mask∧lc mask m 0=x:=fun x hx=>by
  have:=List.all_eq_true.mp h1 x (List.mem_range.mpr (by omega))
  have:=List.elem_iff.mp this
  obtain ⟨m,hm,e⟩:=List.getElem_of_mem this
  rw [nK] at hm
  have e2:=yh mask (mask+1) 0 m hm
  rw [List.getElem?_eq_getElem (by rw [nK];exact hm),e] at e2
  cases e2
  exact ⟨m,by omega,rfl⟩
 obtain ⟨a,ha,ea⟩:=look i hi
 obtain ⟨b,hb,eb⟩:=look j hj
 by_cases h:a≤b
 ·exact ⟨b-a,by omega,by rw [← ea,← nM,show a+(b-a)=b by omega];exact eb⟩
 ·exact ⟨mask+1+b-a,by omega,by rw [← ea,← nM,show a+(mask+1+b-a)=mask+1+b by omega,nM,h2];exact eb⟩
theorem EM:Cov 127:=yi (by decide +kernel) (by decide +kernel)
theorem ud (h:Int):bits h<2 ^ 64:=by
 unfold bits
 have h1:(0:Int)≤h % 2 ^ 64:=Int.emod_nonneg _ (by decide)
 have h2:h % 2 ^ 64<2 ^ 64:=Int.emod_lt_of_pos _ (by decide)
 omega
theorem hit {mask:Nat} (c:Cov mask) {i p:Nat} (hi:i≤mask) (hp:p<2 ^ 64) {j:Nat} (hj:j≤mask):∃ m,m<mask+14∧(lp mask m (i,p)).1=j:=by
 have z:(lp mask 13 (i,p)).2=0:=by
  rw [yf]
  exact Nat.div_eq_of_lt (Nat.lt_of_lt_of_le hp (by decide))
 have hl:=pA mask 13 (i,p) hi
 obtain ⟨m,hm,e⟩:=c _ hl j hj
 refine ⟨13+m,by omega,?_⟩
 rw [ye,show lp mask 13 (i,p)=((lp mask 13 (i,p)).1,0) from Prod.ext rfl z,uc]
 exact e
theorem sub_len {l m:List Nat} (hl:l.Nodup) (h:∀ x∈l,x∈m):l.length≤m.length:=by
 induction l generalizing m with
 | nil=>exact Nat.zero_le _
 | cons x l ih=>
  obtain ⟨n1,n2⟩:=List.nodup_cons.mp hl
  have hx:x∈m:=h x List.mem_cons_self
  have:=ih (m:=m.erase x) n2 fun y hy=>by
   rw [List.mem_erase_of_ne (fun z:y=x=>n1 (z▸hy))]
   exact h y (List.mem_cons_of_mem _ hy)
  rw [List.length_erase_of_mem hx] at this
  have:=List.length_pos_of_mem hx
  simp only [List.length_cons]
  omega
theorem room {mask:Nat} {l:List Nat} (h:l.length≤mask):∃ j,j≤mask∧j∉l:=by
 refine Classical.byContradiction fun z=>?_
 have:=sub_len (l:=List.range (mask+1)) (m:=l) List.nodup_range fun x hx=>Classical.byContradiction fun q=>z ⟨x,by have:=List.mem_range.mp hx;omega,q⟩
 rw [List.length_range] at this
 omega
theorem ue (j:Nat):has #[] j=false:=by
 unfold has
 simp
structure Good (t:SetTable) (n:Nat):Prop where
 dm:t.dummies=#[]
 pl:t.plain=true
 cv:Cov t.mask
 ris:t.place.toList.Pairwise (· < ·)
 le:∀ j∈t.place.toList,j≤t.mask
 sz:t.place.size=n
theorem Good.slot {t:SetTable} {n:Nat} (g:Good t n) (j:Nat):(j∉t.place.toList∧t.slot j=.empty)∨(j∈t.place.toList∧∃ i,t.slot j=.live i):=by
 unfold SetTable.slot
 by_cases h:j∈t.place.toList
 ·right
  refine ⟨h,below t.place j,?_⟩
  dsimp only
  rw [if_pos (by rw [(iC g.ris).mpr h];exact beq_self_eq_true _)]
 ·left
  refine ⟨h,?_⟩
  dsimp only
  rw [if_neg (by
   intro z
   exact h ((iC g.ris).mp (by simpa using z))),if_neg (by
   rw [g.dm,ue]
   exact Bool.false_ne_true)]
noncomputable def mD (mask i p:Nat):Probe:={ j:=i,more:=runEnd mask i-i,i:=i,perturb:=p,dummy:=none }
theorem uf {t:SetTable} {h:Int} {f k:Nat} {p:Probe} (q:t.slot p.j=.live k):probe.go t (fun _=>h+1) h (f+1) p=probe.go t (fun _=>h+1) h f (t.advance p):=by
 have nh:(h+1 == h)=false:=by
  rw [beq_eq_false_iff_ne]
  omega
 conv=>lhs;unfold probe.go
 rw [q]
 dsimp only
 rw [nh]
 rfl
theorem yj {t:SetTable} {h:Int} {f:Nat} {p:Probe} (q:t.slot p.j=.empty):probe.go t (fun _=>h+1) h (f+1) p=some (.empty p.j p.dummy):=by
 conv=>lhs;unfold probe.go
 rw [q]
theorem nE {t:SetTable} {n:Nat} (g:Good t n) {h:Int} {i p:Nat}:∀ (d f j:Nat),j+d≤t.mask→d<f → 
  (∃ j',probe.go t (fun _=>h+1) h f { j:=j,more:=d,i:=i,perturb:=p,dummy:=none }=some (.empty j' none)∧j'≤t.mask∧j'∉t.place.toList) ∨
  (probe.go t (fun _=>h+1) h f { j:=j,more:=d,i:=i,perturb:=p,dummy:=none }=probe.go t (fun _=>h+1) h (f-(d+1)) (mD t.mask (leap t.mask i p).1 (leap t.mask i p).2)∧j∈t.place.toList)
 | d,0,j,h1,h2=>by omega
 | d,f+1,j,h1,h2=>by
  rcases g.slot j with ⟨q1,q2⟩ | ⟨q1,k,q2⟩
  ·exact .inl ⟨j,yj (p:={ j:=j,more:=d,i:=i,perturb:=p,dummy:=none }) q2,by omega,q1⟩
  ·rw [uf (p:={ j:=j,more:=d,i:=i,perturb:=p,dummy:=none }) q2]
   cases d with
   | zero=>exact .inr ⟨rfl,q1⟩
   | succ d=>
    have ea:t.advance { j:=j,more:=d+1,i:=i,perturb:=p,dummy:=none }={ j:=j+1,more:=d,i:=i,perturb:=p,dummy:=none }:=rfl
    rw [ea]
    rcases nE g (h:=h) (i:=i) (p:=p) d f (j+1) (by omega) (by omega) with z | ⟨z,_⟩
    ·exact .inl z
    ·refine .inr ⟨?_,q1⟩
     rw [z,show f-(d+1)=f+1-(d+1+1) by omega]
theorem pB {t:SetTable} {n:Nat} (g:Good t n) {h:Int}:∀ (k f i p:Nat),i≤t.mask→10*k≤f→(∃ m,m<k∧(lp t.mask m (i,p)).1∉t.place.toList) → 
  ∃ j',probe.go t (fun _=>h+1) h f (mD t.mask i p)=some (.empty j' none)∧j'≤t.mask∧j'∉t.place.toList
 | 0,f,i,p,_,_,⟨m,hm,_⟩=>by omega
 | k+1,f,i,p,hi,hf,⟨m,hm,e⟩=>by
  have hr:runEnd t.mask i-i≤9∧i+(runEnd t.mask i-i)≤t.mask:=by
   unfold runEnd
   split<;>omega
  rcases nE g (h:=h) (i:=i) (p:=p) (runEnd t.mask i-i) f i hr.2 (by omega) with z | ⟨z,q⟩
  ·exact z
  ·have hm0:m≠0:=fun y=>by subst y;exact e q
   obtain ⟨m',rfl⟩:∃ m',m=m'+1:=⟨m-1,by omega⟩
   obtain ⟨j',a,b,c⟩:=pB g (h:=h) k (f-(runEnd t.mask i-i+1)) (leap t.mask i p).1 (leap t.mask i p).2 (pA t.mask 1 (i,p) hi) (by omega) ⟨m',by omega,e⟩
   exact ⟨j',z.trans a,b,c⟩
theorem rT {t:SetTable} {n:Nat} (g:Good t n) {j:Nat} (h1:j≤t.mask) (h2:j∉t.place.toList):Good (t.put j).1 (n+1)∧(t.put j).1.mask=t.mask∧(t.put j).1.led=t.led:=by
 have hl:(insertAt t.place (below t.place j) j).toList=_:=bZ _ _ _
 refine ⟨⟨?_,g.pl,g.cv,lO g.ris h2,fun i hi=>?_,?_⟩,rfl,rfl⟩
 ·unfold SetTable.put
  dsimp only
  rw [g.dm]
  rw [ue]
  rfl
 ·have hi:i∈(insertAt t.place (below t.place j) j).toList:=hi
  rw [hl] at hi
  rcases List.mem_append.mp hi with hi | hi
  ·exact g.le i (List.mem_of_mem_take hi)
  ·rcases List.mem_cons.mp hi with rfl | hi
   ·exact h1
   ·exact g.le i (List.mem_of_mem_drop hi)
 ·show (insertAt t.place (below t.place j) j).size=n+1
  rw [← Array.length_toList,hl,List.length_append,List.length_cons,List.length_take,List.length_drop]
  have:=(cF j g.ris).2.2
  have:=g.sz
  rw [Array.length_toList]
  omega
theorem Good.fits {t:SetTable} {n:Nat} (g:Good t n) (hn:n≤t.mask):t.fits n=true:=by
 unfold SetTable.fits SetTable.fill
 rw [g.dm,g.sz]
 simp
 exact hn
theorem ez {α β:Type} {f g:α→Option β}:∀ {l:List α},(∀ x∈l,f x=g x)→l.filterMap f=l.filterMap g
 | [],_=>rfl
 | x::l,h=>by rw [List.filterMap_cons,List.filterMap_cons,h x List.mem_cons_self,ez fun y hy=>h y (List.mem_cons_of_mem _ hy)]
theorem yk (f:Nat→Option Nat) (j0 k:Nat):∀ (l:List Nat),l.Nodup→j0∈l→f j0=none→(l.filterMap (fun j=>if j=j0 then some k else f j)).Perm (k::l.filterMap f)
 | [],_,h,_=>by cases h
 | x::r,nd,h,h0=>by
  obtain ⟨n1,n2⟩:=List.nodup_cons.mp nd
  by_cases e:x=j0
  ·subst e
   have er:r.filterMap (fun j=>if j=x then some k else f j)=r.filterMap f:=ez fun y hy=>by rw [if_neg fun z:y=x=>n1 (z▸hy)]
   rw [List.filterMap_cons,if_pos rfl,List.filterMap_cons,h0,er]
  ·have hr:j0∈r:=(List.mem_cons.mp h).resolve_left fun z=>e z.symm
   have ih:=yk f j0 k r n2 hr h0
   rw [List.filterMap_cons,if_neg e,List.filterMap_cons]
   cases f x with
   | none=>exact ih
   | some v=>exact (ih.cons v).trans (.swap _ _ _)
noncomputable def ow (owner:Array (Option Nat)) (j:Nat):Option Nat:=owner.getD j none
noncomputable def lay (mask:Nat) (owner:Array (Option Nat)):List Nat:=(List.range (mask+1)).filterMap (ow owner)
theorem uh {mask:Nat} {owner:Array (Option Nat)} (hs:owner.size=mask+1):∀ (fuel i p:Nat),i≤mask→(∃ m,m<fuel∧owner[(lp mask m (i,p)).1]?=some none)→∃ j,layClean.free mask owner fuel i p=some j∧j≤mask∧owner[j]?=some none
 | 0,i,p,_,⟨m,hm,_⟩=>by omega
 | fuel+1,i,p,hi,⟨m,hm,e⟩=>by
  have hr:i≤runEnd mask i∧runEnd mask i≤mask:=by
   unfold runEnd
   split<;>omega
  unfold layClean.free
  cases hf:(List.range (runEnd mask i+1-i)).find? fun k=>(owner.getD (i+k) (some 0)).isNone with
  | some k=>
   dsimp only
   have h1:=List.find?_some hf
   have h2:=List.mem_range.mp (List.mem_of_find?_eq_some hf)
   refine ⟨i+k,rfl,by omega,?_⟩
   have hlt:i+k<owner.size:=by omega
   rw [Array.getD_eq_getD_getElem?,Array.getElem?_eq_getElem hlt,Option.getD_some] at h1
   rw [Array.getElem?_eq_getElem hlt]
   exact congrArg some (Option.isNone_iff_eq_none.mp h1)
  | none=>
   dsimp only
   have h1:=List.find?_eq_none.mp hf 0 (List.mem_range.mpr (by omega))
   have hm0:m≠0:=fun y=>by
    subst y
    have e:owner[i]?=some none:=e
    rw [Nat.add_zero,Array.getD_eq_getD_getElem?,e] at h1
    exact h1 rfl
   obtain ⟨m',rfl⟩:∃ m',m=m'+1:=⟨m-1,by omega⟩
   exact uh hs fuel (leap mask i p).1 (leap mask i p).2 (pA mask 1 (i,p) hi) ⟨m',by omega,e⟩
theorem yl {mask:Nat} {owner:Array (Option Nat)} (hs:owner.size=mask+1) (hk:(lay mask owner).length≤mask):∃ j,j≤mask∧owner[j]?=some none:=by
 obtain ⟨j,h1,h2⟩:=room (mask:=mask) (l:=(List.range (mask+1)).filter fun j=>(ow owner j).isSome) (by
  have:∀ l:List Nat,(l.filter fun j=>(ow owner j).isSome).length=(l.filterMap (ow owner)).length:=fun l=>by
   induction l with
   | nil=>rfl
   | cons x l ih=>
    rw [List.filter_cons,List.filterMap_cons]
    cases ow owner x with
    | none=>simpa using ih
    | some v=>simpa using ih
  rw [this]
  exact hk)
 refine ⟨j,h1,?_⟩
 have hlt:j<owner.size:=by omega
 rw [Array.getElem?_eq_getElem hlt]
 cases q:owner[j] with
 | none=>rfl
 | some v=>
  refine absurd (List.mem_filter.mpr ⟨List.mem_range.mpr (by omega),?_⟩) h2
  unfold ow
  rw [Array.getD_eq_getD_getElem?,Array.getElem?_eq_getElem hlt,q]
  rfl
theorem Bb {mask:Nat} {owner:Array (Option Nat)} (hs:owner.size=mask+1) {j k:Nat} (hj:j≤mask) (h0:owner[j]?=some none):(lay mask (owner.setIfInBounds j (some k))).Perm (k::lay mask owner):=by
 have:lay mask (owner.setIfInBounds j (some k))=(List.range (mask+1)).filterMap (fun i=>if i=j then some k else ow owner i):=ez fun i hi=>by
  unfold ow
  rw [Array.getD_eq_getD_getElem?,Array.getD_eq_getD_getElem?,Array.getElem?_setIfInBounds]
  by_cases e:i=j
  ·subst e
   rw [if_pos rfl,if_pos rfl,if_pos (by omega)]
   rfl
  ·rw [if_neg fun z=>e z.symm,if_neg e]
 rw [this]
 exact yk _ _ _ _ List.nodup_range (List.mem_range.mpr (by omega)) (by unfold ow;rw [Array.getD_eq_getD_getElem?,h0];rfl)
theorem jM {mask:Nat} (c:Cov mask):∀ (hs:List Int) (owner:Array (Option Nat)) (k:Nat),owner.size=mask+1→(lay mask owner).Perm (List.range k)→k+hs.length≤mask →
  ∃ owner',hs.foldl (fun acc h=>do
   let (owner,k) ← acc
   let j ← layClean.free mask owner (turns mask) (bits h % (mask+1)) (bits h)
   pure (owner.setIfInBounds j (some k),k+1)) (some (owner,k))=some (owner',k+hs.length)∧(lay mask owner').Perm (List.range (k+hs.length))∧owner'.size=mask+1
 | [],owner,k,h1,h2,_=>⟨owner,rfl,h2,h1⟩
 | h::hs,owner,k,h1,h2,h3=>by
  rw [List.length_cons] at h3
  obtain ⟨j0,a,b⟩:=yl h1 (by rw [h2.length_eq,List.length_range];omega)
  have hi:bits h % (mask+1)≤mask:=Nat.le_of_lt_succ (Nat.mod_lt _ (Nat.succ_pos _))
  obtain ⟨m,hm,e⟩:=hit c hi (ud h) a
  obtain ⟨j,f1,f2,f3⟩:=uh h1 (turns mask) (bits h % (mask+1)) (bits h) hi ⟨m,by unfold turns;omega,by rw [e];exact b⟩
  obtain ⟨owner',q1,q2,q3⟩:=jM c hs (owner.setIfInBounds j (some k)) (k+1) (by rw [Array.size_setIfInBounds];exact h1)
   ((Bb h1 f2 f3).trans (by rw [List.range_succ];exact (h2.cons k).trans (List.perm_append_singleton _ _).symm)) (by omega)
  refine ⟨owner',?_,?_,q3⟩
  ·rw [List.foldl_cons,List.length_cons,show k+(hs.length+1)=k+1+hs.length by omega,← q1]
   congr 1
   show (layClean.free mask owner (turns mask) (bits h % (mask+1)) (bits h)).bind _=_
   rw [f1]
   rfl
  ·rw [List.length_cons,show k+(hs.length+1)=k+1+hs.length by omega]
   exact q2
theorem nN {mask finger moves:Nat} {led plain:Bool} {hashes:Array Int} (c:Cov mask) (hn:hashes.size≤mask):∃ t order,laid mask finger moves led plain hashes=some (t,order)∧t.mask=mask∧t.led=led∧t.plain=plain∧t.dummies=#[] ∧
  t.place.toList.Pairwise (· < ·)∧(∀ j∈t.place.toList,j≤mask)∧t.place.size=hashes.size∧order.toList.Perm (List.range hashes.size):=by
 obtain ⟨owner,q1,q2,q3⟩:=jM c hashes.toList (Array.replicate (mask+1) none) 0 (by simp) (by
  have:lay mask (Array.replicate (mask+1) none)=[]:=by
   unfold lay
   rw [List.filterMap_eq_nil_iff]
   intro j hj
   unfold ow
   rw [Array.getD_eq_getD_getElem?,Array.getElem?_replicate]
   split<;>rfl
  rw [this]
  exact .refl _) (by rw [Array.length_toList];omega)
 rw [Nat.zero_add,Array.length_toList] at q1 q2
 have lc:layClean mask hashes=some owner:=by
  unfold layClean
  rw [← Array.foldl_toList,q1]
  rfl
 have e2:((List.range (mask+1)).filterMap fun j=>(owner.getD j none).map (j,·)).map (·.2)=lay mask owner:=by
  unfold lay
  rw [List.map_filterMap]
  refine ez fun j _=>?_
  unfold ow
  cases owner.getD j none<;>rfl
 have e1:((List.range (mask+1)).filterMap fun j=>(owner.getD j none).map (j,·)).map (·.1)=(List.range (mask+1)).filter fun j=>(owner.getD j none).isSome:=by
  rw [List.map_filterMap,← List.filterMap_eq_filter]
  refine ez fun j _=>?_
  unfold Option.guard
  cases q:owner.getD j none<;>simp [q]
 unfold laid
 rw [lc]
 refine ⟨_,_,rfl,rfl,rfl,rfl,rfl,?_,fun j hj=>?_,?_,?_⟩
 ·show ((((List.range (mask+1)).filterMap fun j=>(owner.getD j none).map (j,·)).map (·.1)).toArray).toList.Pairwise _
  rw [e1]
  exact (List.pairwise_lt_range).sublist List.filter_sublist
 ·have hj:j∈((((List.range (mask+1)).filterMap fun j=>(owner.getD j none).map (j,·)).map (·.1)).toArray).toList:=hj
  rw [e1] at hj
  have:=List.mem_range.mp (List.mem_filter.mp hj).1
  omega
 ·show ((((List.range (mask+1)).filterMap fun j=>(owner.getD j none).map (j,·)).map (·.1)).toArray).size=_
  rw [List.size_toArray,List.length_map,← List.length_map (f:=(·.2)),e2,q2.length_eq,List.length_range]
 ·show ((((List.range (mask+1)).filterMap fun j=>(owner.getD j none).map (j,·)).map (·.2)).toArray).toList.Perm _
  rw [e2]
  exact q2
open PySem PySem.SetTable PySem.W
theorem aW:Slot "set_iterator" "__next__" "set_iterator.__next__":=
 .of (owner := "set_iterator") (n := "__next__") (by rw [typeLookup_type,builtinLookup_eq_fast];kernel_rfl) (by decide +kernel) (by decide +kernel) (by decide +kernel)
  (by first | exact .inl (by decide +kernel) | exact .inr (by decide +kernel)) (by rw [isSubtype_type];kernel_rfl)
theorem c_:entryFor table "set_iterator.__next__" = some Builtin.«set_iterator.__next__»:=entryFor_of_tree (by kernel_rfl)
theorem iV:Manifest.owners.lookup (String.ofList ['r','o','t','a','r','e','t','i','_','t','e','s'].reverse)=some Manifest.sig_set_iterator:=by kernel_rfl
theorem dO (a:Value):argsOk "set_iterator.__next__" ⟨[a],[]⟩:=by
 unfold argsOk;rw [signature?_of (id := "set_iterator.__next__") (n:=['_','_','t','x','e','n','_','_']) (o:=['r','o','t','a','r','e','t','i','_','t','e','s']) (by kernel_rfl) iV];kernel_rfl
theorem dP:Slot "set_iterator" "__iter__" "set_iterator.__iter__":=
 .of (owner := "set_iterator") (n := "__iter__") (by rw [typeLookup_type,builtinLookup_eq_fast];kernel_rfl) (by decide +kernel) (by decide +kernel) (by decide +kernel)
  (by first | exact .inl (by decide +kernel) | exact .inr (by decide +kernel)) (by rw [isSubtype_type];kernel_rfl)
theorem iD:entryFor table "set_iterator.__iter__" = some Builtin.«dict_keyiterator.__iter__»:=
 entryFor_alias (id' := "dict_keyiterator.__iter__") (by kernel_rfl) rfl (by decide +kernel) (by kernel_rfl)
theorem i9 (a:Value):argsOk "set_iterator.__iter__" ⟨[a],[]⟩:=by
 unfold argsOk;rw [signature?_of (id := "set_iterator.__iter__") (n:=['_','_','r','e','t','i','_','_']) (o:=['r','o','t','a','r','e','t','i','_','t','e','s']) (by kernel_rfl) iV];kernel_rfl
theorem jN:entryFor table "set.__iter__" = some Builtin.«frozenset.__iter__»:=
 entryFor_alias (id' := "frozenset.__iter__") (by kernel_rfl) rfl (by decide +kernel) (by kernel_rfl)
theorem jO {α:Type}:∀ (l:List α) (i:Nat) (h:i<l.length),(l[i]::l.eraseIdx i).Perm l
 | x::l,0,_=>.refl _
 | x::l,i+1,h=>by
  have ih:=jO l i (by simpa using h)
  exact (List.Perm.swap _ _ _).trans (ih.cons x)
theorem um (f:Nat→Nat) {α:Type}:∀ (n k:Nat) (left:List α) (out:Array α),left.length=n→(pickOrder.go f n k left out).toList.Perm (out.toList++left)
 | 0,k,left,out,h=>by
  have:left=[]:=List.length_eq_zero_iff.mp h
  subst this
  unfold pickOrder.go
  rw [List.append_nil]
 | n+1,k,left,out,h=>by
  have hlt:f k % left.length<left.length:=Nat.mod_lt _ (by omega)
  unfold pickOrder.go
  rw [List.getElem?_eq_getElem hlt]
  dsimp only
  refine (um f n (k+1) _ _ (by rw [List.length_eraseIdx_of_lt hlt];omega)).trans ?_
  rw [Array.toList_push,List.append_assoc]
  refine List.Perm.append_left _ ?_
  exact jO left _ hlt
theorem vS (f:Nat→Nat) {α:Type} (xs:Array α):(pickOrder f xs).toList.Perm xs.toList:=by
 unfold pickOrder
 have:=um f xs.size 0 xs.toList #[] (by rw [Array.length_toList])
 simpa using this
noncomputable def bM (h:Heap) (a:Addr) (es:Array (Int×Value)) (ep:Nat) (t:SetTable):Prop:=∃ o,h.get? a=some o∧o.ExactSet∧o.data=.set es ep t
theorem bM.typeIs {s:Shared} {a:Addr} {es ep t} (x:bM s.heap a es ep t):s.TypeIs (.ref a) "set" := let ⟨o,ho,he,_⟩:=x;⟨o,ho,he.1⟩
theorem bM.at {h h':Heap} {a:Addr} {es ep t} (x:bM h a es ep t) (e:∀ o,h.get? a=some o→h'.get? a=some o):bM h' a es ep t:=let ⟨o,ho,r⟩:=x;⟨o,e _ ho,r⟩
noncomputable def slotAt (bt:Bool) (t:SetTable) (i:Nat):Nat:=if bt||i == 0 then 0 else t.place.getD (i-1) 0+1
noncomputable def lP (h:Heap) (it a:Addr) (bt:Bool) (t:SetTable) (i n ep:Nat):Prop:=∃ o,h.get? it=some o∧o.cls=.type "set_iterator" ∧ o.data=.fields #[.int (slotAt bt t i:Nat) 0,.int i 0,.ref a,.int n 0,.int ep 0]
theorem lP.typeIs {s:Shared} {it a:Addr} {bt t i n ep} (x:lP s.heap it a bt t i n ep):s.TypeIs (.ref it) "set_iterator" := let ⟨o,ho,he,_⟩:=x;⟨o,ho,he⟩
theorem lP.at {h h':Heap} {it a:Addr} {bt t i n ep} (x:lP h it a bt t i n ep) (e:∀ o,h.get? it=some o→h'.get? it=some o):lP h' it a bt t i n ep:=let ⟨o,ho,r⟩:=x;⟨o,e _ ho,r⟩
noncomputable def cg (w:World) (a:Addr) (es:Array (Int×Value)) (ep:Nat):List Value:=
 ((if w.params.followText "set-order" then pickOrder (w.params.setOrder a ep) es else es).toList).map (·.2)
theorem mE (w:World) (a:Addr) (es:Array (Int×Value)) (ep:Nat):(cg w a es ep).Perm (es.toList.map (·.2)):=by
 unfold cg
 split
 ·exact (vS _ es).map _
 ·exact .refl _
theorem eE (w:World) (a:Addr) (es:Array (Int×Value)) (ep:Nat):(cg w a es ep).length=es.size:=by
 rw [(mE w a es ep).length_eq,List.length_map,Array.length_toList]
theorem rV {t:SetTable} {n i:Nat} (g:Good t n) (hi:i<n):below t.place (slotAt false t i)=i:=by
 obtain ⟨a,b,c⟩:=cF (slotAt false t i) g.ris
 have mono:∀ i k,i<k→∀ v w,t.place[i]?=some v→t.place[k]?=some w→v<w:=fun i k hik v w e1 e2=>by
  obtain ⟨q1,q2⟩:=Array.getElem?_eq_some_iff.mp e1
  obtain ⟨q3,q4⟩:=Array.getElem?_eq_some_iff.mp e2
  have:=List.pairwise_iff_getElem.mp g.ris i k (by simpa using q1) (by simpa using q3) hik
  simp only [Array.getElem_toList] at this
  omega
 have hz:=g.sz
 cases i with
 | zero=>
  refine Classical.byContradiction fun z=>?_
  have h0:t.place[0]?=some t.place[0]:=Array.getElem?_eq_getElem (by omega)
  have:=a 0 (by omega) _ h0
  have e:slotAt false t 0=0:=rfl
  rw [e] at this
  omega
 | succ i=>
  have hp:t.place[i]?=some t.place[i]:=Array.getElem?_eq_getElem (by omega)
  have e:slotAt false t (i+1)=t.place[i]+1:=by
   show t.place.getD (i+1-1) 0+1=_
   rw [Nat.add_sub_cancel,Array.getD_eq_getD_getElem?,hp]
   rfl
  rw [e] at a b ⊢
  have h1:i<below t.place (t.place[i]+1):=Nat.not_le.mp fun z=>by
   have:=b i z _ hp
   omega
  have h2:below t.place (t.place[i]+1)≤i+1:=Nat.not_lt.mp fun z=>by
   have hq:t.place[i+1]?=some t.place[i+1]:=Array.getElem?_eq_getElem (by omega)
   have:=a (i+1) z _ hq
   have:=mono i (i+1) (Nat.lt_succ_self _) _ _ hp hq
   omega
  omega
theorem vU {t:SetTable} {n:Nat} (g:Good t n):n≤below t.place (slotAt false t n):=by
 obtain ⟨a,b,c⟩:=cF (slotAt false t n) g.ris
 have hz:=g.sz
 cases n with
 | zero=>omega
 | succ i=>
  have hp:t.place[i]?=some t.place[i]:=Array.getElem?_eq_getElem (by omega)
  have e:slotAt false t (i+1)=t.place[i]+1:=by
   show t.place.getD (i+1-1) 0+1=_
   rw [Nat.add_sub_cancel,Array.getD_eq_getD_getElem?,hp]
   rfl
  rw [e] at a b ⊢
  exact Nat.not_le.mp fun z=>by
   have:=b i z _ hp
   omega
section
variable {prog:Program} {w:World} {A:Around} {E:Value→Shared→Prop} {s:Shared} {a it:Addr} {es:Array (Int×Value)} {ep i:Nat} {t:SetTable}
theorem br (x:bM s.heap a es ep t) (g:Good t es.size) (hm:es.size≤t.mask) {Q:(Array (Int×Value)×Nat×SetTable)→Shared→Prop} (h:Q (es,ep,t) s):wpAny (model prog w) A (setState a) Q E s:=by
 obtain ⟨o,ho,_,hd⟩:=x
 exact wpAny_setState_of ho hd (g.fits hm) h
theorem iE {Q:Bool→Shared→Prop} (h:Q (w.params.followText "set-order") s):wpAny (model prog w) A setsByText Q E s:=by
 unfold setsByText
 exact wpAny_bind (wpAny_askSetting (wpAny_pure h))
theorem pC (x:bM s.heap a es ep t) (g:Good t es.size) (hm:es.size≤t.mask) {Q:Bool→Shared→Prop} (h:Q false s):wpAny (model prog w) A (setDrawn a) Q E s:=by
 unfold setDrawn
 refine wpAny_bind (br x g hm ?_)
 refine wpAny_bind (iE (wpAny_pure ?_))
 have e:(!(w.params.followText "set-order")&&(!t.plain&&decide (es.size>1)))=false:=by
  rw [g.pl]
  simp
 have e':Q (!(w.params.followText "set-order")&&(!t.plain&&decide (es.size>1))) s:=by rw [e];exact h
 exact e'
theorem jP (x:bM s.heap a es ep t) (g:Good t es.size) (hm:es.size≤t.mask) (hl:t.led=!w.params.followText "set-order") {Q:Option (Value×Nat)→Shared→Prop}
  (h:Q ((cg w a es ep)[i]?.map fun v=>(v,slotAt (w.params.followText "set-order") t (i+1))) s) (hi:i≤es.size):wpAny (model prog w) A (setNext a (slotAt (w.params.followText "set-order") t i) i ep) Q E s:=by
 unfold setNext
 refine wpAny_bind (br x g hm ?_)
 dsimp only
 refine wpAny_bind (iE ?_)
 cases bt:w.params.followText "set-order" with
 | true=>
  rw [bt] at h
  rw [if_pos rfl]
  simp only [bne_self_eq_false,Bool.false_eq_true,if_false]
  refine wpAny_bind (m:=setWalk a) ?_
  unfold setWalk
  refine wpAny_bind (br x g hm ?_)
  dsimp only
  refine wpAny_bind (iE ?_)
  rw [bt,if_pos rfl]
  refine wpAny_bind (wpAny_askSetting (wpAny_pure (wpAny_pure ?_)))
  unfold cg at h
  rw [bt,if_pos rfl,List.getElem?_map,Option.map_map] at h
  have e:slotAt true t i=0∧slotAt true t (i+1)=0:=⟨rfl,rfl⟩
  rw [e.1]
  rw [e.2] at h
  rw [Array.getElem?_toList] at h
  exact h
 | false=>
  rw [bt] at h hl
  rw [if_neg Bool.false_ne_true]
  have dr:(!t.plain&&decide (es.size>1))=false:=by rw [g.pl];rfl
  show wpAny _ _ (if (!t.plain&&decide (es.size>1))=true then _ else _) _ _ _
  rw [if_neg (by rw [dr];exact Bool.false_ne_true)]
  show wpAny _ _ ((if (!t.led&&!es.isEmpty)=true then _ else pure ()) >>= _) _ _ _
  rw [hl]
  simp only [Bool.not_false,Bool.not_true,Bool.false_and,Bool.false_eq_true,if_false]
  refine wpAny_bind (wpAny_pure (wpAny_pure ?_))
  unfold cg at h
  rw [bt] at h
  simp only [Bool.false_eq_true,if_false] at h
  rw [List.getElem?_map] at h
  rcases Nat.lt_or_ge i es.size with hlt | hge
  ·rw [rV g hlt,Array.getElem?_eq_getElem hlt,Array.getElem?_eq_getElem (by rw [g.sz];exact hlt)]
   rw [Array.getElem?_toList,Array.getElem?_eq_getElem hlt] at h
   have e:slotAt false t (i+1)=t.place[i]'(by rw [g.sz];exact hlt)+1:=by
    show t.place.getD (i+1-1) 0+1=_
    rw [Nat.add_sub_cancel,Array.getD_eq_getD_getElem?,Array.getElem?_eq_getElem (by rw [g.sz];exact hlt)]
    rfl
   rw [e] at h
   exact h
  ·have:i=es.size:=by omega
   subst this
   rw [Array.getElem?_eq_none (vU g)]
   rw [Array.getElem?_toList,Array.getElem?_eq_none (Nat.le_refl _)] at h
   exact h
end
section
variable {prog:Program} {w:World} {A:Around} {E:Value→Shared→Prop} {s:Shared} {a it:Addr} {es:Array (Int×Value)} {ep i:Nat} {t:SetTable}
theorem rW (x:bM s.heap a es ep t) (g:Good t es.size) (hm:es.size≤t.mask) {Q:Value→Shared→Prop}
  (hQ:Q (.ref s.heap.objs.size) { s with heap:=s.heap.push { cls:=.type "set_iterator",data:=.fields #[.int 0 0,.int 0 0,.ref a,.int es.size 0,.int ep 0] } }):wpAny (model prog w) A (pyIter (.ref a)) Q E s:=by
 obtain ⟨o,ho,hex,hd⟩:=id x
 refine wpAny_pyIter_slot x.typeIs F.slot_set_iter (wpAny_call_entry F.slot_set_iter x.typeIs jN ?_ (F.args_set_iter_1 _))
 unfold Builtin.«frozenset.__iter__» Builtin.Frozenset.slot0 slotArgs
 simp only [List.isEmpty_nil,Bool.not_true,Bool.false_eq_true,↓reduceIte,bind_assoc,List.length_nil,bne_self_eq_false]
 unfold Builtin.Frozenset.addrOf Builtin.Frozenset.sizeOf
 refine wpAny_bind (wpAny_pure ?_)
 try dsimp only
 refine wpAny_bind (wpAny_pure ?_)
 refine wpAny_bind (wpAny_bind (wpAny_setEntries_of ho hd (g.fits hm) (wpAny_pure ?_)))
 refine wpAny_bind (pC x g hm ?_)
 simp only [Bool.false_eq_true,if_false]
 refine wpAny_bind (wpAny_pure ?_)
 refine wpAny_bind (wpAny_setEpoch_of ho hd (g.fits hm) ?_)
 refine wpAny_bind (m:=newFields _ _) ?_
 unfold newFields
 refine wpAny_newObj_type (wpAny_pure ⟨_,rfl,"set_iterator",_,⟨_,Heap.get?_push_size _ rfl,rfl⟩,aW.lookup,?_⟩)
 simpa [rawInt] using hQ
theorem next_item (hit:lP s.heap it a (w.params.followText "set-order") t i es.size ep) (x:bM s.heap a es ep t) (g:Good t es.size) (hm:es.size≤t.mask) (hl:t.led=!w.params.followText "set-order") {v:Value} (hv:(cg w a es ep)[i]?=some v) {Q:Option Value→Shared→Prop}
  (hQ:∀ h',lP h' it a (w.params.followText "set-order") t (i+1) es.size ep→Heap.SameBut it s.heap h'→Q (some v) { s with heap:=h' }):wpAny (model prog w) A (pyNext (.ref it)) Q E s:=by
 obtain ⟨o,ho,hc,hd⟩:=id hit
 obtain ⟨oa,hoa,JZ,hda⟩:=id x
 have hi:i<es.size:=by rw [← eE w a es ep];exact (List.getElem?_eq_some_iff.mp hv).1
 unfold pyNext
 refine wpAny_bind (wpAny_attempt (wpAny_callSpecial?_slot (name:=Str.ofString "__next__") hit.typeIs aW
  (wpAny_call_entry aW hit.typeIs c_ ?_ (dO _))))
 unfold Builtin.«set_iterator.__next__» slotArgs
 simp only [List.isEmpty_nil,Bool.not_true,Bool.false_eq_true,↓reduceIte,bind_assoc,List.length_nil,bne_self_eq_false]
 refine wpAny_bind (wpAny_pure ?_)
 try dsimp only
 refine wpAny_bind (wpAny_fieldsOf ho hd ?_)
 try dsimp only
 refine wpAny_bind (wpAny_setEntries_of hoa hda (g.fits hm) ?_)
 simp only [bne_self_eq_false,Bool.false_eq_true,if_false]
 simp only [Int.toNat_natCast]
 refine wpAny_bind (jP x g hm hl ?_ (Nat.le_of_lt hi))
 rw [hv]
 dsimp only [Option.map_some]
 refine wpAny_bind (wpAny_setField ho hd (by simp) ?_)
 have h1:=Heap.get?_update_self (Obj.mapFields (·.setIfInBounds 0 (rawInt (slotAt (w.params.followText "set-order") t (i+1):Nat)))) ho (Obj.isFreed_of_fields (Obj.data_mapFields hd _))
 have d1:=Obj.data_mapFields hd (·.setIfInBounds 0 (rawInt (slotAt (w.params.followText "set-order") t (i+1):Nat)))
 refine wpAny_bind (wpAny_setField h1 d1 (by simp) ?_)
 refine wpAny_pure ⟨_,rfl,wpAny_pure (hQ _ ⟨_,Heap.get?_update_self _ h1 (Obj.isFreed_of_fields (Obj.data_mapFields d1 _)),?_,?_⟩ ((Heap.SameBut.update ..).trans (Heap.SameBut.update ..)))⟩
 ·exact (Obj.cls_mapFields ..).trans ((Obj.cls_mapFields ..).trans hc)
 ·rw [Obj.data_mapFields d1]
  simp [rawInt]
theorem next_end (hh:A.handled=none) (hit:lP s.heap it a (w.params.followText "set-order") t es.size es.size ep) (x:bM s.heap a es ep t) (g:Good t es.size) (hm:es.size≤t.mask) (hl:t.led=!w.params.followText "set-order") {Q:Option Value→Shared→Prop}
  (hQ:∀ h',Heap.ExtBut it s.heap h'→Q none { s with heap:=h' }):wpAny (model prog w) A (pyNext (.ref it)) Q E s:=by
 obtain ⟨o,ho,hc,hd⟩:=id hit
 obtain ⟨oa,hoa,JZ,hda⟩:=id x
 unfold pyNext
 refine wpAny_bind (wpAny_attempt (wpAny_callSpecial?_slot (name:=Str.ofString "__next__") hit.typeIs aW
  (wpAny_call_entry aW hit.typeIs c_ ?_ (dO _))))
 unfold Builtin.«set_iterator.__next__» slotArgs
 simp only [List.isEmpty_nil,Bool.not_true,Bool.false_eq_true,↓reduceIte,bind_assoc,List.length_nil,bne_self_eq_false]
 refine wpAny_bind (wpAny_pure ?_)
 try dsimp only
 refine wpAny_bind (wpAny_fieldsOf ho hd ?_)
 try dsimp only
 refine wpAny_bind (wpAny_setEntries_of hoa hda (g.fits hm) ?_)
 simp only [bne_self_eq_false,Bool.false_eq_true,if_false]
 simp only [Int.toNat_natCast]
 refine wpAny_bind (jP x g hm hl ?_ (Nat.le_refl _))
 rw [List.getElem?_eq_none (by rw [eE];exact Nat.le_refl _)]
 dsimp only [Option.map_none]
 refine wpAny_bind (wpAny_setField ho hd (by simp) (wpAny_bind ?_))
 unfold newExc newTuple
 refine wpAny_bind (wpAny_newObj_type (wpAny_bind (m:=firstArgMember _ _) (wpAny_of_eq (a:=.none) rfl (wpAny_newObj_type ?_ (by size_fits)))) (by size_fits))
 unfold raiseNew
 refine wpAny_bind (wpAny_handled ?_)
 have hx:A.in1.handled=none:=hh
 rw [hx]
 refine wpAny_bind (wpAny_pure (wpAny_throw (wpAny_bind ?_)))
 refine wpAny_isInstance (b:=true) (T := "StopIteration") ⟨_,Heap.get?_push_size _ rfl,rfl⟩ isSubtype_stop (wpAny_pure ?_)
 exact hQ _ (((Heap.SameBut.update ..).extBut.push _).push _)
theorem nQ {bt:Bool} {n:Nat} (hit:lP s.heap it a bt t i n ep) {Q:Value→Shared→Prop} (h:Q (.ref it) s):wpAny (model prog w) A (pyIter (.ref it)) Q E s:=by
 refine wpAny_pyIter_slot hit.typeIs dP (wpAny_call_entry dP hit.typeIs iD ?_ (i9 _))
 show wpAny _ _ (ret (.ref it)) _ _ s
 exact wpAny_pure ⟨_,rfl,"set_iterator",_,hit.typeIs,aW.lookup,h⟩
theorem vV (hh:A.handled=none) (I a:Addr) (hne:a≠I) (g:Good t es.size) (hm:es.size≤t.mask) (hl:t.led=!w.params.followText "set-order") :
  Walks prog w A I [I,a] [I] es.size (fun i v=>(cg w a es ep)[i]?=some v) (fun i h=>lP h I a (w.params.followText "set-order") t i es.size ep∧bM h a es ep t) where
 sub:=fun b hb=>by simp at hb;simp [hb]
 frame:=fun _ _ _ st hk=>⟨st.1.at fun o e=>hk I (by simp) o e,st.2.at fun o e=>hk a (by simp) o e⟩
 item:=fun i s Q E hi st hQ=>by
  obtain ⟨v,hv⟩:∃ v,(cg w a es ep)[i]?=some v:=⟨(cg w a es ep)[i]'(by rw [eE];exact hi),by simp [eE,hi]⟩
  refine next_item st.1 st.2 g hm hl hv fun h' J0 hs'=>?_
  exact hQ v h' s.toks hv ⟨J0,st.2.at fun o e=>hs'.extBut a o hne e⟩ fun b o hb e=>hs'.extBut b o (fun h=>hb (by simp [h])) e
 done:=fun s Q E st hQ=>next_end hh st.1 st.2 g hm hl fun h' he'=>hQ h' s.toks fun b o hb e=>he' b o (fun h=>hb (by simp [h])) e
 self:=fun _ _ _ _ st hQ=>nQ st.1 hQ
theorem ym {r:Addr} {Q:Bool→Shared→Prop} (hT:s.TypeIs (.ref r) "set") (h:Q false s):wpAny (model prog w) A (Builtin.List.listLengthHint (.ref r)) Q E s:=by
 unfold Builtin.List.listLengthHint
 refine wpAny_bind (wpAny_specialOf hT PySem.F.slot_set_len.lookup ?_)
 generalize hid:("set.__len__" : String)=id0
 wp_delta
 rw [show splitId id0=some ("set","__len__") from by subst hid;decide +kernel]
 subst hid
 refine wpAny_bind (wpAny_isInstance (T := "set") (b:=true) hT (by rw [isSubtype_type];kernel_rfl) ?_)
 refine wpAny_ite_split (fun hab=>absurd hab (by decide)) (fun _=>?_)
 refine wpAny_ite_split (fun _=>?_) (fun hab=>absurd (by decide +kernel) hab)
 refine wpAny_bind (wpAny_typeOf hT ?_)
 exact wpAny_pure h
theorem Bc (g:Good t es.size) (hm:es.size≤t.mask) (hl:t.led=!w.params.followText "set-order"):KdlSrc prog w "set" a a es.size (fun i v=>(cg w a es ep)[i]?=some v) (fun h=>bM h a es ep t) where
 type:=fun _ x=>x.typeIs
 there:=fun _ x=>let ⟨_,ho,_⟩:=x;⟨Heap.lt_size ho,Heap.lt_size ho⟩
 keep:=fun _ _ x hk=>x.at fun o e=>hk a (.inl rfl) o e
 notList:=by decide
 notTuple:=by decide
 hint:=fun _ _ _ _ x hq=>ym x.typeIs hq
 iter:=fun _ s hh x=>⟨_,_,(fun _ _ hq=>rW x g hm hq),vV hh _ a (let ⟨_,ho,_⟩:=x;Nat.ne_of_lt (Heap.lt_size ho)) g hm hl,
  ⟨⟨_,Heap.get?_push_size _ rfl,rfl,by simp [slotAt]⟩,x.at fun o e=>Heap.get?_push_of_some _ e⟩⟩
end
open PySem PySem.SetTable PySem.W PyProof.Rows
noncomputable def Small (t:SetTable) (n:Nat):Prop:=(t.mask=7∧n≤4)∨(t.mask=31∧n≤18)∨(t.mask=127∧n≤76)
theorem Small.le {t:SetTable} {n:Nat} (h:Small t n):n≤t.mask:=by
 rcases h with ⟨a,b⟩ | ⟨a,b⟩ | ⟨a,b⟩<;>omega
theorem pD {h:Heap} {a:Addr} {es es':Array (Int×Value)} {ep:Nat} {t t':SetTable} (x:bM h a es ep t):bM (h.update a (Obj.putSet es' t')) a es' (ep+1) t':=by
 obtain ⟨o,ho,hex,hd⟩:=x
 have:=Heap.get?_update_self (Obj.putSet es' t') ho (by rw [putSet_of es' t' hd];rfl)
 rw [putSet_of es' t' hd] at this
 exact ⟨_,this,hex,rfl⟩
section
variable {prog:Program} {w:World} {A:Around} {E:Value→Shared→Prop} {s:Shared} {a:Addr} {ns:List Int} {k:Int} {tk:Tok}
end
noncomputable abbrev jQ (led:Bool):Obj:={ cls:=.type "set",dict:=none,data:=.set #[] 0 (.fresh 0 0 led) }
noncomputable def bt (w:World):Bool:=w.params.followText "set-order"
theorem rX (led:Bool):Good (.fresh 0 0 led) 0:=⟨rfl,rfl,JY,.nil,fun j h=>(by cases h),rfl⟩
theorem yo {prog:Program} {w:World} {A:Around} {R:Result→Shared→Prop} {I S:Addr} {fp wr:List Addr} {G:Array GenState→Array GenState→Prop} {n:Nat} {P:Nat→Value→Prop} {St:Nat→Shared→Prop} {J:Nat→Heap→Prop} (W:WalksS prog w A.in1 I fp wr G n P St) (off:S∉fp)
  (jk:∀ i h h',J i h→(∀ b o,b∉wr→h.get? b=some o→h'.get? b=some o)→J i h')
  (ja:∀ i v (u:Shared) (E:Value→Shared→Prop) (K:Bool→Shared→Prop),i<n→P i v→J i u.heap→(∀ c h' tk,u.toks≤tk→Heap.SameBut S u.heap h'→J (i+1) h'→K c { u with heap:=h',toks:=tk })→wpAny (model prog w) A.in1 (setAdd S v) K E u)
  (i:Nat) (s:Shared) (hi:i≤n) (st:St i s) (hJ:J i s.heap) (fin:∀ s',Moved (S::wr) G s s'→J n s'.heap→R (.ok (.ret .none)) s'):codeAny (model prog w) A (.builtin "set.update.loop" ⟨[.ref S,.ref I],[]⟩) R s:=by
 have nw:S∉wr:=fun z=>off (W.sub _ z)
 have up:∀ {x y:Shared},Moved wr G x y→Moved (S::wr) G x y:=fun m=>m.mono fun _=>List.mem_cons_of_mem _
 generalize hd:n-i=d
 induction d generalizing i s with
 | zero=>
  cases (show i=n by omega)
  refine codeAny_builtin F.entry_set_update_loop (Around.under_plainId F.plain_set_update_loop _▸?_)
  exact wpAny_bind (W.done s _ _ st fun s' m=>wpAny_pure (fin s' (up m) (jk _ _ _ hJ fun b o hb e=>m.heap b o hb e)))
 | succ d ih=>
  have lt:i<n:=by omega
  refine codeAny_builtin F.entry_set_update_loop (Around.under_plainId F.plain_set_update_loop _▸?_)
  refine wpAny_bind (W.item i s _ _ lt st fun v u hv st1 m=>?_)
  refine wpAny_bind (wpAny_holding (ja i v u _ _ lt hv (jk _ _ _ hJ fun b o hb e=>m.heap b o hb e) fun c h' tk ht sb hJ'=>wpAny_pure ⟨plainId_quiet F.plain_set_update_loop _,?_⟩))
  refine ih (i+1) _ lt (W.frame _ u _ _ st1 ht fun b hb o e=>(sb.2 b fun z=>off (z▸hb)).trans e) hJ' (fun s' m'=>fin s' (Moved.trans W.gtrans ((up m).then_heap ht fun b o hb e=>?_) m')) (by omega)
  exact (sb.2 b fun z=>hb (z▸List.mem_cons_self)).trans e
section
variable {prog:Program} {w:World} {A:Around} {E:Value→Shared→Prop} {s:Shared}
theorem yp (x:Value) {K:Value→Shared→Prop} (h:K (.ref s.heap.objs.size) { s with heap:=s.heap.push (jQ (!bt w)) }):codeAny (model prog w) A (.call (.builtin "set.__new__") ⟨[.type "set",x],[]⟩) (wants K E) s:=by
 refine codeAny_call_builtin PySem.F.plain_set_new PySem.F.entry_set_new (wpAny_of_eq (PySem.F.newCall_set_1 x) ?_)
 have sub:=sub_set_self
 cases s
 unfold Builtin.«set.__new__» Builtin.Frozenset.newClass
 wp_walk
 exact wpAny_askSetting (wpAny_pure (wpAny_bind (wpAny_alloc (wpAny_pure (wpAny_pure h)))))
set_option maxHeartbeats 3200000 in
theorem vW {x:Value} {K:Value→Shared→Prop} (body:∀ led,led=(!bt w)→wpAny (model prog w) A.in1.in1 (Builtin.«set.__init__» ⟨[.ref s.heap.objs.size,x],[]⟩)
   (fun f u=>∃ h' tk,f=.done (.ret .none)∧u={ s with heap:=h',toks:=tk }∧K (.ref s.heap.objs.size) { s with heap:=h',toks:=tk }) E { s with heap:=s.heap.push (jQ led) }):wpAny (model prog w) A (call (.type "set") [x]) K E s:=by
 have ft:=PySem.F.called_set
 obtain ⟨c,tl,e1⟩:=ft.mro
 have e2:=ft.made
 have e3:=ft.sub
 have e4:=ft.notType
 have e5:=ft.canCreate
 have e6:=PySem.F.typeCall_set_1 x
 refine wpAny_call (codeAny_of_tree (wpAny_pure ⟨Code.quiet_builtin _ (by decide +kernel),codeAny_builtin PySem.F.entry_type_call (Around.under_plain (weight_type_call_type "set" [x] []) rfl▸?_)⟩))
 repeat (any_goals (first | assumption | wp_step))
 generalize Bd:(!bt w)=led at body
 refine codeAny_mono (yp x (E:=E) (K:=fun y u=>y=.ref s.heap.objs.size∧u={ s with heap:=s.heap.push (jQ led) }) ⟨rfl,by rw [Bd]⟩) fun q u hq=>?_
 match q,hq with
 | .error _,hq=>exact hq
 | .ok (.ret y),⟨h1,h2⟩=>
  subst h1 h2
  have ty:Shared.TypeIs { s with heap:=s.heap.push (jQ led) } (.ref s.heap.objs.size) "set" := ⟨_,Heap.get?_push_size _ rfl,rfl⟩
  have e7:=ft.init.lookup
  have e8:=ft.init.bind (.ref s.heap.objs.size)
  repeat (any_goals (first | assumption | wp_step))
  refine codeAny_mono (codeAny_call_builtin (R:=wants (fun z u=>z=.none∧∃ h' tk,u={ s with heap:=h',toks:=tk }∧K (.ref s.heap.objs.size) { s with heap:=h',toks:=tk }) E) ft.init.plain PySem.F.entry_set_init (check_set_init_1 ty ?_)) fun q' u' hq'=>?_
  ·refine wpAny_mono (body led rfl) (fun f u hf=>?_) fun _ _ z=>z
   obtain ⟨h',tk,rfl,rfl,hk⟩:=hf
   exact ⟨rfl,h',tk,rfl,hk⟩
  ·match q',hq' with
   | .error _,hq'=>exact hq'
   | .ok (.ret z),⟨h1,h',tk,h2,hk⟩=>
    subst h1 h2
    repeat (any_goals (first | assumption | wp_step))
end
end Sx
namespace Dm
end Dm
namespace Br
open PySem PySem.Spec PyProof.Rows L2
section
variable {X:Cx} {e:Expr} {f:Dm.FE} {p p0 pos iw:Pos}
end
section
variable {X:Cx} {pins:List (Addr×Obj)} {σ:L2.St} {H:Hp} {s:Shared} {a:Addr} {kvs:List (Key×V)} {k:Key} {u:Value} {A:Around} {E:Value→Shared→Prop}
end
section
variable {j:Nat} {σs:L2.St} {ρs:Dm.Env} {H0s Hs:Hp} {σ:L2.St} {ρ ρ':Dm.Env} {H0 H H0' H':Hp} {ks:List Int} {rows:List (List Dm.Dat)}
end
section
variable {D:Ends} {σ:L2.St} {H:Hp} {j kx vx:Nat}
end
section
variable {X:Cx} {rest:List Stmt} {j kx vx:Nat} {pos:Pos}
end
section
variable {X:Cx} {tg:Expr} {x:Str} {px ap cp:Pos} {j:Nat}
end
end Br
namespace Sx
open PySem PySem.SetTable
noncomputable def adv (mask:Nat) (p:Probe):Probe:=
 if p.more>0 then { p with j:=p.j+1,more:=p.more-1 } else { p with j:=(leap mask p.i p.perturb).1,more:=runEnd mask (leap mask p.i p.perturb).1-(leap mask p.i p.perturb).1,i:=(leap mask p.i p.perturb).1,perturb:=(leap mask p.i p.perturb).2 }
theorem EN (t:SetTable) (p:Probe):t.advance p=adv t.mask p:=rfl
noncomputable def pth (mask:Nat) (h:Int):Nat→Probe
 | 0=>{ j:=bits h % (mask+1),more:=runEnd mask (bits h % (mask+1))-bits h % (mask+1),i:=bits h % (mask+1),perturb:=bits h,dummy:=none }
 | k+1=>adv mask (pth mask h k)
theorem mF (mask:Nat) (h:Int):∀ k,(pth mask h k).dummy=none
 | 0=>rfl
 | k+1=>by
  show (adv mask (pth mask h k)).dummy=none
  unfold adv
  split<;>exact mF mask h k
theorem pF {t:SetTable} {n:Nat} (g:Good t n) {h:Int} {q:Met}:∀ (f k:Nat),probe.go t (fun _=>h+1) h f (pth t.mask h k)=some q→∃ K,k≤K∧K<k+f∧(pth t.mask h K).j∉t.place.toList∧∀ l,k≤l→l<K→(pth t.mask h l).j∈t.place.toList
 | 0,k,e=>by unfold probe.go at e;cases e
 | f+1,k,e=>by
  rcases g.slot (pth t.mask h k).j with ⟨q1,q2⟩ | ⟨q1,i,q2⟩
  ·exact ⟨k,Nat.le_refl _,by omega,q1,fun l h1 h2=>by omega⟩
  ·rw [uf q2,EN] at e
   obtain ⟨K,h1,h2,h3,h4⟩:=pF g f (k+1) e
   refine ⟨K,by omega,by omega,h3,fun l hl hK=>?_⟩
   rcases Nat.eq_or_lt_of_le hl with z | z
   ·rw [← z];exact q1
   ·exact h4 l z hK
theorem pG {t:SetTable} {n:Nat} (g:Good t n) (hn:n≤t.mask) (h:Int):∃ K,K<10*turns t.mask∧(pth t.mask h K).j∉t.place.toList∧∀ l,l<K→(pth t.mask h l).j∈t.place.toList:=by
 obtain ⟨j0,h0,n0⟩:=room (mask:=t.mask) (l:=t.place.toList) (by rw [Array.length_toList,g.sz];exact hn)
 have hi:bits h % (t.mask+1)≤t.mask:=Nat.le_of_lt_succ (Nat.mod_lt _ (Nat.succ_pos _))
 obtain ⟨m,hm,e⟩:=hit g.cv hi (ud h) h0
 obtain ⟨j,a,_,_⟩:=pB g (h:=h) (t.mask+14) (10*turns t.mask) (bits h % (t.mask+1)) (bits h) hi (by unfold turns;omega) ⟨m,hm,by rw [e];exact n0⟩
 obtain ⟨K,h1,h2,h3,h4⟩:=pF g (10*turns t.mask) 0 a
 exact ⟨K,by omega,h3,fun l hl=>h4 l (Nat.zero_le _) hl⟩
theorem nR {t:SetTable} {n:Nat} (g:Good t n) {j:Nat} (h:j∈t.place.toList):t.slot j=.live (below t.place j)∧t.place[below t.place j]?=some j:=by
 have e:=(iC g.ris).mpr h
 refine ⟨?_,e⟩
 unfold SetTable.slot
 dsimp only
 rw [if_pos (by rw [e];exact beq_self_eq_true _)]
theorem iW {t:SetTable} {n:Nat} (g:Good t n) {h:Int} (ha:Nat→Int) {K:Nat} (hK:(pth t.mask h K).j∉t.place.toList) (hl:∀ l,l<K→(pth t.mask h l).j∈t.place.toList):∀ (f k:Nat),k≤K→K<k+f →
  (probe.go t ha h f (pth t.mask h k)=some (.empty (pth t.mask h K).j none)∧∀ l,k≤l→l<K→ha (below t.place (pth t.mask h l).j)≠h) ∨
  ∃ m,k≤m∧m<K∧probe.go t ha h f (pth t.mask h k)=some (.candidate (pth t.mask h m).j (below t.place (pth t.mask h m).j) (pth t.mask h (m+1)))∧ha (below t.place (pth t.mask h m).j)=h∧∀ l,k≤l→l<m→ha (below t.place (pth t.mask h l).j)≠h
 | 0,k,h1,h2=>by omega
 | f+1,k,h1,h2=>by
  rcases Nat.eq_or_lt_of_le h1 with z | z
  ·subst z
   left
   refine ⟨?_,fun l a b=>by omega⟩
   rcases g.slot (pth t.mask h k).j with ⟨_,q2⟩ | ⟨q1,_⟩
   ·conv=>lhs;unfold probe.go
    rw [q2]
    dsimp only
    rw [mF]
   ·exact absurd q1 hK
  ·obtain ⟨q1,q2⟩:=nR g (hl k z)
   by_cases e:ha (below t.place (pth t.mask h k).j)=h
   ·right
    refine ⟨k,Nat.le_refl _,z,?_,e,fun l a b=>by omega⟩
    conv=>lhs;unfold probe.go
    rw [q1]
    dsimp only
    rw [if_pos (by simpa using e)]
    rfl
   ·have step:probe.go t ha h (f+1) (pth t.mask h k)=probe.go t ha h f (pth t.mask h (k+1)):=by
     conv=>lhs;unfold probe.go
     rw [q1]
     dsimp only
     rw [if_neg (by simpa using e)]
     rfl
    rw [step]
    rcases iW g ha hK hl f (k+1) z (by omega) with ⟨r1,r2⟩ | ⟨m,r1,r2,r3,r4,r5⟩
    ·refine .inl ⟨r1,fun l a b=>?_⟩
     rcases Nat.eq_or_lt_of_le a with y | y
     ·rw [← y];exact e
     ·exact r2 l y b
    ·refine .inr ⟨m,by omega,r2,r3,r4,fun l a b=>?_⟩
     rcases Nat.eq_or_lt_of_le a with y | y
     ·rw [← y];exact e
     ·exact r5 l y b
noncomputable def Rch (t:SetTable) (es:Array (Int×Value)):Prop:=∀ (e:Int×Value) (j:Nat),(e,j)∈es.toList.zip t.place.toList→∃ k,(pth t.mask e.1 k).j=j∧∀ l,l<k→(pth t.mask e.1 l).j∈t.place.toList
theorem EO {α β:Type} {xs:Array α} {ys:Array β} {i:Nat} {x:α} {y:β} (h1:xs[i]?=some x) (h2:ys[i]?=some y):(x,y)∈xs.toList.zip ys.toList:=by
 refine List.mem_iff_getElem?.mpr ⟨i,?_⟩
 rw [List.getElem?_zip_eq_some]
 exact ⟨by simpa using h1,by simpa using h2⟩
theorem Rch.ahead {t:SetTable} {es:Array (Int×Value)} (r:Rch t es) {h:Int} {K j:Nat} {x:Value} (hK:(pth t.mask h K).j∉t.place.toList) (hz:((h,x),j)∈es.toList.zip t.place.toList):∃ k,k<K∧(pth t.mask h k).j=j:=by
 obtain ⟨k,h1,h2⟩:=r (h,x) j hz
 refine ⟨k,?_,h1⟩
 rcases Nat.lt_trichotomy k K with z | z | z
 ·exact z
 ·subst z
  have h1:(pth t.mask h k).j=j:=h1
  exact absurd (h1▸(List.of_mem_zip hz).2) hK
 ·exact absurd (h2 K z) hK
theorem Rch.fresh (led:Bool):Rch (.fresh 0 0 led) #[]:=fun e j h=>by cases h
theorem rY {α β:Type} (xs:List α) (ys:List β) (p:Nat) (x:α) (y:β) (hl:xs.length=ys.length) (u:α) (v:β) (h:(u,v)∈(xs.take p++x::xs.drop p).zip (ys.take p++y::ys.drop p)):(u,v)=(x,y)∨(u,v)∈xs.zip ys:=by
 rw [List.zip_append (by rw [List.length_take,List.length_take,hl]),List.zip_cons_cons] at h
 rcases List.mem_append.mp h with h | h
 ·right
  have h':(u,v)∈(xs.zip ys).take p:=by
   unfold List.zip at h ⊢
   rw [List.take_zipWith]
   exact h
  exact List.mem_of_mem_take h'
 ·rcases List.mem_cons.mp h with h | h
  ·exact .inl h
  ·right
   have h':(u,v)∈(xs.zip ys).drop p:=by
    unfold List.zip at h ⊢
    rw [List.drop_zipWith]
    exact h
   exact List.mem_of_mem_drop h'
theorem Rch.put {t:SetTable} {es:Array (Int×Value)} (r:Rch t es) (g:Good t es.size) {h:Int} {x:Value} {K:Nat} (hl:∀ l,l<K→(pth t.mask h l).j∈t.place.toList) :
  Rch (t.put (pth t.mask h K).j).1 (insertAt es (t.put (pth t.mask h K).j).2 (h,x)):=by
 have ep:(t.put (pth t.mask h K).j).1.place.toList=t.place.toList.take (below t.place (pth t.mask h K).j)++(pth t.mask h K).j::t.place.toList.drop (below t.place (pth t.mask h K).j):=bZ _ _ _
 have old:∀ y∈t.place.toList,y∈(t.put (pth t.mask h K).j).1.place.toList:=fun y hy=>by
  rw [ep]
  have hy':y∈t.place.toList.take (below t.place (pth t.mask h K).j)++t.place.toList.drop (below t.place (pth t.mask h K).j):=by rw [List.take_append_drop];exact hy
  rcases List.mem_append.mp hy' with z | z
  ·exact List.mem_append_left _ z
  ·exact List.mem_append_right _ (List.mem_cons_of_mem _ z)
 intro e j hz
 have hm:(t.put (pth t.mask h K).j).1.mask=t.mask:=rfl
 rw [hm]
 rw [ep,bZ] at hz
 rcases rY es.toList t.place.toList _ (h,x) (pth t.mask h K).j (by rw [Array.length_toList,Array.length_toList,g.sz]) e j hz with z | z
 ·injection z with z1 z2
  subst z1 z2
  exact ⟨K,rfl,fun l hlK=>old _ (hl l hlK)⟩
 ·obtain ⟨k,h1,h2⟩:=r e j z
  exact ⟨k,h1,fun l hlk=>old _ (h2 l hlk)⟩
theorem gU {mask:Nat} {h:Int} {k0 i p:Nat} (e:pth mask h k0=mD mask i p):∀ m,m≤runEnd mask i-i→pth mask h (k0+m)={ j:=i+m,more:=runEnd mask i-i-m,i:=i,perturb:=p,dummy:=none }
 | 0,_=>e
 | m+1,hm=>by
  show adv mask (pth mask h (k0+m))=_
  rw [gU e m (by omega)]
  unfold adv
  dsimp only
  rw [if_pos (by omega)]
  congr 1
theorem yq {mask:Nat} {h:Int} {k0 i p:Nat} (e:pth mask h k0=mD mask i p):pth mask h (k0+(runEnd mask i-i)+1)=mD mask (leap mask i p).1 (leap mask i p).2:=by
 show adv mask (pth mask h (k0+(runEnd mask i-i)))=_
 rw [gU e _ (Nat.le_refl _)]
 unfold adv
 dsimp only
 rw [if_neg (by omega)]
 rfl
theorem taken {owner:Array (Option Nat)} {j:Nat} (hj:j<owner.size) (h:¬ (owner.getD j (some 0)).isNone=true):∃ v,owner[j]?=some (some v):=by
 rw [Array.getD_eq_getD_getElem?,Array.getElem?_eq_getElem hj,Option.getD_some] at h
 rw [Array.getElem?_eq_getElem hj]
 cases q:owner[j] with
 | none=>rw [q] at h;exact absurd rfl h
 | some v=>exact ⟨v,rfl⟩
theorem pH {mask:Nat} {owner:Array (Option Nat)} {h:Int} (hs:owner.size=mask+1):∀ (fuel i p k0 j:Nat),pth mask h k0=mD mask i p→i≤mask→layClean.free mask owner fuel i p=some j→∃ K,k0≤K∧(pth mask h K).j=j∧j≤mask∧owner[j]?=some none∧∀ l,k0≤l→l<K→∃ v,owner[(pth mask h l).j]?=some (some v)
 | 0,i,p,k0,j,_,_,e=>by unfold layClean.free at e;cases e
 | fuel+1,i,p,k0,j,hp,hi,e=>by
  have hr:i≤runEnd mask i∧runEnd mask i≤mask:=by
   unfold runEnd
   split<;>omega
  unfold layClean.free at e
  cases hf:(List.range (runEnd mask i+1-i)).find? fun k=>(owner.getD (i+k) (some 0)).isNone with
  | some k=>
   rw [hf] at e
   dsimp only at e
   cases e
   obtain ⟨f1,f2,f3⟩:=List.find?_range_eq_some.mp hf
   have f2:=List.mem_range.mp f2
   refine ⟨k0+k,by omega,by rw [gU hp k (by omega)],by omega,?_,fun l h1 h2=>?_⟩
   ·have hlt:i+k<owner.size:=by omega
    rw [Array.getD_eq_getD_getElem?,Array.getElem?_eq_getElem hlt,Option.getD_some] at f1
    rw [Array.getElem?_eq_getElem hlt]
    exact congrArg some (Option.isNone_iff_eq_none.mp f1)
   ·have el:l=k0+(l-k0):=by omega
    rw [el,gU hp (l-k0) (by omega)]
    refine taken (by show i+(l-k0)<_;omega) fun z=>?_
    have z':(owner.getD (i+(l-k0)) (some 0)).isNone=true:=z
    have t:=f3 (l-k0) (by omega)
    rw [z'] at t
    cases t
  | none=>
   rw [hf] at e
   dsimp only at e
   have all:=List.find?_eq_none.mp hf
   obtain ⟨K,q1,q2,q3,q4,q5⟩:=pH hs fuel (leap mask i p).1 (leap mask i p).2 _ j (yq hp) (pA mask 1 (i,p) hi) e
   refine ⟨K,by omega,q2,q3,q4,fun l h1 h2=>?_⟩
   rcases Nat.lt_or_ge l (k0+(runEnd mask i-i)+1) with z | z
   ·have el:l=k0+(l-k0):=by omega
    rw [el,gU hp (l-k0) (by omega)]
    exact taken (by show i+(l-k0)<_;omega) (all (l-k0) (List.mem_range.mpr (by omega)))
   ·exact q5 l z h2
noncomputable def ROw (mask:Nat) (H:List Int) (owner:Array (Option Nat)):Prop:=∀ j idx:Nat,owner[j]?=some (some idx)→∃ h k,H[idx]?=some h∧(pth mask h k).j=j∧∀ l,l<k→∃ v,owner[(pth mask h l).j]?=some (some v)
theorem mG {mask:Nat}:∀ hs:List Int,hs.foldl (fun acc h=>do
   let (owner,k) ← acc
   let j ← layClean.free mask owner (turns mask) (bits h % (mask+1)) (bits h)
   pure (owner.setIfInBounds j (some k),k+1)) (none:Option (Array (Option Nat)×Nat))=none
 | []=>rfl
 | h::hs=>mG hs
theorem uo {mask:Nat} {H:List Int}:∀ (hs:List Int) (owner owner':Array (Option Nat)) (k m:Nat),H.drop k=hs→owner.size=mask+1→ROw mask H owner→hs.foldl (fun acc h=>do
   let (owner,k) ← acc
   let j ← layClean.free mask owner (turns mask) (bits h % (mask+1)) (bits h)
   pure (owner.setIfInBounds j (some k),k+1)) (some (owner,k))=some (owner',m)→ROw mask H owner'
 | [],owner,owner',k,m,_,_,r,e=>by cases e;exact r
 | h::hs,owner,owner',k,m,hd,sz,r,e=>by
  rw [List.foldl_cons] at e
  cases q:layClean.free mask owner (turns mask) (bits h % (mask+1)) (bits h) with
  | none=>
   have:(do
    let (owner,k) ← some (owner,k)
    let j ← layClean.free mask owner (turns mask) (bits h % (mask+1)) (bits h)
    pure (owner.setIfInBounds j (some k),k+1):Option (Array (Option Nat)×Nat))=none:=by
    show (layClean.free mask owner (turns mask) (bits h % (mask+1)) (bits h)).bind _=none
    rw [q]
    rfl
   rw [this,mG] at e
   cases e
  | some j=>
   have this:(do
    let (owner,k) ← some (owner,k)
    let j ← layClean.free mask owner (turns mask) (bits h % (mask+1)) (bits h)
    pure (owner.setIfInBounds j (some k),k+1):Option (Array (Option Nat)×Nat))=some (owner.setIfInBounds j (some k),k+1):=by
    show (layClean.free mask owner (turns mask) (bits h % (mask+1)) (bits h)).bind _=_
    rw [q]
    rfl
   rw [this] at e
   have hk:H[k]?=some h:=by
    have:=congrArg (fun l=>l[0]?) hd
    simpa using this
   obtain ⟨K,q1,q2,q3,q4,q5⟩:=pH (h:=h) sz (turns mask) _ _ 0 j rfl (Nat.le_of_lt_succ (Nat.mod_lt _ (Nat.succ_pos _))) q
   have jl:j<owner.size:=by omega
   have keep:∀ x v,owner[x]?=some (some v)→(owner.setIfInBounds j (some k))[x]?=some (some v):=fun x v hx=>by
    rw [Array.getElem?_setIfInBounds]
    split
    ·rename_i z
     rw [← z,q4] at hx
     cases hx
    ·exact hx
   refine uo hs _ owner' (k+1) m ?_ (by rw [Array.size_setIfInBounds];exact sz) (fun x idx hx=>?_) e
   ·rw [← List.drop_drop,Nat.add_comm] at *
    first | (rw [hd];rfl) | (have:=congrArg (List.drop 1) hd;simpa using this)
   ·rw [Array.getElem?_setIfInBounds] at hx
    split at hx
    ·rename_i z
     subst z
     cases hx
     refine ⟨h,K,hk,q2,fun l hl=>?_⟩
     obtain ⟨v,hv⟩:=q5 l (Nat.zero_le _) hl
     exact ⟨v,keep _ _ hv⟩
    ·obtain ⟨h',k',r1,r2,r3⟩:=r x idx hx
     exact ⟨h',k',r1,r2,fun l hl=>by obtain ⟨v,hv⟩:=r3 l hl;exact ⟨v,keep _ _ hv⟩⟩
theorem pI {es:Array (Int×Value)} {e:Int×Value} {j:Nat}:∀ (L:List (Nat×Nat)),(∀ q∈L,∃ e,es[q.2]?=some e)→(e,j)∈((L.map (·.2)).filterMap (es[·]?)).zip (L.map (·.1))→∃ idx,(j,idx)∈L∧es[idx]?=some e
 | [],_,h=>by cases h
 | q::L,ok,h=>by
  obtain ⟨e0,h0⟩:=ok q List.mem_cons_self
  rw [List.map_cons,List.map_cons,List.filterMap_cons,h0] at h
  rcases List.mem_cons.mp h with z | z
  ·injection z with z1 z2
   subst z1 z2
   exact ⟨q.2,List.mem_cons_self,h0⟩
  ·obtain ⟨idx,h1,h2⟩:=pI L (fun q hq=>ok q (List.mem_cons_of_mem _ hq)) z
   exact ⟨idx,List.mem_cons_of_mem _ h1,h2⟩
theorem vX {t:SetTable} {es:Array (Int×Value)} {wanted:Nat} (c:Cov (sizeAbove wanted-1)) (hn:es.size≤sizeAbove wanted-1) (pl:t.plain=true) :
  ∃ t' order,t.relaid (es.map (·.1)) wanted=some (t',order)∧(order.filterMap (es[·]?)).size=es.size∧Good t' es.size∧t'.mask=sizeAbove wanted-1∧t'.led=t.led∧(order.filterMap (es[·]?)).toList.Perm es.toList∧Rch t' (order.filterMap (es[·]?)):=by
 obtain ⟨t',order,q1,q2,q3,q4,q5,q6,q7,q8,q9⟩:=nN (finger:=t.finger) (moves:=t.movedTo (sizeAbove wanted-1)) (led:=t.led) (plain:=t.plain) (hashes:=es.map (·.1)) c (by rw [Array.size_map];exact hn)
 rw [Array.size_map] at q8 q9
 have pe:(order.filterMap (es[·]?)).toList.Perm es.toList:=by
  rw [Array.toList_filterMap]
  refine (q9.filterMap _).trans (.of_eq ?_)
  have:∀ l:List (Int×Value),(List.range l.length).filterMap (fun i=>l[i]?)=l:=fun l=>by
   induction l with
   | nil=>rfl
   | cons x l ih=>
    rw [List.length_cons,List.range_succ_eq_map,List.filterMap_cons]
    show x::_=_
    rw [List.filterMap_map]
    congr 1
  have h2:=this es.toList
  simpa using h2
 refine ⟨t',order,q1,by rw [← Array.length_toList,pe.length_eq,Array.length_toList],⟨q5,q4.trans pl,by rw [q2];exact c,q6,by rw [q2];exact q7,q8⟩,q2,q3,pe,?_⟩
 obtain ⟨owner,f1,f2,f3⟩:=jM c (es.map (·.1)).toList (Array.replicate (sizeAbove wanted-1+1) none) 0 (by simp) (by
  have:lay (sizeAbove wanted-1) (Array.replicate (sizeAbove wanted-1+1) none)=[]:=by
   unfold lay
   rw [List.filterMap_eq_nil_iff]
   intro j hj
   unfold ow
   rw [Array.getD_eq_getD_getElem?,Array.getElem?_replicate]
   split<;>rfl
  rw [this]
  exact .refl _) (by rw [Array.length_toList,Array.size_map];omega)
 have ro:ROw (sizeAbove wanted-1) (es.map (·.1)).toList owner:=uo (H:=(es.map (·.1)).toList) _ _ _ 0 _ rfl (by simp) (fun j idx h=>by
  rw [Array.getElem?_replicate] at h
  split at h<;>cases h) f1
 have lc:layClean (sizeAbove wanted-1) (es.map (·.1))=some owner:=by
  unfold layClean
  rw [← Array.foldl_toList,f1]
  rfl
 unfold laid at q1
 rw [lc] at q1
 cases q1
 intro e j hz
 have HP:∀ x v,owner[x]?=some (some v)→x∈((List.range (sizeAbove wanted-1+1)).filterMap fun j=>(owner.getD j none).map (j,·)).map (·.1):=fun x v hx=>by
  have hlt:=(Array.getElem?_eq_some_iff.mp hx).1
  refine List.mem_map.mpr ⟨(x,v),List.mem_filterMap.mpr ⟨x,List.mem_range.mpr (by omega),?_⟩,rfl⟩
  rw [Array.getD_eq_getD_getElem?,hx]
  rfl
 have own:∀ q∈(List.range (sizeAbove wanted-1+1)).filterMap fun j=>(owner.getD j none).map (j,·),owner[q.1]?=some (some q.2):=fun q hq=>by
  obtain ⟨x,hx,ex⟩:=List.mem_filterMap.mp hq
  have hlt:x<owner.size:=by have:=List.mem_range.mp hx;omega
  rw [Array.getD_eq_getD_getElem?,Array.getElem?_eq_getElem hlt,Option.getD_some] at ex
  cases y:owner[x] with
  | none=>rw [y] at ex;cases ex
  | some v=>
   rw [y] at ex
   cases ex
   show owner[x]?=some (some v)
   rw [Array.getElem?_eq_getElem hlt,y]
 have hash:∀ idx h,(es.map (·.1)).toList[idx]?=some h→∃ x,es[idx]?=some (h,x):=fun idx h hx=>by
  rw [Array.getElem?_toList,Array.getElem?_map] at hx
  cases y:es[idx]? with
  | none=>rw [y] at hx;cases hx
  | some p=>
   rw [y] at hx
   cases hx
   exact ⟨p.2,y⟩
 rw [Array.toList_filterMap] at hz
 obtain ⟨idx,g1,g2⟩:=pI _ (fun q hq=>by
  obtain ⟨h,k,r1,_⟩:=ro q.1 q.2 (own q hq)
  obtain ⟨x,hx⟩:=hash _ _ r1
  exact ⟨_,hx⟩) hz
 obtain ⟨h,k,r1,r2,r3⟩:=ro j idx (own _ g1)
 obtain ⟨x,hx⟩:=hash _ _ r1
 rw [g2] at hx
 cases hx
 refine ⟨k,r2,fun l hl=>?_⟩
 obtain ⟨v,hv⟩:=r3 l hl
 exact HP _ v hv
section
variable {prog:Program} {w:World} {A:Around} {E:Value→Shared→Prop} {s:Shared} {ks:List Int} {a:Addr}
theorem ints_in {items:Array Value}:∀ {ks:List Int} {l:List Value},ItemsAre (intKind prog w) ks l→∀ v∈l,∃ n t,v=Value.int n t:=fun {ks l} h=>by
 induction h with
 | nil=>intro v hv;cases hv
 | cons h1 _ ih=>
  intro v hv
  rcases List.mem_cons.mp hv with rfl | hv
  ·obtain ⟨t,e⟩:=Value.isInt_shape h1
   exact ⟨_,t,e⟩
  ·exact ih v hv
theorem pJ {Q:Bool→Shared→Prop} (hk:IsTupleKey (intKind prog w) s.heap ks a) (h:Q false s):wpAny (model prog w) A (ofAClassStatement 8 (.ref a)) Q E s:=by
 have hT:=hk.typeIs
 obtain ⟨o,items,n,ho,_,hd,hi⟩:=hk
 unfold ofAClassStatement
 refine wpAny_bind (wpAny_typeOf hT ?_)
 dsimp only
 refine wpAny_bind (wpAny_pure ?_)
 simp only [Bool.not_true,Bool.false_eq_true,if_false]
 refine wpAny_bind (wpAny_seqItems ho hd (wpAny_bind ?_))
 show wpAny _ _ (forIn items _ _) _ _ s
 rw [← Array.forIn_toList]
 refine wpAny_forIn_list _ (fun rest r s'=>r.1=none∧s'=s∧∀ v∈rest,∃ n t,v=Value.int n t) _ ?_ ?_ _ _ ⟨rfl,rfl,ints_in (items:=items) hi⟩
 ·rintro v rest r s' ⟨hr,rfl,hall⟩
  obtain ⟨m,t,rfl⟩:=hall v List.mem_cons_self
  refine wpAny_bind (wpAny_pure (a:=false) (wpAny_pure ⟨rfl,rfl,fun u hu=>hall u (List.mem_cons_of_mem _ hu)⟩))
 ·rintro ⟨r1,r2⟩ s' ⟨hr,rfl,_⟩
  simp only at hr
  subst hr
  exact wpAny_pure h
theorem yr {Q:Bool→Shared→Prop} (hk:IsTupleKey (intKind prog w) s.heap ks a) (h:Q true s):wpAny (model prog w) A (hashByValue 8 (.ref a)) Q E s:=by
 have hT:=hk.typeIs
 obtain ⟨o,items,n,ho,_,hd,hi⟩:=hk
 unfold hashByValue
 refine wpAny_bind (wpAny_specialOf hT PySem.F.slot_tuple_hash.lookup ?_)
 dsimp only
 refine wpAny_bind (wpAny_seqItems ho hd (wpAny_bind ?_))
 show wpAny _ _ (forIn items _ _) _ _ s
 rw [← Array.forIn_toList]
 refine wpAny_forIn_list _ (fun rest r s'=>r.1=none∧s'=s∧∀ v∈rest,∃ n t,v=Value.int n t) _ ?_ ?_ _ _ ⟨rfl,rfl,ints_in (items:=items) hi⟩
 ·rintro v rest r s' ⟨hr,rfl,hall⟩
  obtain ⟨m,t,rfl⟩:=hall v List.mem_cons_self
  refine wpAny_bind (wpAny_pure (a:=true) (wpAny_pure ⟨rfl,rfl,fun u hu=>hall u (List.mem_cons_of_mem _ hu)⟩))
 ·rintro ⟨r1,r2⟩ s' ⟨hr,rfl,_⟩
  simp only at hr
  subst hr
  exact wpAny_pure h
theorem ER {stored:List Value} {Q:Bool→Shared→Prop} (hk:IsTupleKey (intKind prog w) s.heap ks a) (hs:∀ v∈stored,∃ ks b,v=.ref b∧IsTupleKey (intKind prog w) s.heap ks b) (h:Q false s):wpAny (model prog w) A (searchCouldBeSeen (.ref a) stored) Q E s:=by
 unfold searchCouldBeSeen
 refine wpAny_bind ?_
 refine wpAny_forIn_list _ (fun rest r s'=>r.1=none∧s'=s∧∀ v∈rest,∃ ks b,v=.ref b∧IsTupleKey (intKind prog w) s.heap ks b) _ ?_ ?_ _ _ ⟨rfl,rfl,hs⟩
 ·rintro v rest r s' ⟨hr,rfl,hall⟩
  obtain ⟨ks',b,rfl,hb⟩:=hall v List.mem_cons_self
  have next:∀ u∈rest,∃ ks b,u=.ref b∧IsTupleKey (intKind prog w) s'.heap ks b:=fun u hu=>hall u (List.mem_cons_of_mem _ hu)
  dsimp only
  by_cases e:a=b
  ·subst e
   simp only [beq_self_eq_true,Bool.true_or,if_true]
   exact wpAny_pure ⟨rfl,rfl,next⟩
  ·have e':(a == b)=false:=beq_eq_false_iff_ne.mpr e
   simp only [e',carriedByValue,Bool.false_and,Bool.or_false,Bool.false_eq_true,if_false]
   refine wpAny_bind (wpAny_eqIsQuiet_tuple hk ?_)
   simp only [Bool.not_true,Bool.false_eq_true,if_false]
   refine wpAny_bind (wpAny_eqIsQuiet_tuple hb ?_)
   simp only [Bool.not_true,Bool.false_eq_true,if_false]
   refine wpAny_bind (pJ hk ?_)
   simp only [Bool.false_eq_true,if_false]
   refine wpAny_bind (pJ hb ?_)
   simp only [Bool.false_eq_true,if_false]
   exact wpAny_pure ⟨rfl,rfl,next⟩
 ·rintro ⟨r1,r2⟩ s' ⟨hr,rfl,_⟩
  simp only at hr
  subst hr
  exact wpAny_pure h
end
noncomputable def HQ (prog:Program) (w:World) (h:Heap) (es:Array (Int×Value)):Prop:=∀ e∈es.toList,∃ ks b,e=(tupleKeyHash (intKind prog w) ks,Value.ref b)∧IsTupleKey (intKind prog w) h ks b
section
variable {prog:Program} {w:World} {A:Around} {E:Value→Shared→Prop} {s:Shared} {ks:List Int} {a b:Addr} {es:Array (Int×Value)} {ep:Nat} {t:SetTable}
theorem uq {Q:SetFound→Shared→Prop} {K:Nat} {h:Int} (hh:tupleKeyHash (intKind prog w) ks=h) (hu:A.units<cLine) (x1:bM s.heap a es ep t) (g:Good t es.size) (hm:es.size≤t.mask) (odd:t.mask % 2=1) (hE:HQ prog w s.heap es) (hx:IsTupleKey (intKind prog w) s.heap ks b)
  (hK:(pth t.mask h K).j∉t.place.toList) (hl:∀ l,l<K→(pth t.mask h l).j∈t.place.toList) (hT:K<10*turns t.mask)
  (there:(∃ c,(h,Value.ref c)∈es.toList∧IsTupleKey (intKind prog w) s.heap ks c)→Q (.there none) s)
  (free:(∀ l c ks',l<K→es[below t.place (pth t.mask h l).j]?=some (h,Value.ref c)→IsTupleKey (intKind prog w) s.heap ks' c→ks'≠ks)→Q (.free (pth t.mask h K).j false) s) :
  ∀ (fuel k:Nat) (stand:Option Probe),stand.getD (t.probeStart h)=pth t.mask h k→k≤K→K<k+fuel →
   (∀ l c ks',l<k→es[below t.place (pth t.mask h l).j]?=some (h,Value.ref c)→IsTupleKey (intKind prog w) s.heap ks' c→ks'≠ks) →
   wpAny (model prog w) A (setSearchFrom a (.ref b) h true fuel stand) Q E s
 | 0,k,stand,_,h1,h2,_=>by omega
 | fuel+1,k,stand,hs,h1,h2,no=>by
  unfold setSearchFrom
  refine wpAny_bind (br x1 g hm ?_)
  dsimp only
  have gw:t.gaveWay=false:=by
   unfold SetTable.gaveWay
   rw [odd]
   rfl
  rw [gw]
  simp only [Bool.false_eq_true,if_false]
  rw [hs]
  rcases iW g (fun i=>(es[i]?.map (·.1)).getD 0) hK hl (10*turns t.mask) k h1 (by omega) with ⟨r1,r2⟩ | ⟨m,r1,r2,r3,r4,r5⟩
  ·have r1':t.probe (fun i=>(es[i]?.map (·.1)).getD 0) h (pth t.mask h k)=some (.empty (pth t.mask h K).j none):=r1
   erw [r1']
   dsimp only
   refine wpAny_pure (free fun l c ks' lK hc hk=>?_)
   rcases Nat.lt_or_ge l k with z | z
   ·exact no l c ks' z hc hk
   ·have:=r2 l z lK
    rw [hc] at this
    exact absurd rfl this
  ·have r3':t.probe (fun i=>(es[i]?.map (·.1)).getD 0) h (pth t.mask h k)=some (.candidate (pth t.mask h m).j (below t.place (pth t.mask h m).j) (pth t.mask h (m+1))):=r3
   erw [r3']
   dsimp only
   obtain ⟨lv,lp⟩:=nR g (hl m r2)
   have ilt:below t.place (pth t.mask h m).j<es.size:=by
    have:=(Array.getElem?_eq_some_iff.mp lp).1
    rw [g.sz] at this
    exact this
   have ei:es[below t.place (pth t.mask h m).j]?=some es[below t.place (pth t.mask h m).j]:=Array.getElem?_eq_getElem ilt
   obtain ⟨kc,c,ec,hc⟩:=hE _ (Array.getElem_mem_toList ilt)
   rw [ec] at ei
   rw [ei] at r4
   have r4:tupleKeyHash (intKind prog w) kc=h:=r4
   rw [r4] at ei
   have quiet:∀ v∈((es.filter (·.1 == h)).toList.map (·.2)),∃ ks b,v=Value.ref b∧IsTupleKey (intKind prog w) s.heap ks b:=fun v hv=>by
    obtain ⟨e,he,rfl⟩:=List.mem_map.mp hv
    rw [Array.toList_filter] at he
    obtain ⟨k',b',e1,e2⟩:=hE e (List.mem_filter.mp he).1
    exact ⟨k',b',by rw [e1],e2⟩
   have main:wpAny (model prog w) A (do
     let some (_,y):=es[below t.place (pth t.mask h m).j]? | unsupported "internal:set-entry"
     let equal ← holding [y] (eqBool y (.ref b))
     let (es',_,t') ← setState a
     if true&&equal then return .there none
     let some same:=t'.sameMemory t.moves t.mask | unsupported "set.changed-during-lookup:is-the-new-block-at-the-old-address"
     let HR ← match (if same then t'.slot (pth t.mask h m).j else .empty) with
      | .live i'=>match es'[i']? with
       | some (_,y')=>do pure (if ← isSame y' y then some i' else none)
       | none=>pure none
      | _=>pure none
     match HR with
     | none=>rule "set.search.anew";setSearchFrom a (.ref b) h true fuel none
     | some i'=>if equal then return .there (some i') else setSearchFrom a (.ref b) h true fuel (some (pth t.mask h (m+1)))) Q E s:=by
    rw [ei]
    dsimp only
    refine wpAny_bind (wpAny_holding ((tupleKind (intKind prog w)).eqBool hu hc hx ?_))
    refine wpAny_bind (br x1 g hm ?_)
    dsimp only
    by_cases eq:kc=ks
    ·subst eq
     simp only [decide_true,Bool.and_self,if_true]
     refine wpAny_pure (there ⟨c,?_,hc⟩)
     have:=Array.getElem_mem_toList ilt
     rw [ec,r4] at this
     exact this
    ·rw [decide_eq_false eq]
     simp only [Bool.and_false,Bool.false_eq_true,if_false]
     have sm:t.sameMemory t.moves t.mask=some true:=by
      unfold SetTable.sameMemory
      simp
     rw [sm]
     dsimp only
     simp only [if_true]
     rw [lv]
     dsimp only
     rw [ei]
     dsimp only
     refine wpAny_bind (wpAny_isSame_ref_self (wpAny_bind (wpAny_pure ?_)))
     simp only [if_true]
     refine uq hh hu x1 g hm odd hE hx hK hl hT there free fuel (m+1) _ rfl (by omega) (by omega) fun l c' ks' hlm hc' hk'=>?_
     rcases Nat.lt_or_ge l k with z | z
     ·exact no l c' ks' z hc' hk'
     ·rcases Nat.lt_or_ge l m with y | y
      ·have:=r5 l z y
       rw [hc'] at this
       exact absurd rfl this
      ·cases (show l=m by omega)
       rw [ei] at hc'
       cases hc'
       intro q
       subst q
       exact eq ((tupleKind (intKind prog w)).inj hc hk')
   cases Bd:t.led with
   | true=>
    simp only [Bool.not_true,Bool.false_eq_true,if_false]
    exact main
   | false=>
    simp only [Bool.not_false,if_true]
    refine wpAny_bind (ER hx quiet ?_)
    simp only [Bool.false_eq_true,if_false]
    exact main
end
theorem yt (mask i:Nat) (h:i≤mask):i+(runEnd mask i-i)≤mask:=by
 unfold runEnd
 split<;>omega
theorem yu (mask:Nat) (h:Int):∀ k,(pth mask h k).j+(pth mask h k).more≤mask
 | 0=>yt mask _ (Nat.le_of_lt_succ (Nat.mod_lt _ (Nat.succ_pos _)))
 | k+1=>by
  have ih:=yu mask h k
  show (adv mask (pth mask h k)).j+(adv mask (pth mask h k)).more≤mask
  unfold adv
  split
  ·dsimp only
   omega
  ·exact yt mask _ (by unfold leap;exact Nat.le_of_lt_succ (Nat.mod_lt _ (Nat.succ_pos mask)))
noncomputable abbrev hsh (prog:Program) (w:World) (ks:List Int):Int:=tupleKeyHash (intKind prog w) ks
noncomputable def itm (prog:Program) (w:World) (q:List Int×Addr):Int×Value:=(hsh prog w q.1,Value.ref q.2)
noncomputable def SetT (prog:Program) (w:World) (h:Heap) (a:Addr) (P:List (List Int×Addr)):Prop:=(∃ es ep t,bM h a es ep t∧Good t es.size∧Rch t es∧Small t es.size∧(t.led=!w.params.followText "set-order")∧es.toList.Perm (P.map (itm prog w)))∧∀ q∈P,IsTupleKey (intKind prog w) h q.1 q.2
theorem dB {prog:Program} {w:World} {h h':Heap} {ks:List Int} {c:Addr} (x:IsTupleKey (intKind prog w) h ks c) (e:∀ o,h.get? c=some o→h'.get? c=some o):IsTupleKey (intKind prog w) h' ks c:=
 let ⟨o,items,n,ho,r⟩:=x
 ⟨o,items,n,e o ho,r⟩
theorem apart {prog:Program} {w:World} {h:Heap} {ks:List Int} {a c:Addr} {es ep t} (x:bM h a es ep t) (y:IsTupleKey (intKind prog w) h ks c):c≠a:=fun z=>by
 subst z
 obtain ⟨o,ho,hex,_⟩:=x
 obtain ⟨o',items,n,ho',hc,_⟩:=y
 rw [ho] at ho'
 cases ho'
 have:=hex.1
 rw [hc] at this
 exact absurd this (by decide)
section
variable {prog:Program} {w:World} {A:Around} {E:Value→Shared→Prop} {s:Shared} {ks:List Int} {a b:Addr} {P:List (List Int×Addr)}
theorem Be {Q:Bool→Shared→Prop} (hu:A.units<cLine) (x:SetT prog w s.heap a P) (hx:IsTupleKey (intKind prog w) s.heap ks b) (hn:P.length+1≤76)
  (h1:(∃ q∈P,q.1=ks)→Q false s) (h2:(∀ q∈P,q.1≠ks)→∀ h',Heap.SameBut a s.heap h'→SetT prog w h' a (P++[(ks,b)])→Q true { s with heap:=h' }) :
  wpAny (model prog w) A (setAddHashed a (.ref b) (hsh prog w ks)) Q E s:=by
 obtain ⟨⟨es,ep,t,x1,g,rc,sm,hl,hp⟩,hk⟩:=x
 obtain ⟨o,ho,hex,hd⟩:=id x1
 have hlen:es.size=P.length:=by rw [← Array.length_toList,hp.length_eq,List.length_map]
 have hE:HQ prog w s.heap es:=fun e he=>by
  obtain ⟨q,hq,rfl⟩:=List.mem_map.mp (hp.mem_iff.mp he)
  exact ⟨q.1,q.2,rfl,hk q hq⟩
 have odd:t.mask % 2=1:=by rcases sm with ⟨q,_⟩ | ⟨q,_⟩ | ⟨q,_⟩<;>rw [q]
 obtain ⟨K,k1,k2,k3⟩:=pG g sm.le (hsh prog w ks)
 have hT:10*turns t.mask≤100000:=by
  unfold turns
  rcases sm with ⟨q,_⟩ | ⟨q,_⟩ | ⟨q,_⟩<;>rw [q]<;>decide
 unfold setAddHashed setAddHashedIn
 refine wpAny_holding (wpAny_bind (br x1 g sm.le ?_))
 dsimp only
 have bs:byScan (Value.ref b) es=false:=rfl
 rw [bs]
 simp only [Bool.false_eq_true,if_false]
 unfold setSearch
 refine wpAny_bind (uq (K:=K) rfl hu x1 g sm.le odd hE hx k2 k3 k1 (fun ⟨c,hc,hkc⟩=>?th) (fun free=>?fr) 100000 0 none rfl (Nat.zero_le _) (by omega) fun l c ks' hl0=>by omega)
 case th=>
  dsimp only
  refine wpAny_pure (h1 ?_)
  obtain ⟨q,hq,e⟩:=List.mem_map.mp (hp.mem_iff.mp hc)
  unfold itm at e
  injection e with e1 e2
  injection e2 with e2
  refine ⟨q,hq,(tupleKind (intKind prog w)).inj (hk q hq) (e2▸hkc)⟩
 case fr=>
  dsimp only
  have new:∀ q∈P,q.1≠ks:=fun q hq e=>by
   have hm:=hp.mem_iff.mpr (List.mem_map.mpr ⟨q,hq,rfl⟩)
   obtain ⟨i,hi,ei⟩:=List.getElem_of_mem hm
   have hi':i<es.size:=by rw [← Array.length_toList];exact hi
   have e1:es[i]?=some (itm prog w q):=by rw [Array.getElem?_eq_getElem hi'];exact congrArg some (by simpa using ei)
   have hip:i<t.place.size:=by rw [g.sz];exact hi'
   have e2:t.place[i]?=some t.place[i]:=Array.getElem?_eq_getElem hip
   unfold itm at e1
   rw [e] at e1
   obtain ⟨l,lK,el⟩:=rc.ahead k2 (EO e1 e2)
   have mem:(pth t.mask (hsh prog w ks) l).j∈t.place.toList:=k3 l lK
   obtain ⟨_,lv⟩:=nR g mem
   have ii:below t.place (pth t.mask (hsh prog w ks) l).j=i:=by
    rw [el] at lv ⊢
    have b1:=(Array.getElem?_eq_some_iff.mp lv).1
    have b2:=(Array.getElem?_eq_some_iff.mp lv).2
    rcases Nat.lt_trichotomy (below t.place t.place[i]) i with z | z | z
    ·have:=List.pairwise_iff_getElem.mp g.ris _ _ (by simpa using b1) (by simpa using hip) z
     simp only [Array.getElem_toList] at this
     omega
    ·exact z
    ·have:=List.pairwise_iff_getElem.mp g.ris _ _ (by simpa using hip) (by simpa using b1) z
     simp only [Array.getElem_toList] at this
     omega
   exact free l q.2 ks lK (by rw [ii];exact e1) (e▸hk q hq) rfl
  refine wpAny_bind (br x1 g sm.le ?_)
  dsimp only
  obtain ⟨g1,m1,l1⟩:=rT g (by have:=yu t.mask (hsh prog w ks) K;omega) k2
  have rc1:=rc.put g (x:=Value.ref b) k3
  generalize hes:insertAt es (t.put (pth t.mask (hsh prog w ks) K).j).2 (hsh prog w ks,Value.ref b)=es1 at *
  have p1:es1.toList.Perm (es.toList++[(hsh prog w ks,Value.ref b)]):=by
   rw [← hes,bZ]
   refine List.Perm.trans List.perm_middle ?_
   rw [List.take_append_drop]
   exact (List.perm_append_singleton _ _).symm
  have z1:es1.size=es.size+1:=by rw [← Array.length_toList,p1.length_eq,List.length_append,Array.length_toList];rfl
  generalize hpt:(t.put (pth t.mask (hsh prog w ks) K).j).1=t1 at *
  rw [← z1] at g1
  have CF:es1.toList.Perm ((P++[(ks,b)]).map (itm prog w)):=by
   rw [List.map_append]
   exact p1.trans (hp.append (.refl _))
  rw [if_pos g1.pl]
  refine wpAny_bind (yr hx ?_)
  simp only [if_true]
  refine wpAny_bind (wpAny_storeSet_of ho hd ?_ (fits_of_scanBound (by show es1.size<4096;omega)))
  have x2:bM (s.heap.update a (Obj.putSet es1 t1)) a es1 (ep+1) t1:=pD x1
  have sb:=Heap.SameBut.update s.heap a (Obj.putSet es1 t1)
  have keys:∀ h',Heap.SameBut a s.heap h'→∀ q∈P++[(ks,b)],IsTupleKey (intKind prog w) h' q.1 q.2:=fun h' sb q hq=>by
   rcases List.mem_append.mp hq with z | z
   ·exact dB (hk q z) fun o e=>(sb.2 _ (apart x1 (hk q z))).trans e
   ·rw [List.mem_singleton.mp z]
    exact dB hx fun o e=>(sb.2 _ (apart x1 hx)).trans e
  have tf:t1.tooFull=decide ((es.size+1)*5≥t.mask*3):=by
   unfold SetTable.tooFull SetTable.fill
   rw [g1.dm,g1.sz,z1,m1]
   rfl
  by_cases full:(es.size+1)*5≥t.mask*3
  ·rw [tf,decide_eq_true full]
   simp only [Bool.not_false,Bool.and_self,if_true]
   obtain ⟨M,wn,ns,cv,lM,sm2⟩:∃ M,SetTable.sizeAbove (SetTable.grown (es.size+1))-1=M∧¬ SetTable.sizeAbove (SetTable.grown (es.size+1))>sizeLine∧Cov M∧es1.size≤M∧((M=31∧es1.size≤18)∨(M=127∧es1.size≤76)):=by
    rcases sm with ⟨q1,q2⟩ | ⟨q1,q2⟩ | ⟨q1,q2⟩
    ·have:es.size=4:=by omega
     exact ⟨31,by rw [this];decide +kernel,by rw [this];decide +kernel,HN,by omega,.inl ⟨rfl,by omega⟩⟩
    ·have:es.size=18:=by omega
     exact ⟨127,by rw [this];decide +kernel,by rw [this];decide +kernel,EM,by omega,.inr ⟨rfl,by omega⟩⟩
    ·omega
   obtain ⟨t2,order,r1,r2,r3,r4,r5,r6,r7⟩:=vX (t:=t1) (es:=es1) (wanted:=SetTable.grown (es.size+1)) (by rw [wn];exact cv) (by rw [wn];omega) g1.pl
   refine wpAny_bind ?_
   unfold setRelay
   refine wpAny_bind (br (s:={ s with heap:=s.heap.update a (Obj.putSet es1 t1) }) x2 g1 (by rw [m1];rcases sm with ⟨a,b⟩ | ⟨a,b⟩ | ⟨a,b⟩<;>omega) ?_)
   dsimp only
   rw [if_neg ns]
   refine wpAny_bind (wpAny_of_eq (a:=(order.filterMap (es1[·]?),t2)) ?_ ?_)
   ·rw [r1]
    show (if ((order.filterMap (es1[·]?)).size != es1.size)=true then _ else _)=_
    rw [r2]
    simp
   ·obtain ⟨o2,ho2,hex2,hd2⟩:=id x2
    dsimp only
    refine wpAny_storeSet_of ho2 hd2 ?_ (by rw [r2];exact fits_of_scanBound (by show es1.size<4096;omega))
    have sb2:=sb.trans (Heap.SameBut.update (s.heap.update a (Obj.putSet es1 t1)) a (Obj.putSet (order.filterMap (es1[·]?)) t2))
    refine wpAny_pure (h2 new _ sb2 ⟨⟨_,_,t2,pD x2,by rw [r2];exact r3,r7,?_,by rw [r5,l1,hl],r6.trans CF⟩,keys _ sb2⟩)
    rw [r2]
    exact .inr (by rw [r4,wn];exact sm2)
  ·rw [tf,decide_eq_false full]
   simp only [Bool.and_false,Bool.false_eq_true,if_false]
   refine wpAny_pure (h2 new _ sb ⟨⟨es1,ep+1,t1,x2,g1,rc1,?_,by rw [l1,hl],CF⟩,keys _ sb⟩)
   unfold Small
   rw [m1]
   rcases sm with ⟨q1,q2⟩ | ⟨q1,q2⟩ | ⟨q1,q2⟩
   ·exact .inl ⟨q1,by omega⟩
   ·exact .inr (.inl ⟨q1,by omega⟩)
   ·exact .inr (.inr ⟨q1,by omega⟩)
end
open PySem PySem.SetTable PySem.W PyProof.Rows
noncomputable def cL (P:List (List Int×Addr)) (q:List Int×Addr):List (List Int×Addr):=if P.any (fun p=>p.1 == q.1) then P else P++[q]
noncomputable def eG (qs:List (List Int×Addr)) (i:Nat):List (List Int×Addr):=(qs.take i).foldl cL []
theorem mH {qs:List (List Int×Addr)} {i:Nat} {q:List Int×Addr} (h:qs[i]?=some q):eG qs (i+1)=cL (eG qs i) q:=by
 unfold eG
 rw [List.take_add_one,h,List.foldl_append]
 rfl
section
variable {prog:Program} {w:World} {A:Around} {E:Value→Shared→Prop} {s:Shared}
theorem i_ {l:Addr} {items:Array Value} {qs:List (List Int×Addr)} {K:Value→Shared→Prop} (hu:A.units+4<cLine) (hh:A.handled=none) (hl:s.heap.IsList l items) (hi:items.toList=qs.map fun q=>Value.ref q.2) (hq:∀ q∈qs,IsTupleKey (intKind prog w) s.heap q.1 q.2) (hb:(eG qs qs.length).length≤75)
  (h:∀ (h':Heap) (tk:Nat),SetT prog w h' s.heap.objs.size (eG qs qs.length)→(∀ b o,b<s.heap.objs.size→s.heap.get? b=some o→h'.get? b=some o)→K (.ref s.heap.objs.size) { s with heap:=h',toks:=tk }):wpAny (model prog w) A (call (.type "set") [.ref l]) K E s:=by
 refine vW fun led Bd=>?_
 obtain ⟨o,ho,hc,k,hd⟩:=id hl
 have ls:l<s.heap.objs.size:=Heap.lt_size ho
 have t1:(s.heap.push (jQ led)).IsList l items:=⟨o,Heap.get?_push_of_some _ ho,hc,k,hd⟩
 have g0:(s.heap.push (jQ led)).get? s.heap.objs.size=some (jQ led):=Heap.get?_push_size _ rfl
 have n1:=PySem.F.sub_list_set
 have n2:=PySem.F.sub_list_frozenset
 have n3:(Value.type "list" == Value.type "dict")=false:=by decide
 obtain ⟨oc,od,odt,os⟩:=o
 simp only at hc hd
 subst hc hd
 have ho1:(s.heap.push (jQ led)).get? l=some { cls:=.type "list",dict:=od,data:=.seq items k,slots:=os }:=Heap.get?_push_of_some _ ho
 unfold Builtin.«set.__init__» noKeywords Builtin.Frozenset.updateFrom
 generalize hP:pyIter=PI
 wp_walk
 subst hP
 refine wpAny_pyIter_list t1 (wpAny_bind (wpAny_runValue ?_))
 have ne:l≠(s.heap.push (jQ led)).objs.size:=by rw [Heap.size_push];exact Nat.ne_of_lt (Nat.lt_succ_of_lt ls)
 have off:s.heap.objs.size∉[(s.heap.push (jQ led)).objs.size,l]:=fun z=>by
  rw [Heap.size_push] at z
  simp only [List.mem_cons,List.not_mem_nil,or_false] at z
  exact z.elim (Nat.ne_of_lt (Nat.lt_succ_self _)) (Nat.ne_of_gt ls)
 have isz:items.size=qs.length:=by rw [← Array.length_toList,hi,List.length_map]
 have far:∀ q∈qs,q.2∉[(s.heap.push (jQ led)).objs.size]:=fun q hq' z=>by
  obtain ⟨o,_,_,e,_⟩:=hq q hq'
  have:=Heap.lt_size e
  rw [List.mem_singleton.mp z,Heap.size_push] at this
  exact absurd this (Nat.not_lt.mpr (Nat.le_succ _))
 have sub:∀ i q,q∈eG qs i→q∈qs:=fun i=>by
  have go:∀ (ls:List (List Int×Addr)) acc,(∀ q∈acc,q∈qs)→(∀ q∈ls,q∈qs)→∀ q∈ls.foldl cL acc,q∈qs:=fun ls=>by
   induction ls with
   | nil=>intro acc h1 _ q hq;exact h1 q hq
   | cons x ls ih=>
    intro acc h1 h2
    refine ih _ (fun q hq=>?_) fun q hq=>h2 q (List.mem_cons_of_mem _ hq)
    unfold cL at hq
    split at hq
    ·exact h1 q hq
    ·rcases List.mem_append.mp hq with z | z
     ·exact h1 q z
     ·rw [List.mem_singleton.mp z];exact h2 x List.mem_cons_self
  exact go _ [] (fun q h=>by cases h) fun q h=>List.mem_of_mem_take h
 have len:∀ i,(eG qs i).length≤75:=fun i=>by
  refine Nat.le_trans ?_ hb
  unfold eG
  rw [List.take_length]
  have go:∀ (ls:List (List Int×Addr)) acc,acc.length≤(ls.foldl cL acc).length:=fun ls=>by
   induction ls with
   | nil=>intro acc;exact Nat.le_refl _
   | cons x ls ih=>
    intro acc
    refine Nat.le_trans ?_ (ih _)
    unfold cL
    split
    ·exact Nat.le_refl _
    ·rw [List.length_append];exact Nat.le_add_right _ _
  have e:List.foldl cL [] qs=List.foldl cL [] (qs.take i++qs.drop i):=by rw [List.take_append_drop]
  rw [e,List.foldl_append]
  exact go _ _
 refine yo (J:=fun i h=>SetT prog w h s.heap.objs.size (eG qs i)∧∀ q∈qs,IsTupleKey (intKind prog w) h q.1 q.2) ((Walks.list (A:=A.in1.in1.in1) (by simp [hh]) _ l ne items).toS) off (fun i a b x e=>?_) (fun i v u E' K' hi' hv hJ hK=>?_) 0 _ (Nat.zero_le _)
  ⟨⟨_,Heap.get?_push_size _ rfl,rfl,rfl⟩,⟨_,Heap.get?_push_of_some _ ho1,rfl,k,rfl⟩⟩ ⟨⟨⟨#[],0,.fresh 0 0 led,⟨_,Heap.get?_push_of_some _ g0,⟨rfl,rfl,rfl⟩,rfl⟩,rX led,Rch.fresh led,.inl ⟨rfl,Nat.zero_le _⟩,Bd,.refl _⟩,fun q hq=>(by cases hq)⟩,fun q h'=>dB (hq q h') fun o e=>Heap.get?_push_of_some _ (Heap.get?_push_of_some _ e)⟩ fun s' m hJ=>?_
 ·obtain ⟨⟨⟨es,ep,t,x1,r⟩,y⟩,z⟩:=x
  have kk:∀ q∈qs,IsTupleKey (intKind prog w) b q.1 q.2:=fun q h'=>dB (z q h') fun o he=>e _ o (far q h') he
  exact ⟨⟨⟨es,ep,t,x1.at fun o h=>e _ o (fun z=>off (List.mem_cons.mpr (.inl (List.mem_singleton.mp z)))) h,r⟩,fun q h'=>kk q (sub i q h')⟩,kk⟩
 ·have hv':items.toList[i]?=some v:=by rw [Array.getElem?_toList];exact hv
  rw [hi,List.getElem?_map] at hv'
  cases eq:qs[i]? with
  | none=>rw [eq] at hv';cases hv'
  | some q=>
   rw [eq] at hv'
   cases hv'
   have hqm:q∈qs:=List.mem_of_getElem? eq
   have hx:=hJ.2 q hqm
   have l17:=len i
   unfold setAdd
   refine wpAny_holding (wpAny_bind ((tupleKind (intKind prog w)).pyHash (by show A.units+1+1+1<cLine;omega) hx ?_))
   refine Be (s:={ u with toks:=u.toks+(tupleKind (intKind prog w)).draws q.1 }) (by show A.units+1+1+1<cLine;omega) hJ.1 hx (by omega) (fun ⟨p,hp,e⟩=>?_) fun new h' sb hJ'=>?_
   ·refine hK false u.heap _ (Nat.le_add_right _ _) (Heap.SameBut.refl _ _) ⟨?_,hJ.2⟩
    rw [mH eq]
    unfold cL
    rw [if_pos (List.any_eq_true.mpr ⟨p,hp,by simp [e]⟩)]
    exact hJ.1
   ·refine hK true h' _ (Nat.le_add_right _ _) sb ⟨?_,fun p hp=>?_⟩
    ·rw [mH eq]
     unfold cL
     rw [if_neg fun z=>by
      obtain ⟨p,hp,e⟩:=List.any_eq_true.mp z
      exact new p hp (by simpa using e)]
     exact hJ'
    ·obtain ⟨⟨es,ep,t,x1,_⟩,_⟩:=hJ.1
     exact dB (hJ.2 p hp) fun o e=>(sb.2 _ (apart x1 (hJ.2 p hp))).trans e
 ·obtain ⟨h',g',d',tk',os'⟩:=s'
  obtain rfl:g'=s.gens:=m.gens
  obtain rfl:d'=s.drawn:=m.drawn
  obtain rfl:os'=s.os:=m.os
  refine wpAny_pure (wpAny_pure ⟨h',tk',rfl,rfl,h h' tk' (by rw [← isz];exact hJ.1) fun b o lt e=>m.heap b o (fun z=>?_) (Heap.get?_push_of_some _ (Heap.get?_push_of_some _ e))⟩)
  rw [Heap.size_push] at z
  simp only [List.mem_cons,List.not_mem_nil,or_false] at z
  exact z.elim (Nat.ne_of_lt lt) (Nat.ne_of_lt (Nat.lt_succ_of_lt lt))
end
end Sx
namespace Br
open PySem PySem.Spec PyProof.Rows L2
noncomputable def Bf (prog:Program) (w:World) (h:Heap) (a:Addr) (P:List (List Int×Addr)):Prop:=∃ es ep t,Sx.bM h a es ep t∧Sx.Good t es.size∧Sx.Rch t es∧Sx.Small t es.size∧(t.led=!w.params.followText "set-order")∧es.toList.Perm (P.map (Sx.itm prog w))
noncomputable def ur (prog:Program) (w:World):List V→Hp→VK→Prop:=fun xs H Q=>∃ (q:Addr) (qs:List (List Int×Addr)),xs=[.ref q]∧H q=some (.ext fun h=>Bf prog w h q qs)∧qs.length≤63∧(∀ p∈qs,H p.2=some (.tup (p.1.map V.int))∧p.1≠[]) ∧
 ∀ (zs:List V) (l:Addr),zs.Perm (qs.map fun p=>V.ref p.2)→zs.Pairwise (fun y z=>∀ (a b:Addr) (ks ms:List Int),y=.ref a→z=.ref b→H a=some (.tup (ks.map V.int))→H b=some (.tup (ms.map V.int))→Dm.lx ms ks=false)→H l=none→Q (.ref l) (upd H l (.lst zs))
theorem pK {X:Cx} (hcm:X.calm=true):cH X (.builtin "sorted") (ur X.prog X.w):=by
 intro pins s σ H xs us Q I r h
 obtain ⟨p,qs,rfl,hq,hl,hks,k⟩:=h
 obtain ⟨u,rfl,rx⟩:=vals1 r
 cases rx
 obtain ⟨⟨es,ep,t,x1,g,rc,sm,led,pm⟩,_⟩:=(show bh X.prog X.w H s.heap p (.ext _) from I.hok p _ hq)
 have hlen:es.size=qs.length:=by rw [← Array.length_toList,pm.length_eq,List.length_map]
 refine Calls.call_function_entry kind_sorted plain_sorted entry_sorted (args_sorted1 _) ?_
 unfold Builtin.«sorted»
 refine wpAny_bind (m:=checkCount "sorted" 1 1 _) (wpAny_pure ?_)
 refine wpAny_bind (PySem.W.kdu_collect (A:=X.A.in1) (Sx.Bc (prog:=X.prog) (w:=X.w) (a:=p) (ep:=ep) g sm.le led) (I.ok.hd hcm) x1 (by rw [hlen];exact Nat.le_trans hl (by decide)) fun h' tk acc hk0 hacc=>?_)
 have ew:acc.toList=Sx.cg X.w p es ep:=by
  apply List.ext_getElem?
  intro i
  by_cases hi:i<acc.toList.length
  ·rw [List.getElem?_eq_getElem hi]
   exact (hacc.2 i _ (by rw [← Array.getElem?_toList,List.getElem?_eq_getElem hi])).symm
  ·rw [List.getElem?_eq_none (by omega),List.getElem?_eq_none (by rw [Sx.eE,← hacc.1,← Array.length_toList];omega)]
 have wp:=Sx.mE X.w p es ep
 rw [← ew] at wp
 generalize hits:acc.toList=its at *
 have wp2:its.Perm (qs.map fun q=>Value.ref q.2):=by
  refine wp.trans ((pm.map _).trans (.of_eq ?_))
  rw [List.map_map]
  rfl
 have hn:its.length=qs.length:=by rw [wp2.length_eq,List.length_map]
 have hv:∀ v∈its,∃ (a:Addr) (ks:List Int),v=.ref a∧H a=some (.tup (ks.map V.int))∧ks≠[]:=fun v hm=>by
  obtain ⟨q,hq',rfl⟩:=List.mem_map.mp (wp2.mem_iff.mp hm)
  exact ⟨q.2,q.1,rfl,(hks q hq').1,(hks q hq').2⟩
 have key:∀ v∈its,∃ ks,(eO H).keyOf v=some ks:=fun v hm=>by
  obtain ⟨a,ks,rfl,h3,_⟩:=hv v hm
  refine ⟨ks,?_⟩
  show dG H (.ref a)=some ks
  unfold dG
  dsimp only
  rw [h3]
  exact a_ ks
 have hk:KeysOf (eO H) (pairsOf its):=fun q hq=>key q.1 (eS hq).2
 have look:∀ (h':Heap),(∀ b o,s.heap.get? b=some o→h'.get? b=some o)→∀ (v:Value) (ks:List Int),dG H v=some ks→∃ (a:Addr) (o:Obj) (ts:List Value) (n:Nat),v=.ref a∧h'.get? a=some o∧o.cls=.type "tuple" ∧ o.data=.seq ts.toArray n∧IntsAre ts ks:=fun h' kp v ks e=>by
  unfold dG at e
  split at e
  ·rename_i a
   split at e
   ·rename_i xs hx
    have:=jK e
    subst this
    obtain ⟨_,ts,rt,o,ho,hc,n,hd⟩:=I.hok a _ hx
    exact ⟨a,o,ts,n,rfl,kp _ _ ho,hc,hd,intsAre_of rt⟩
   ·cases e
  ·cases e
 refine wpAny_bind (wpAny_newList ?_ (by rw [hn];exact Nat.le_trans hl (by decide)))
 have hL0:(h'.push (seqObj "list" its.toArray 0)).get? h'.objs.size=some (seqObj "list" its.toArray 0):=Heap.get?_push_size _ rfl
 have I1:=I.kept (t':=tk) hk0
 have up0:∀ h2:Heap,(∀ b o,b≠h'.objs.size→(h'.push (seqObj "list" its.toArray 0)).get? b=some o→h2.get? b=some o)→∀ b o,s.heap.get? b=some o→h2.get? b=some o:=fun h2 kp b o e=>kp b o (Nat.ne_of_lt (Heap.lt_size (hk0 _ _ e))) (Heap.get?_push_of_some _ (hk0 _ _ e))
 refine wpAny_bind (wpAny_holding (wpAny_call_entry (s:={ s with heap:=h'.push (seqObj "list" its.toArray 0),toks:=tk }) slot_list_sort ⟨_,hL0,rfl⟩ entry_list_sort (Ts.jH (κ:=eO H) (kd:=tuples' true) hL0 (by omega) hk (fun h2 kp0 h2' {Q'} hq'=>?_) (fun h2 kp0=>?_) fun st' hp hs=>⟨_,rfl,?_⟩) (args_list_sort _)))
 ·-- the kind
  have tups:∀ l:List Value,(∀ v∈l,∃ (a:Addr) (ks:List Int),v=.ref a∧H a=some (.tup (ks.map V.int))∧ks≠[])→∃ fs,PySem.W.KatTups h2 l fs∧fs.length=l.length∧∀ f∈fs,∃ n t,f=Value.int n t:=fun l=>by
   induction l with
   | nil=>intro _;exact ⟨[],.nil,rfl,fun f hf=>by cases hf⟩
   | cons v l ih=>
    intro hl'
    obtain ⟨a,ks,rfl,h3,h4⟩:=hl' v List.mem_cons_self
    obtain ⟨fs,t,lf,hf⟩:=ih fun z hz=>hl' z (List.mem_cons_of_mem _ hz)
    obtain ⟨a',o,ts,n,e,ho,hc,hd,hi⟩:=look h2 (up0 h2 kp0) (.ref a) ks (by unfold dG;dsimp only;rw [h3];exact a_ ks)
    cases e
    cases hi with
    | nil=>exact absurd rfl h4
    | cons m t' hi'=>
     refine ⟨_::fs,.cons ho hc hd (f:=.int m t') (by simp) t,by simp [lf],fun f hm=>?_⟩
     rcases List.mem_cons.mp hm with rfl | hm
     ·exact ⟨_,_,rfl⟩
     ·exact hf f hm
  obtain ⟨fs,t,lf,hf⟩:=tups its hv
  refine PySem.W.kat_kind (s:={ s with heap:=h2,toks:=tk }) (T:=.type "int") t (by omega) (fun f hm=>?_) (by rfl) ?_
  ·obtain ⟨n,tk,rfl⟩:=hf f hm
   exact .now
  ·exact hq'
 ·refine mw fun x y a b {Q'} {E''} ha hb q=>?_
  obtain ⟨ax,ox,tx,nx,ex,hx,_,dx,ix⟩:=look h2 (up0 h2 kp0) x.1 a ha
  obtain ⟨ay,oy,ty,ny,ey,hy,_,dy,iy⟩:=look h2 (up0 h2 kp0) y.1 b hb
  rw [ex,ey]
  refine PySem.W.kat_lt (s:={ s with heap:=h2,toks:=tk }) hx dx hy dy ?_
  exact jL 0 ix iy (by rw [List.size_toArray,List.size_toArray,ix.length,iy.length]) q
 ·obtain ⟨out,eo,po,so⟩:=x_ hk hp hs
  rw [eo]
  obtain ⟨c,hc⟩:=sortedHeap_at (out:=out.toArray) hL0
  have vo:∀ l:List Value,(∀ v∈l,∃ (a:Addr) (ks:List Int),v=.ref a∧H a=some (.tup (ks.map V.int))∧ks≠[])→Vals (l.map bk) l:=fun l=>by
   induction l with
   | nil=>intro _;exact .nil
   | cons v l ih=>
    intro hl'
    obtain ⟨a,ks,rfl,_⟩:=hl' v List.mem_cons_self
    exact .cons rfl (ih fun z hz=>hl' z (List.mem_cons_of_mem _ hz))
  have hvo:=vo out fun v hm=>hv v (po.mem_iff.mp hm)
  have hz2:(out.map bk).length≤sizeLine:=by rw [List.length_map,po.length_eq,hn];exact Nat.le_trans hl (by decide)
  refine wpAny_pure ⟨_,rfl,.ref h'.objs.size,_,I1.laid (t':=tk) (fun b o e=>?_) (Nat.le_refl _) (show bh X.prog X.w _ _ _ (.lst (out.map bk)) from ⟨hz2,out,c,hvo,by simpa using hc⟩),rfl,k _ _ ?_ ?_ (I1.hok.fresh (Nat.le_refl _))⟩
  ·have lt:=Heap.lt_size e
   rw [sortedHeap_old (Nat.ne_of_lt lt) (by rw [size_push'];exact Nat.lt_succ_of_lt lt)]
   exact Heap.get?_push_of_some _ e
  ·have:=(po.trans wp2).map bk
   rw [List.map_map] at this
   exact this
  ·rw [List.pairwise_map]
   refine List.Pairwise.imp_of_mem ?_ so
   intro x y hx hy hle a b ks ms e1 e2 h1 h2
   obtain ⟨a',ks',rfl,h1',_⟩:=hv x (po.mem_iff.mp hx)
   obtain ⟨b',ms',rfl,h2',_⟩:=hv y (po.mem_iff.mp hy)
   cases e1
   cases e2
   refine hle ks ms ?_ ?_
   ·show dG H (.ref a)=some ks
    unfold dG
    dsimp only
    rw [h1]
    exact a_ ks
   ·show dG H (.ref b)=some ms
    unfold dG
    dsimp only
    rw [h2]
    exact a_ ms
theorem pL {prog:Program} {w:World}:∀ {ks:List Int} {its:List Value},Vals (ks.map V.int) its→ItemsAre (intKind prog w) ks its
 | [],_,r=>by cases r;exact .nil
 | n::ks,_,r=>by
  rw [List.map_cons] at r
  cases r with
  | cons h t=>
   obtain ⟨tk,rfl⟩:=h
   exact .cons (intKind_is prog w n tk) (pL t)
theorem uu:∀ {qs:List (List Int×Addr)} {its:List Value},Vals (qs.map fun p=>V.ref p.2) its→its=qs.map fun p=>Value.ref p.2
 | [],_,r=>by cases r;rfl
 | q::qs,_,r=>by
  rw [List.map_cons] at r
  cases r with
  | cons h t=>rw [uu t];cases h;rfl
noncomputable def yw (K:PySem.W.Frag) (prog:Program) (w:World):List V→Hp→VK→Prop:=fun xs H Q=>∃ (q:Addr) (qs:List (List Int×Addr)),xs=[.ref q]∧SqL K H q (qs.map fun p=>V.ref p.2)∧(∀ p∈qs,H p.2=some (.tup (p.1.map V.int)))∧(Sx.eG qs qs.length).length≤63 ∧
 ∀ l,H l=none→Q (.ref l) (upd H l (.ext fun h=>Bf prog w h l (Sx.eG qs qs.length)))
theorem rZ {X:Cx} (hc:X.calm=true) (hu:X.A.units+4<cLine):cH X (.type "set") (yw X.K X.prog X.w):=by
 intro pins s σ H xs us Q I r h
 obtain ⟨q,qs,rfl,hq,hk,hb,k⟩:=h
 obtain ⟨u,rfl,rx⟩:=vals1 r
 cases rx
 obtain ⟨its,rv,pl,hz⟩:=I.list hq
 refine Sx.i_ (qs:=qs) hu (I.ok.hd hc) pl.isList (by simpa using uu rv) (fun p hp=>?_) (Nat.le_trans hb (by decide)) fun h' tk hS hkeep=>?_
 ·obtain ⟨_,ts,rt,o,ho,hcl,n,hd⟩:=(show bh X.prog X.w H s.heap p.2 (.tup (p.1.map V.int)) from I.hok p.2 _ (hk p hp))
  exact ⟨o,ts.toArray,n,ho,hcl,hd,by simpa using pL rt⟩
 ·exact ⟨.ref s.heap.objs.size,_,I.laid (a:=s.heap.objs.size) (o:=.ext fun h=>Bf X.prog X.w h s.heap.objs.size (Sx.eG qs qs.length)) (t':=tk) (fun b u e=>hkeep b u (Heap.lt_size e) e) (Nat.le_refl _)
   (show bh X.prog X.w _ _ _ (.ext _) from ⟨hS.1,(let ⟨_,_,_,⟨o,ho,_⟩,_⟩:=hS.1;⟨o,ho⟩),fun h1 h2 x e=>let ⟨es,ep,t,x1,r⟩:=x;⟨es,ep,t,x1.at e,r⟩⟩),rfl,k _ (I.hok.fresh (Nat.le_refl _))⟩
end Br
namespace Dm
noncomputable def dH (nss:List (List Int)):List (List Int):=nss.foldl (fun acc x=>if acc.any (· == x) then acc else acc++[x]) []
noncomputable def cA:Dat→Option RV
 | .lst ds=>(match iR ds with
  | some nss=>if (dH nss).length≤63 then some (.new (.lst ((gR lx (dH nss)).map rP))) else none
  | none=>none)
 | _=>none
end Dm
namespace Br
open PySem PySem.Spec PyProof.Rows L2
theorem pM (qs:List (List Int×Addr)):(Sx.eG qs qs.length).map (·.1)=Dm.dH (qs.map (·.1)):=by
 unfold Sx.eG Dm.dH
 rw [List.take_length]
 have go:∀ (l:List (List Int×Addr)) (acc:List (List Int×Addr)),(l.foldl Sx.cL acc).map (·.1)=(l.map (·.1)).foldl (fun acc x=>if acc.any (· == x) then acc else acc++[x]) (acc.map (·.1)):=fun l=>by
  induction l with
  | nil=>intro acc;rfl
  | cons q l ih=>
   intro acc
   rw [List.foldl_cons,List.map_cons,List.foldl_cons,ih]
   congr 1
   unfold Sx.cL
   rw [List.any_map]
   show List.map _ (if (acc.any fun p=>p.1 == q.1)=true then _ else _)=if (acc.any fun p=>p.1 == q.1)=true then _ else _
   split
   ·rfl
   ·rw [List.map_append];rfl
 exact go qs []
theorem nS (qs:List (List Int×Addr)) (i:Nat):∀ q∈Sx.eG qs i,q∈qs:=by
 have go:∀ (ls:List (List Int×Addr)) acc,(∀ q∈acc,q∈qs)→(∀ q∈ls,q∈qs)→∀ q∈ls.foldl Sx.cL acc,q∈qs:=fun ls=>by
  induction ls with
  | nil=>intro acc h1 _ q hq;exact h1 q hq
  | cons x ls ih=>
   intro acc h1 h2
   refine ih _ (fun q hq=>?_) fun q hq=>h2 q (List.mem_cons_of_mem _ hq)
   unfold Sx.cL at hq
   split at hq
   ·exact h1 q hq
   ·rcases List.mem_append.mp hq with z | z
    ·exact h1 q z
    ·rw [List.mem_singleton.mp z];exact h2 x List.mem_cons_self
 exact go _ [] (fun q h=>by cases h) fun q h=>List.mem_of_mem_take h
theorem yx {H0:Hp}:∀ {ds:List Dm.Dat} {us:List V} {nss:List (List Int)},aF H0 us ds→Dm.iR ds=some nss→∃ qs:List (List Int×Addr),us=qs.map (fun p=>V.ref p.2)∧nss=qs.map (·.1)∧∀ p∈qs,H0 p.2=some (.tup (p.1.map V.int))∧p.1≠[]
 | [],_,nss,r,e=>by cases r;cases e;exact ⟨[],rfl,rfl,fun p h=>by cases h⟩
 | d::ds,_,nss,r,e=>by
  cases r with
  | cons h t=>
   cases d with
   | tup xs=>
    unfold Dm.iR at e
    cases q1:Dm.iQ xs with
    | none=>rw [q1] at e;cases e
    | some ns=>
     rw [q1] at e
     dsimp only at e
     split at e
     ·cases e
     ·rename_i hne
      cases q2:Dm.iR ds with
      | none=>rw [q2] at e;cases e
      | some mss=>
       rw [q2] at e
       cases e
       obtain ⟨qs,a1,a2,a3⟩:=yx t q2
       cases h with
       | tup ha hr=>
        rename_i b ys
        have:=o8 hr q1
        subst this
        refine ⟨(ns,b)::qs,by rw [List.map_cons,← a1],by rw [List.map_cons,← a2],fun p hp=>?_⟩
        rcases List.mem_cons.mp hp with z | z
        ·rw [z]
         exact ⟨ha,fun z=>by
          have z:ns=[]:=z
          rw [z] at hne
          exact hne rfl⟩
        ·exact a3 p z
   | _=>cases e
section
variable {X:Cx} {e:Expr} {f:Dm.FE} {p p0 pos iw:Pos}
theorem r8 {K:PySem.W.Frag} {prog:Program} {w:World} {σ:L2.St} {H:Hp} {Q:VK} (h:tD (Dm.e1 Dm.cA f) σ H Q):tCB (ur prog w) (jj (tCB (yw K prog w) (jj (tD f) rm)) rm) σ H Q:=by
 obtain ⟨H0,ρ,x,ρ',st,e,k⟩:=h
 unfold Dm.e1 at e
 split at e
 ·cases e
 rename_i x1 ρ1 e1
 split at e
 ·cases e
 rename_i dx p1
 split at e
 ·cases e
 rename_i z gz
 cases e
 unfold Dm.cA at gz
 split at gz
 case h_2=>cases gz
 rename_i ds
 split at gz
 case h_2=>cases gz
 rename_i nss en
 split at gz
 case isFalse=>cases gz
 rename_i hb
 cases gz
 refine ⟨H0,ρ,x1,_,st,e1,fun v H1 Hb t1 r1=>?_⟩
 obtain ⟨a,xs,rfl,qa,ra⟩:=bB t1.st.same (r1.look t1.st p1)
 obtain ⟨qs,rfl,rfl,hq⟩:=yx ra en
 rw [← pM,List.length_map] at hb
 refine ⟨a,qs,rfl,.inl qa,fun p hp=>t1.st.same _ _ (hq p hp).1,hb,fun l hl=>?_⟩
 have ne:∀ p∈qs,p.2≠l:=fun p hp z=>by
  have:=t1.st.same _ _ (hq p hp).1
  rw [z,hl] at this
  cases this
 refine ⟨l,Sx.eG qs qs.length,rfl,aD,?_,fun p hp=>?_,fun zs l2 pm so hp=>?_⟩
 ·omega
 ·have hm:=nS qs _ p hp
  exact ⟨by rw [av (ne p hm)];exact t1.st.same _ _ (hq p hm).1,(hq p hm).2⟩
 ·let ks:V→List Int:=fun v=>match v with
   | .ref b=>(match H1 b with
    | some (.tup ys)=>(ek ys).getD []
    | _=>[])
   | _=>[]
  have hks:∀ p∈qs,ks (.ref p.2)=p.1:=fun p hp=>by
   show (match H1 p.2 with | some (.tup ys)=>(ek ys).getD [] | _=>[])=p.1
   rw [(hq p hp).1]
   dsimp only
   rw [a_]
   rfl
  have hz:∀ y∈zs,∃ b:Addr,y=.ref b∧H1 b=some (.tup ((ks y).map V.int)):=fun y hy=>by
   obtain ⟨p,hp',rfl⟩:=List.mem_map.mp (pm.mem_iff.mp hy)
   have hm:=nS qs _ p hp'
   exact ⟨p.2,rfl,by rw [hks p hm];exact (hq p hm).1⟩
  have pk:(zs.map ks).Perm (Dm.dH (qs.map (·.1))):=by
   refine (pm.map ks).trans (.of_eq ?_)
   rw [List.map_map,← pM]
   exact List.map_congr_left fun p hp'=>hks p (nS qs _ p hp')
  have srt:(zs.map ks).Pairwise (fun a b=>Dm.lx b a=false):=by
   rw [List.pairwise_map]
   refine List.Pairwise.imp_of_mem ?_ so
   intro x y hx hy hle
   obtain ⟨b1,q1,q2⟩:=hz x hx
   obtain ⟨b2,q3,q4⟩:=hz y hy
   have n1:b1≠l:=fun z=>by have:=t1.st.same _ _ q2;rw [z,hl] at this;cases this
   have n2:b2≠l:=fun z=>by have:=t1.st.same _ _ q4;rw [z,hl] at this;cases this
   exact hle b1 b2 _ _ q1 q3 (by rw [av n1];exact t1.st.same _ _ q2) (by rw [av n2];exact t1.st.same _ _ q4)
  have es:zs.map ks=Dm.gR Dm.lx (Dm.dH (qs.map (·.1))):=by
   refine Dm.cK (lt:=Dm.lx) Dm.cZ (pk.trans (Dm.dF _ _).symm) srt (Dm.cu (fun a b c h1 h2=>?_) (fun a b h=>?_) _)
   ·cases h:Dm.lx c a
    ·rfl
    ·rcases Dm.nG c b a h with z | z
     ·rw [z] at h2;cases h2
     ·rw [z] at h1;cases h1
   ·cases h':Dm.lx b a
    ·rfl
    ·have:=Dm.cY a b a h h'
     rw [Dm.cX] at this;cases this
  have g1:=aL.ng (o:=.ext fun h=>Bf prog w h l (Sx.eG qs qs.length)) t1.st.same hl
  have t2:=t1.trans (.grow t1.st g1)
  have g2:=aL.ng (o:=.lst zs) t2.st.same hp
  refine k _ _ _ (t2.trans (.grow t2.st g2)) ⟨l2,rfl,t2.stp.gone hp,t2.st.cU hp,t2.st.same.free hp,_,aD,?_⟩
  rw [← es]
  exact iA ks hz
theorem r9 {kk:Nat} (hr:bE kk X.A) (hc:X.calm=true) (hgl:Gl X "sorted") (hml:X.mg "sorted" = none) (hg:Gl X "set") (hm:X.mg "set" = none) (h:DE X e f) (hs:starEach [e] X.env=[(false,eval e X.env)]:=by rfl)
  (hs0:starEach [.Call (.Name "set" p) [e] [] pos] X.env=[(false,eval (.Call (.Name "set" p) [e] [] pos) X.env)]:=by rfl) (hpl:(backTo pos (starEach [] X.env)).any (·.1)=false:=by rfl) (J1:(backTo iw (starEach [] X.env)).any (·.1)=false:=by rfl) :
  DE X (.Call (.Name "sorted" p0) [.Call (.Name "set" p) [e] [] pos] [] iw) (Dm.e1 Dm.cA f):=
 PE.weak (jn (pK hc) hgl hml boot_sorted (eL (lW (rZ hc (Nat.lt_of_le_of_lt (Nat.add_le_add_left (by decide) _) hr.units)) hg hm (by rfl) (eL h g_ hs) (he:=hs) (hpl:=hpl)) g_ hs0) (he:=hs0) (hpl:=J1)) fun _ _ _=>r8
end
end Br
namespace Dm
end Dm
namespace Br
open PySem PySem.Spec PyProof.Rows L2
section
variable {X:Cx} {pos p2:Pos} {e:Expr} {f:Dm.FE}
end
section
variable {X:Cx} {pos p2:Pos} {e:Expr} {f:Dm.FE}
end
section
variable {X:Cx} {nm:List Str} {elt tg iter:Expr} {ifs:List Expr} {scope:Scope} {pos:Pos} {own:List Str} {wi:TI} {g:TG} {tt:TT} {te:TE}
end
section
variable {X:Cx} {elt:Expr} {ifs:List Expr} {scope:Scope} {pos px py:Pos} {t:Dm.FT} {f:Dm.FE} {x:Str}
end
end Br
namespace Dm
end Dm
namespace Br
open PySem PySem.Spec PyProof.Rows L2
section
variable {X:Cx} {pos:Pos}
end
end Br
namespace Dm
end Dm
namespace Br
open PySem PySem.Spec PyProof.Rows L2
section
variable {X:Cx} {e:Expr} {f:Dm.FE}
end
open PySem L2
structure aV (K:PySem.W.Frag) (x:Str) (st:Stmt) (a:Addr) (fd:FuncData):Prop where
 e:PySem.W.nsIn K mainGlobals x=some (some (.ref a))
 F:Fun K x x st a fd
variable {K:PySem.W.Frag} {x:Str} {st:Stmt} {a:Addr} {fd:FuncData} {hp:Heap} {mg:Str→Option Value}
theorem aE {oc:Value} {od an:Option Addr} {osl:Array (Option Value)} {kV doc pm cdv ct:Value} (e:PySem.W.nsIn K mainGlobals x=some (some (.ref a)))
  (l:K.lookup a=some ⟨oc,od,.func (PySem.W.fnOf x x (bw st) (aZ st) (ah st) .none kV doc pm an cdv ct),osl⟩) (c:PySem.W.codeIn K cdv x=true) (k:PySem.W.keepIn K (.ref a)=true) :
  aV K x st a (PySem.W.fnOf x x (bw st) (aZ st) (ah st) .none kV doc pm an cdv ct):=⟨e,D4 l c k⟩
theorem mgo {v:Value} (X:K.In hp) (G:hp.Ns mainGlobals mg) (e:PySem.W.nsIn K mainGlobals x=some (some v)):mg x=some v:=PySem.W.mg_of X G e
theorem mno (X:K.In hp) (G:hp.Ns mainGlobals mg) (e:PySem.W.nsIn K mainGlobals x=some none):mg x=none:=PySem.W.mg_none_of X G e
theorem aV.m (h:aV K x st a fd) (X:K.In hp) (G:hp.Ns mainGlobals mg):mg x=some (.ref a):=PySem.W.mg_of X G h.e
theorem aV.J2 {y:Str} (h:aV K x st a fd) (hb:∀ (kV doc pm:Value) (an:Option Addr) (cdv ct v:Value),bindArgs (PySem.W.fnOf x x (bw st) (aZ st) (ah st) .none kV doc pm an cdv ct) ⟨[v],[]⟩=pure [(y,v)]) (s:Shared) (v:Value):BindsTo s fd ⟨[v],[]⟩ [(y,v)]:=by
 obtain ⟨oc,od,kV,doc,pm,an,cdv,ct,osl,rfl,lk,hcd⟩:=h.F.ex
 exact .of_eq (hb kV doc pm an cdv ct v)
theorem hm {j k:Nat} {A:Around} (r:bE k A) (h:j≤k:=by decide):bE j A:=r.mono h
theorem fsc {N P:List Str} {sc:Scope} (h1:sc.kind=.function) (h2:sc.isCoroutine=false) (h3:sc.isGenerator=false) (h4:N.take P.length=P) (h:N.Nodup∧(∀ x∈P,sc.names.lookup x=some .local∨sc.names.lookup x=some .cell)∧∀ y∈sc.names,y.2≠.free):au N P sc:=⟨h1,h2,h3,h.1,h4,h.2.1,h.2.2⟩
end Br
namespace Dm
end Dm
namespace Br
open PySem PySem.Spec PyProof.Rows L2
section
variable {X:Cx} {C:Addr} {E:L2.St→XK} {R S:Dm.Env→Option Dm.Env} {sts rest:List Stmt} {st:Stmt}
end
section
variable {X:Cx} {pins pn:List (Addr×Obj)} {σ:L2.St} {H:Hp} {s:Shared} {xe:Value→Shared→Prop}
end
section
variable {X:Cx} {C:Addr} {E:L2.St→XK} {k:Nat} {F:Addr} {fd:FuncData} {ps:List Str} {x:Str} {p pos:Pos} {e:Expr} {es:List Expr} {fs:List Dm.FE} {bad:List Dm.Dat→Bool} {c:Int} {tk:Tok}
end
section
variable {X:Cx} {C:Nat} {b:Bool} {cs:List Nat} {bs:List Bool} {e:Expr} {f:Dm.FE}
end
end Br
namespace Sx
open PySem PySem.SetTable PySem.W PyProof.Rows
section
variable {prog:Program} {w:World} {A:Around} {E:Value→Shared→Prop} {s:Shared}
end
end Sx
namespace Dm
end Dm
namespace Br
open PySem PySem.Spec PyProof.Rows L2
section
variable {X:Cx} {e:Expr} {f:Dm.FE} {p p0 pos iw:Pos}
end
end Br
namespace Dm
noncomputable def fG (j m:Nat) (loop:FN):FS:=fun ρ=>if j=0 then none else match loop (ρ.set j .un) (List.replicate m []) with
 | none=>none
 | some (ρ3,r)=>some (.nx (ρ3.set j (.ow (.lst (r.map .lst)))))
end Dm
namespace Br
open PySem PySem.Spec PyProof.Rows L2
noncomputable def jR:Nat→TA
 | 0=>rm
 | m+1=>jj (Ax rm) (jR m)
theorem pN {σ:L2.St}:∀ (m:Nat) {H:Hp} {Q:List V→Hp→Prop},(∀ H' (ps:List Addr),ps.length=m→ps.Nodup→(∀ p∈ps,H p=none∧H' p=some (.lst []))→(∀ a,a∉ps→H' a=H a)→Q (ps.map V.ref) H')→jR m σ H Q
 | 0,H,Q,k=>k H [] rfl .nil (fun _ h=>by cases h) fun _ _=>rfl
 | m+1,H,Q,k=>by
  refine ⟨Nat.zero_le _,fun p hp=>pN m fun H' ps hl hn h1 h2=>?_⟩
  have np:p∉ps:=fun z=>by
   have:=(h1 p z).1
   rw [aD] at this;cases this
  refine k H' (p::ps) (by simp [hl]) (List.nodup_cons.mpr ⟨np,hn⟩) (fun q hq=>?_) fun a ha=>?_
  ·rcases List.mem_cons.mp hq with rfl | hq
   ·exact ⟨hp,by rw [h2 _ np,aD]⟩
   ·refine ⟨?_,(h1 q hq).2⟩
    have:=(h1 q hq).1
    have qp:q≠p:=fun z=>np (z▸hq)
    rw [av qp] at this
    exact this
  ·have ap:a≠p:=fun z=>ha (z▸List.mem_cons_self)
   rw [h2 a fun z=>ha (List.mem_cons_of_mem _ z),av ap]
theorem pO {H0 H:Hp}:∀ {ps:List Addr},(∀ p∈ps,H p=some (.lst []))→aS H0 H ps (List.replicate ps.length [])
 | [],_=>trivial
 | p::ps,h=>⟨⟨[],h p List.mem_cons_self,.nil⟩,pO fun q hq=>h q (List.mem_cons_of_mem _ hq)⟩
theorem Bg {σ:L2.St} {H:Hp} {D:Ends} {j m:Nat} {loop:Dm.FN} {gs:Dm.FS} (hm:m≤sizeLine) (hj:j<σ.length) (h:tDS (Dm.aA (Dm.fG j m loop) gs) D σ H) :
  wJ (oB (Ax (jR m)) (gD j)) (wJ (tDN j loop) (tDS gs)) D σ H:=by
 obtain ⟨H0,ρ,o,st,e,k⟩:=h
 obtain ⟨ρ9,e9,e⟩:=A7 (fun z q=>by unfold Dm.fG at q;split at q;cases q;split at q;cases q;cases q;exact ⟨_,rfl⟩) e
 unfold Dm.fG at e9
 split at e9
 ·cases e9
 rename_i hj0
 split at e9
 ·cases e9
 rename_i ρ3 r3 e3
 cases e9
 refine pN m fun H1 ps hl hn h1 h2=>⟨by rw [List.length_map,hl];exact hm,fun L hL=>?_⟩
 have nLp:L∉ps:=fun z=>by rw [(h1 L z).2] at hL;cases hL
 have hLH:H L=none:=by rw [← h2 L nLp];exact hL
 have s1:aj H (upd H1 L (.lst (ps.map V.ref))):=fun b u q=>by
  have n1:b≠L:=fun z=>by rw [z,hLH] at q;cases q
  have n2:b∉ps:=fun z=>by rw [(h1 b z).1] at q;cases q
  rw [av n1,h2 b n2];exact q
 have gr:aL H0 H H0 (upd H1 L (.lst (ps.map V.ref))):=⟨aj.refl _,s1,fun _ _ q=>.inr q,fun b u q=>s1 b u (st.same b u q)⟩
 have t1:=ESt.grow st gr
 have nL:¬ ak σ ρ L:=st.cU hLH
 have om:∀ a,ak (σ.set j (some (.ref L))) (ρ.set j .un) a→ak σ ρ a:=fun a ⟨i,d,h1,h2⟩=>by
  rcases aM h1 with ⟨_,z⟩ | ⟨hij,h1⟩
  ·cases z
  ·rw [List.getElem?_set_ne (Ne.symm hij)] at h2
   exact ⟨i,d,h1,h2⟩
 have st2:az H0 (upd H1 L (.lst (ps.map V.ref))) (σ.set j (some (.ref L))) (ρ.set j .un):={
  same:=t1.st.same
  len:=by rw [List.length_set,List.length_set];exact t1.st.len
  sh:=fun i d h=>by
   rcases aM h with ⟨_,z⟩ | ⟨hij,h⟩
   ·cases z
   ·obtain ⟨v,q,r⟩:=t1.st.sh i d h
    exact ⟨v,by rw [List.getElem?_set_ne (Ne.symm hij)];exact q,r⟩
  ow:=fun i d h=>by
   rcases aM h with ⟨_,z⟩ | ⟨hij,h⟩
   ·cases z
   ·obtain ⟨v,q,r⟩:=t1.st.ow i d h
    exact ⟨v,by rw [List.getElem?_set_ne (Ne.symm hij)];exact q,r⟩
  dis:=fun i i' d d' a h1 h2 h3 h4=>by
   rcases aM h1 with ⟨_,z⟩ | ⟨q1,h1⟩
   ·cases z
   rcases aM h2 with ⟨_,z⟩ | ⟨q2,h2⟩
   ·cases z
   rw [List.getElem?_set_ne (Ne.symm q1)] at h3
   rw [List.getElem?_set_ne (Ne.symm q2)] at h4
   exact t1.st.dis i i' d d' a h1 h2 h3 h4 }
 have n:NS j σ ρ H0 H (σ.set j (some (.ref L))) (ρ.set j .un) H0 (upd H1 L (.lst (ps.map V.ref))) (List.replicate m []):=
  ⟨st2,t1.stp,fun a z=>.inl (om a z),List.getElem?_set_ne hj0,L,ps,List.getElem?_set_self hj,hLH,st.same.free hLH,fun z=>nL (om L z),aD,List.nodup_cons.mpr ⟨nLp,hn⟩,
   fun p hp=>⟨(h1 p hp).1,st.same.free (h1 p hp).1,fun z=>st.cU (h1 p hp).1 (om p z)⟩,hl▸pO fun p hp=>by have pl:p≠L:=fun z=>nLp (z▸hp);rw [av pl];exact (h1 p hp).2⟩
 refine ⟨σ,ρ,H0,H,H0,_,_,ρ3,r3,n,e3,fun σ4 H4 Hd n4 _=>?_⟩
 obtain ⟨H5,t5⟩:=n4.done
 exact ⟨H5,_,o,t5.st,e,k.pre t5⟩
section
variable {X:Cx} {rest:List Stmt} {pos:Pos}
theorem yz:PA X [] (jR 0):=g_
theorem jS {es:List Expr} {m:Nat} (h:PA X es (jR m)) (hs:starEach (.List [] pos::es) X.env=(false,eval (.List [] pos) X.env)::starEach es X.env:=by rfl):PA X (.List [] pos::es) (jR (m+1)):=eL (rq g_) h hs
theorem Bh (j m:Nat) {y:Str} {py spos:Pos} {es:List Expr} {loop:Dm.FN} {gs:Dm.FS} {lst:Stmt} (hN:X.N.Nodup) (ha:PA X es (jR m)) (hlp:DN X j lst loop) (hre:DSs X rest gs)
  (hm:m≤sizeLine:=by decide) (hj:X.N[j]?=some y:=by rfl) (hy:Loc X.env.scope y:=by first | exact Or.inl rfl | exact Or.inr rfl)
  (hs:swapsWith (.List es pos) (some (.Name y py)) spos.line X.env=pure false:=by rfl)
  (hf:X.fn y=true∨X.env.scope.names.lookup y=some .local:=by first | exact .inl rfl | exact .inr rfl | assumption) :
  DSs X (.Assign [.Name y py] (.List es pos) spos::lst::rest) (Dm.aA (Dm.fG j m loop) gs):=by
 have h:=gC (qY hN hj hy (rq (pos:=pos) ha) hs hf) (gC hlp hre)
 intro pins s σ H D I q
 exact h pins s σ H D I (Bg hm (by rw [I.len];exact (List.getElem?_eq_some_iff.mp hj).1) q)
end
end Br
namespace Dm
end Dm
namespace Br
open PySem PySem.Spec PyProof.Rows L2
section
variable {prog:Program} {w:World} {A:Around} {E:Value→Shared→Prop}
end
section
variable {X:Cx} {pos:Pos}
end
end Br
namespace Dm
noncomputable def codes (s:String):List Nat:=s.toList.map Char.toNat
noncomputable def shJ:List (List Nat)→List Nat
 | []=>[]
 | [x]=>x
 | x::y::r=>x++44::32::shJ (y::r)
mutual
noncomputable def shw:Dat→List Nat
 | .non=>codes "None"
 | .bl b=>codes (if b then "True" else "False")
 | .int i=>codes (toString i)
 | .tup xs=>40::(shJ (dR xs)++(if xs.length == 1 then [44,41] else [41]))
 | .lst xs=>91::(shJ (dR xs)++[93])
 | _=>[]
noncomputable def dR:List Dat→List (List Nat)
 | []=>[]
 | x::r=>shw x::dR r
end
mutual
noncomputable def fH:Nat→Dat→Bool
 | _,.non=>true
 | _,.bl _=>true
 | _,.int i=>decide (i.natAbs<10 ^ 100)
 | n+1,.tup xs=>aU n xs
 | n+1,.lst xs=>aU n xs
 | _,_=>false
noncomputable def aU:Nat→List Dat→Bool
 | _,[]=>true
 | n,x::r=>fH n x&&aU n r
end
mutual
noncomputable def iF:Dat→Nat
 | .tup xs=>1+iX xs
 | .lst xs=>1+iX xs
 | _=>1
noncomputable def iX:List Dat→Nat
 | []=>0
 | x::r=>iF x+iX r
end
noncomputable def pP:List Dat→Option RV
 | [.tup xs]=>if fH 8 (.tup xs)=true∧iF (.tup xs)≤900 then some (.val (.str (shw (.tup xs)))) else none
 | [.lst xs]=>if fH 8 (.lst xs)=true∧iF (.lst xs)≤900 then some (.val (.str (shw (.lst xs)))) else none
 | _=>none
theorem repr_len {n:Nat} (h:n<10 ^ 100):n.repr.toList.length≤100:=by
 rw [Nat.toList_repr]
 exact (Nat.length_toDigits_le_iff (by decide) (by decide)).mpr h
theorem pQ {i:Int} (h:i.natAbs<10 ^ 100):(shw (.int i)).length≤101:=by
 unfold shw codes
 rw [List.length_map,Int.toString_eq_repr]
 unfold Int.repr
 cases i with
 | ofNat m=>exact Nat.le_succ_of_le (repr_len h)
 | negSucc m=>
  dsimp only
  rw [String.toList_append,List.length_append]
  have:=repr_len (n:=m.succ) h
  show 1+_≤101
  omega
theorem nT:∀ l:List (List Nat),(shJ l).length≤(l.map fun x=>x.length+2).sum
 | []=>Nat.zero_le _
 | [x]=>by simp [shJ]
 | x::y::r=>by
  have:=nT (y::r)
  unfold shJ
  simp only [List.length_append,List.length_cons,List.map_cons,List.sum_cons] at this ⊢
  omega
mutual
theorem nU:∀ (n:Nat) (d:Dat),fH n d=true→(shw d).length+2≤110*iF d
 | _,.non,_=>by decide
 | _,.bl b,_=>by cases b<;>decide
 | n,.int i,h=>by
  have:=pQ (i:=i) (by cases n<;>exact of_decide_eq_true h)
  unfold iF
  omega
 | n+1,.tup xs,h=>by
  have:=jT n xs h
  have j:=nT (dR xs)
  unfold shw iF
  simp only [List.length_cons,List.length_append]
  split<;>simp<;>omega
 | n+1,.lst xs,h=>by
  have:=jT n xs h
  have j:=nT (dR xs)
  unfold shw iF
  simp only [List.length_cons,List.length_append]
  simp
  omega
 | 0,.tup xs,h=>by cases h
 | 0,.lst xs,h=>by cases h
 | 0,.str _,h=>by cases h
 | _+1,.str _,h=>by cases h
 | 0,.dct _ _,h=>by cases h
 | _+1,.dct _ _,h=>by cases h
 | 0,.exc _,h=>by cases h
 | _+1,.exc _,h=>by cases h
 | 0,.fn _,h=>by cases h
 | _+1,.fn _,h=>by cases h
theorem jT:∀ (n:Nat) (xs:List Dat),aU n xs=true→((dR xs).map fun x=>x.length+2).sum≤110*iX xs
 | _,[],_=>by simp [dR]
 | n,x::r,h=>by
  unfold aU at h
  rw [Bool.and_eq_true] at h
  have a:=nU n x h.1
  have b:=jT n r h.2
  unfold dR iX
  simp only [List.map_cons,List.sum_cons]
  omega
end
end Dm
namespace Br
open PySem PySem.Spec PyProof.Rows L2
mutual
noncomputable def pyD:Dm.Dat→PyData
 | .bl b=>.bool b
 | .int i=>.int i
 | .tup xs=>.tuple (fh xs)
 | .lst xs=>.list (fh xs)
 | _=>.none
noncomputable def fh:List Dm.Dat→List PyData
 | []=>[]
 | x::r=>pyD x::fh r
end
theorem pR:∀ xs:List Dm.Dat,(fh xs).length=xs.length
 | []=>rfl
 | x::r=>by simp [fh,pR r]
theorem cR (s:String):Str.ofString s=⟨(Dm.codes s).toArray⟩:=Str.ofString_eq_toList s
theorem dI (a b:List Nat):((⟨a.toArray⟩:Str)++(⟨b.toArray⟩:Str))=⟨(a++b).toArray⟩:=by
 show Str.append _ _=_
 unfold Str.append
 simp
theorem jU:∀ l:List (List Nat),Str.join ", " (l.map fun x=>(⟨x.toArray⟩:Str))=⟨(Dm.shJ l).toArray⟩
 | []=>rfl
 | [x]=>rfl
 | x::y::r=>by
  have:=jU (y::r)
  show (⟨x.toArray⟩:Str)++(", " : Str)++Str.join ", " ((y::r).map fun x=>(⟨x.toArray⟩:Str))=_
  rw [this]
  have e:((", " : String):Str)=⟨[44,32].toArray⟩:=cR ", "
  rw [e,dI x [44,32],dI (x++[44,32]) (Dm.shJ (y::r))]
  simp [Dm.shJ]
mutual
theorem pS:∀ (n:Nat) (d:Dm.Dat),Dm.fH n d=true→(pyD d).shown=⟨(Dm.shw d).toArray⟩
 | _,.non,_=>by unfold pyD;rw [PyData.shown_none];exact cR "None"
 | _,.bl b,_=>by
  unfold pyD
  rw [PyData.shown_bool]
  cases b
  ·exact cR "False"
  ·exact cR "True"
 | _,.int i,_=>by unfold pyD;rw [PyData.shown_int];exact cR (toString i)
 | n+1,.tup xs,h=>by
  unfold pyD
  rw [PyData.shown_tuple,iG n xs h,jU,pR]
  have e1:(("(" : String):Str)=⟨[40].toArray⟩:=cR "("
  rw [e1,dI [40] (Dm.shJ (Dm.dR xs))]
  unfold Dm.shw
  by_cases q:(xs.length == 1)=true
  ·rw [if_pos q,if_pos q]
   have e2:((",)" : String):Str)=⟨[44,41].toArray⟩:=cR ",)"
   rw [e2,dI ([40]++Dm.shJ (Dm.dR xs)) [44,41]]
   simp
  ·rw [if_neg q,if_neg q]
   have e2:((")" : String):Str)=⟨[41].toArray⟩:=cR ")"
   rw [e2,dI ([40]++Dm.shJ (Dm.dR xs)) [41]]
   simp
 | n+1,.lst xs,h=>by
  unfold pyD
  rw [PyData.shown_list,iG n xs h,jU]
  have e1:(("[" : String):Str)=⟨[91].toArray⟩:=cR "["
  have e2:(("]" : String):Str)=⟨[93].toArray⟩:=cR "]"
  rw [e1,e2,dI [91] (Dm.shJ (Dm.dR xs)),dI ([91]++Dm.shJ (Dm.dR xs)) [93]]
  unfold Dm.shw
  simp
 | 0,.tup xs,h=>by cases h
 | 0,.lst xs,h=>by cases h
 | 0,.str _,h=>by cases h
 | _+1,.str _,h=>by cases h
 | 0,.dct _ _,h=>by cases h
 | _+1,.dct _ _,h=>by cases h
 | 0,.exc _,h=>by cases h
 | _+1,.exc _,h=>by cases h
 | 0,.fn _,h=>by cases h
 | _+1,.fn _,h=>by cases h
theorem iG:∀ (n:Nat) (xs:List Dm.Dat),Dm.aU n xs=true→PyData.shownAll (fh xs)=(Dm.dR xs).map fun x=>(⟨x.toArray⟩:Str)
 | _,[],_=>by unfold fh Dm.dR;rw [PyData.shownAll_nil];rfl
 | n,x::r,h=>by
  unfold Dm.aU at h
  rw [Bool.and_eq_true] at h
  unfold fh Dm.dR
  rw [PyData.shownAll_cons,pS n x h.1,iG n r h.2]
  rfl
end
mutual
theorem yC:∀ (n:Nat) (d:Dm.Dat),Dm.fH n d=true→(pyD d).showable=true∧(pyD d).hasDict=false∧(pyD d).depth≤n
 | _,.non,_=>by unfold pyD PyData.showable PyData.hasDict PyData.depth;exact ⟨rfl,rfl,Nat.zero_le _⟩
 | _,.bl b,_=>by unfold pyD PyData.showable PyData.hasDict PyData.depth;exact ⟨rfl,rfl,Nat.zero_le _⟩
 | n,.int i,h=>by
  unfold pyD PyData.showable PyData.hasDict PyData.depth
  refine ⟨decide_eq_true ?_,rfl,Nat.zero_le _⟩
  have hi:i.natAbs<10 ^ 100:=by cases n<;>exact of_decide_eq_true h
  by_cases z:i.natAbs=0
  ·rw [z];decide
  ·exact (Nat.log2_lt z).mpr (Nat.lt_trans hi (by decide))
 | n+1,.tup xs,h=>by
  obtain ⟨h1,h2,h3⟩:=fits_of n xs h
  unfold pyD PyData.showable PyData.hasDict PyData.depth
  exact ⟨h1,h2,by omega⟩
 | n+1,.lst xs,h=>by
  obtain ⟨h1,h2,h3⟩:=fits_of n xs h
  unfold pyD PyData.showable PyData.hasDict PyData.depth
  exact ⟨h1,h2,by omega⟩
 | 0,.tup xs,h=>by cases h
 | 0,.lst xs,h=>by cases h
 | 0,.str _,h=>by cases h
 | _+1,.str _,h=>by cases h
 | 0,.dct _ _,h=>by cases h
 | _+1,.dct _ _,h=>by cases h
 | 0,.exc _,h=>by cases h
 | _+1,.exc _,h=>by cases h
 | 0,.fn _,h=>by cases h
 | _+1,.fn _,h=>by cases h
theorem fits_of:∀ (n:Nat) (xs:List Dm.Dat),Dm.aU n xs=true→PyData.showableAll (fh xs)=true∧PyData.hasDictAll (fh xs)=false∧PyData.depthAll (fh xs)≤n
 | _,[],_=>by unfold fh PyData.showableAll PyData.hasDictAll PyData.depthAll;exact ⟨rfl,rfl,Nat.zero_le _⟩
 | n,x::r,h=>by
  unfold Dm.aU at h
  rw [Bool.and_eq_true] at h
  obtain ⟨a1,a2,a3⟩:=yC n x h.1
  obtain ⟨b1,b2,b3⟩:=fits_of n r h.2
  unfold fh PyData.showableAll PyData.hasDictAll PyData.depthAll
  exact ⟨by rw [a1,b1];rfl,by rw [a2,b2];rfl,Nat.max_le.mpr ⟨a3,b3⟩⟩
end
mutual
theorem pT {X:Cx} {pins:List (Addr×Obj)} {σ:L2.St} {H:Hp} {s:Shared} (I:Inv X pins σ H s):∀ (n:Nat) (d:Dm.Dat) (v:V) (u:Value),Dm.fH n d=true→Rep H v d→RelV v u→∃ as,Reads s.heap u (pyD d) as
 | _,.non,v,u,_,r,q=>by cases r;cases q;unfold pyD;exact ⟨_,.none⟩
 | _,.bl b,v,u,_,r,q=>by cases r;cases q;unfold pyD;exact ⟨_,.bool b⟩
 | _,.int i,v,u,_,r,q=>by cases r;obtain ⟨t,rfl⟩:=q;unfold pyD;exact ⟨_,.int i t⟩
 | n+1,.tup ds,v,u,h,r,q=>by
  cases r with
  | @tup a xs _ hq rs=>
   cases q
   obtain ⟨its,rv,⟨o,ho,hc,m,hd⟩,hz⟩:=I.tuple (SqT.of (K:=X.K) hq)
   obtain ⟨as,ha⟩:=iH I n ds xs its h rs rv
   unfold pyD
   exact ⟨as,.tuple ho hc hd (by simpa using ha)⟩
 | n+1,.lst ds,v,u,h,r,q=>by
  cases r with
  | @lst a xs _ hq rs=>
   cases q
   obtain ⟨its,rv,⟨o,m,ho,hc,_,hd⟩,hz⟩:=I.list (.inl hq)
   obtain ⟨as,ha⟩:=iH I n ds xs its h rs rv
   unfold pyD
   exact ⟨_,.list ho hc hd (by simpa using ha)⟩
 | 0,.tup xs,_,_,h,_,_=>by cases h
 | 0,.lst xs,_,_,h,_,_=>by cases h
 | 0,.str _,_,_,h,_,_=>by cases h
 | _+1,.str _,_,_,h,_,_=>by cases h
 | 0,.dct _ _,_,_,h,_,_=>by cases h
 | _+1,.dct _ _,_,_,h,_,_=>by cases h
 | 0,.exc _,_,_,h,_,_=>by cases h
 | _+1,.exc _,_,_,h,_,_=>by cases h
 | 0,.fn _,_,_,h,_,_=>by cases h
 | _+1,.fn _,_,_,h,_,_=>by cases h
theorem iH {X:Cx} {pins:List (Addr×Obj)} {σ:L2.St} {H:Hp} {s:Shared} (I:Inv X pins σ H s):∀ (n:Nat) (ds:List Dm.Dat) (vs:List V) (us:List Value),Dm.aU n ds=true→aF H vs ds→Vals vs us→∃ as,ReadsAll s.heap us (fh ds) as
 | _,[],vs,us,_,r,q=>by cases r;cases q;unfold fh;exact ⟨_,.nil⟩
 | n,d::ds,vs,us,h,r,q=>by
  cases r with
  | cons r rs=>
   cases q with
   | cons q qs=>
    unfold Dm.aU at h
    rw [Bool.and_eq_true] at h
    obtain ⟨as,ha⟩:=pT I n d _ _ h.1 r q
    obtain ⟨bs,hb⟩:=iH I n ds _ _ h.2 rs qs
    unfold fh
    exact ⟨_,.cons ha hb⟩
end
noncomputable def HS:List V→Hp→VK→Prop:=fun xs H Q=>∃ (a:Addr) (d:Dm.Dat),xs=[.ref a]∧Dm.fH 8 d=true∧(Dm.shw d).length≤sizeLine∧Rep H (.ref a) d∧Q (.str ⟨(Dm.shw d).toArray⟩) H
theorem pU {X:Cx} {k:Nat} (hr:bE k X.A):cH X (.type "str") HS:=by
 intro pins s σ H xs us Q I r h
 obtain ⟨a,d,rfl,hd,hz,rd,q⟩:=h
 obtain ⟨u,rfl,rx⟩:=vals1 r
 cases rx
 obtain ⟨as,ha⟩:=pT I 8 d _ _ hd rd rfl
 obtain ⟨f1,f2,f3⟩:=yC 8 d hd
 have sh:=pS 8 d hd
 have un:=hr.un
 refine str_of_reads ha f1 (fun z=>by rw [f2] at z;cases z) hr.gd (by omega) (fun _ _ e=>e) (fun h' u tk kp=>?_) (by rw [sh];exact Nat.le_trans (by show (Dm.shw d).toArray.size≤_;simp) hz)
 rw [sh]
 exact ⟨.str ⟨(Dm.shw d).toArray⟩,H,I.kept (t':=tk) kp,⟨u,rfl⟩,q⟩
theorem ES:CallD HS Dm.pP:=by
 intro H0 H vs ds z Q s rs e k
 have sz:110*900≤sizeLine:=by decide
 unfold Dm.pP at e
 split at e
 ·split at e
  ·rename_i hk
   cases e
   cases rs with
   | cons r rr=>
    cases rr
    rcases r with r | ⟨a,_,w⟩
    ·cases r with
     | tup q rs=>
      have rp:Rep H (.ref _) (.tup _):=.tup (s _ _ q) (rs.mono s)
      have:=Dm.nU 8 _ hk.1
      have h2:=hk.2
      exact ⟨_,_,rfl,hk.1,by omega,rp,k _ H0 H (aL.refl s) (.str _)⟩
    ·exact False.elim w
  ·cases e
 ·split at e
  ·rename_i hk
   cases e
   cases rs with
   | cons r rr=>
    cases rr
    obtain ⟨a,us,rfl,qa,ra⟩:=bB s r
    have rp:Rep H (.ref a) (.lst _):=.lst qa (ra.mono s)
    have:=Dm.nU 8 _ hk.1
    have h2:=hk.2
    exact ⟨_,_,rfl,hk.1,by omega,rp,k _ H0 H (aL.refl s) (.str _)⟩
  ·cases e
 ·cases e
section
variable {X:Cx} {e:Expr} {fs:List Dm.FE} {p pos:Pos} {k:Nat}
theorem yD (hr:bE k X.A) (hg:Gl X "str") (hm:X.mg "str" = none) (ha:DA X [e] fs) (he:starEach [e] X.env=[(false,eval e X.env)]:=by rfl) (hpl:(backTo pos (starEach [] X.env)).any (·.1)=false:=by rfl):DE X (.Call (.Name "str" p) [e] [] pos) (Dm.eB Dm.pP fs):=Hj (pU hr) ES (by rfl) hg hm ha (he:=he) (hpl:=hpl)
end
end Br
namespace Dm
noncomputable def eT:List Dat→Option RV
 | [.lst ds]=>(match iR ds with
  | some nss=>if nss.length≤63 then some (.new (.lst ((gR lx nss).map rP))) else none
  | none=>none)
 | _=>none
end Dm
namespace Br
open PySem PySem.Spec PyProof.Rows L2
noncomputable def uv (K:PySem.W.Frag):List V→Hp→VK→Prop:=fun xs H Q=>∃ (p:Addr) (ys:List V),xs=[.ref p]∧SqL K H p ys∧ys.length≤63∧(∀ y∈ys,∃ (a:Addr) (ks:List Int),y=.ref a∧H a=some (.tup (ks.map V.int))∧ks≠[]) ∧
 ∀ (zs:List V) (l:Addr),zs.Perm ys→zs.Pairwise (fun y z=>∀ (a b:Addr) (ks ms:List Int),y=.ref a→z=.ref b→H a=some (.tup (ks.map V.int))→H b=some (.tup (ms.map V.int))→Dm.lx ms ks=false)→H l=none→Q (.ref l) (upd H l (.lst zs))
section
variable {X:Cx}
theorem pV:cH X (.builtin "sorted") (uv X.K):=by
 intro pins s σ H xs us Q I r h
 obtain ⟨p,ys,rfl,hq,hl,hks,k⟩:=h
 obtain ⟨u,rfl,rx⟩:=vals1 r
 cases rx
 obtain ⟨its,rv,pl,hz⟩:=I.list hq
 have hlen:=rv.length
 have refs:∀ (ys:List V) (its:List Value),Vals ys its→(∀ y∈ys,∃ (a:Addr) (ks:List Int),y=.ref a∧H a=some (.tup (ks.map V.int))∧ks≠[])→its.map bk=ys∧∀ v∈its,∃ (a:Addr) (ks:List Int),v=.ref a∧H a=some (.tup (ks.map V.int))∧ks≠[]:=fun ys=>by
  induction ys with
  | nil=>intro its rv _;cases rv;exact ⟨rfl,fun v hv=>by cases hv⟩
  | cons y ys ih=>
   intro its rv hy
   cases rv with
   | cons h1 h2=>
    obtain ⟨a,ks,rfl,h3,h4⟩:=hy y List.mem_cons_self
    cases h1
    obtain ⟨i1,i2⟩:=ih _ h2 fun z hz=>hy z (List.mem_cons_of_mem _ hz)
    refine ⟨by rw [List.map_cons,i1];rfl,fun v hv=>?_⟩
    rcases List.mem_cons.mp hv with rfl | hv
    ·exact ⟨a,ks,rfl,h3,h4⟩
    ·exact i2 v hv
 obtain ⟨eb,hv⟩:=refs ys its rv hks
 have key:∀ v∈its,∃ ks,(eO H).keyOf v=some ks:=fun v hm=>by
  obtain ⟨a,ks,rfl,h3,_⟩:=hv v hm
  refine ⟨ks,?_⟩
  show dG H (.ref a)=some ks
  unfold dG
  dsimp only
  rw [h3]
  exact a_ ks
 have hk:KeysOf (eO H) (pairsOf its):=fun q hq=>key q.1 (eS hq).2
 have look:∀ (h':Heap),(∀ b o,s.heap.get? b=some o→h'.get? b=some o)→∀ (v:Value) (ks:List Int),dG H v=some ks→∃ (a:Addr) (o:Obj) (ts:List Value) (n:Nat),v=.ref a∧h'.get? a=some o∧o.cls=.type "tuple" ∧ o.data=.seq ts.toArray n∧IntsAre ts ks:=fun h' kp v ks e=>by
  unfold dG at e
  split at e
  ·rename_i a
   split at e
   ·rename_i xs hx
    have:=jK e
    subst this
    obtain ⟨_,ts,rt,o,ho,hc,n,hd⟩:=I.hok a _ hx
    exact ⟨a,o,ts,n,rfl,kp _ _ ho,hc,hd,intsAre_of rt⟩
   ·cases e
  ·cases e
 refine Ts.nF (κ:=eO H) (kd:=tuples' true) pl.isList (by omega) hk (fun A' h' kp h2 {Q'} {E'} hq'=>?_) (fun A' E' h' kp=>?_) fun st' hp hs=>?_
 ·-- the kind
  have tups:∀ l:List Value,(∀ v∈l,∃ (a:Addr) (ks:List Int),v=.ref a∧H a=some (.tup (ks.map V.int))∧ks≠[])→∃ fs,PySem.W.KatTups h' l fs∧fs.length=l.length∧∀ f∈fs,∃ n t,f=Value.int n t:=fun l=>by
   induction l with
   | nil=>intro _;exact ⟨[],.nil,rfl,fun f hf=>by cases hf⟩
   | cons v l ih=>
    intro hl'
    obtain ⟨a,ks,rfl,h3,h4⟩:=hl' v List.mem_cons_self
    obtain ⟨fs,t,lf,hf⟩:=ih fun z hz=>hl' z (List.mem_cons_of_mem _ hz)
    obtain ⟨a',o,ts,n,e,ho,hc,hd,hi⟩:=look h' kp (.ref a) ks (by unfold dG;dsimp only;rw [h3];exact a_ ks)
    cases e
    cases hi with
    | nil=>exact absurd rfl h4
    | cons m t' hi'=>
     refine ⟨_::fs,.cons ho hc hd (f:=.int m t') (by simp) t,by simp [lf],fun f hm=>?_⟩
     rcases List.mem_cons.mp hm with rfl | hm
     ·exact ⟨_,_,rfl⟩
     ·exact hf f hm
  obtain ⟨fs,t,lf,hf⟩:=tups its hv
  refine PySem.W.kat_kind (s:={ s with heap:=h' }) (T:=.type "int") t (by omega) (fun f hm=>?_) (by rfl) ?_
  ·obtain ⟨n,tk,rfl⟩:=hf f hm
   exact .now
  ·exact hq'
 ·refine mw fun x y a b {Q'} {E''} ha hb q=>?_
  obtain ⟨ax,ox,tx,nx,ex,hx,_,dx,ix⟩:=look h' kp x.1 a ha
  obtain ⟨ay,oy,ty,ny,ey,hy,_,dy,iy⟩:=look h' kp y.1 b hb
  rw [ex,ey]
  refine PySem.W.kat_lt (s:={ s with heap:=h' }) hx dx hy dy ?_
  exact jL 0 ix iy (by rw [List.size_toArray,List.size_toArray,ix.length,iy.length]) q
 ·obtain ⟨out,eo,po,so⟩:=x_ hk hp hs
  rw [eo]
  obtain ⟨c,hc⟩:=sortedAll_at s.heap its out.toArray
  have vo:∀ l:List Value,(∀ v∈l,∃ (a:Addr) (ks:List Int),v=.ref a∧H a=some (.tup (ks.map V.int))∧ks≠[])→Vals (l.map bk) l:=fun l=>by
   induction l with
   | nil=>intro _;exact .nil
   | cons v l ih=>
    intro hl'
    obtain ⟨a,ks,rfl,_⟩:=hl' v List.mem_cons_self
    exact .cons rfl (ih fun z hz=>hl' z (List.mem_cons_of_mem _ hz))
  have hvo:=vo out fun v hm=>hv v (po.mem_iff.mp hm)
  have hz2:(out.map bk).length≤sizeLine:=by rw [List.length_map,po.length_eq,← hlen];exact hz
  refine ⟨.ref (s.heap.objs.size+1),_,I.laid (t':=s.toks) (fun _ _=>sortedAll_old) (Nat.le_succ _) (show bh X.prog X.w _ _ _ (.lst (out.map bk)) from ⟨hz2,out,c,hvo,hc⟩),rfl,k _ _ ?_ ?_ (I.hok.fresh (Nat.le_succ _))⟩
  ·have:=po.map bk
   rwa [eb] at this
  ·rw [List.pairwise_map]
   refine List.Pairwise.imp_of_mem ?_ so
   intro x y hx hy hle a b ks ms e1 e2 h1 h2
   obtain ⟨a',ks',rfl,h1',_⟩:=hv x (po.mem_iff.mp hx)
   obtain ⟨b',ms',rfl,h2',_⟩:=hv y (po.mem_iff.mp hy)
   cases e1
   cases e2
   refine hle ks ms ?_ ?_
   ·show dG H (.ref a)=some ks
    unfold dG
    dsimp only
    rw [h1]
    exact a_ ks
   ·show dG H (.ref b)=some ms
    unfold dG
    dsimp only
    rw [h2]
    exact a_ ms
end
theorem vY {K:PySem.W.Frag}:CallD (uv K) Dm.eT:=by
 intro H0 H vs ds z Q s rs e k
 unfold Dm.eT at e
 split at e
 case h_2=>cases e
 rename_i xs
 cases rs with
 | cons r rr=>
  cases rr
  obtain ⟨a,us,rfl,qa,ra⟩:=bB s r
  split at e
  case h_2=>cases e
  rename_i nss en
  split at e
  case isFalse=>cases e
  rename_i hb
  cases e
  obtain ⟨qs,rfl,rfl,hq⟩:=yx ra en
  rw [List.length_map] at hb
  refine ⟨a,_,rfl,.inl qa,by rw [List.length_map];exact hb,fun y hy=>?_,fun zs l pm so hl=>?_⟩
  · obtain ⟨p,hp,rfl⟩:=List.mem_map.mp hy
    exact ⟨p.2,p.1,rfl,s _ _ (hq p hp).1,(hq p hp).2⟩
  · let ks:V→List Int:=fun v=>match v with
      | .ref b=>(match H0 b with
        | some (.tup ys)=>(ek ys).getD []
        | _=>[])
      | _=>[]
    have hks:∀ p∈qs,ks (.ref p.2)=p.1:=fun p hp=>by
      show (match H0 p.2 with | some (.tup ys)=>(ek ys).getD [] | _=>[])=p.1
      rw [(hq p hp).1]
      dsimp only
      rw [a_]
      rfl
    have hz:∀ y∈zs,∃ b:Addr,y=.ref b∧H0 b=some (.tup ((ks y).map V.int)):=fun y hy=>by
      obtain ⟨p,hp,rfl⟩:=List.mem_map.mp (pm.mem_iff.mp hy)
      exact ⟨p.2,rfl,by rw [hks p hp];exact (hq p hp).1⟩
    have pk:(zs.map ks).Perm (qs.map (·.1)):=by
      refine (pm.map ks).trans (.of_eq ?_)
      rw [List.map_map]
      exact List.map_congr_left fun p hp=>hks p hp
    have srt:(zs.map ks).Pairwise (fun a b=>Dm.lx b a=false):=by
      rw [List.pairwise_map]
      refine List.Pairwise.imp_of_mem ?_ so
      intro x y hx hy hle
      obtain ⟨b1,q1,q2⟩:=hz x hx
      obtain ⟨b2,q3,q4⟩:=hz y hy
      exact hle b1 b2 _ _ q1 q3 (s _ _ q2) (s _ _ q4)
    have es:zs.map ks=Dm.gR Dm.lx (qs.map (·.1)):=by
      refine Dm.cK (lt:=Dm.lx) Dm.cZ (pk.trans (Dm.dF _ _).symm) srt (Dm.cu (fun a b c h1 h2=>?_) (fun a b h=>?_) _)
      · cases h:Dm.lx c a
        · rfl
        · rcases Dm.nG c b a h with z | z
          · rw [z] at h2;cases h2
          · rw [z] at h1;cases h1
      · cases h':Dm.lx b a
        · rfl
        · have:=Dm.cY a b a h h'
          rw [Dm.cX] at this;cases this
    refine k _ _ _ (aL.ng s hl) ⟨l,rfl,hl,s.free hl,_,aD,?_⟩
    rw [← es]
    exact iA ks hz
section
variable {X:Cx} {e:Expr} {fs:List Dm.FE} {p pos:Pos}
theorem yE (hg:Gl X "sorted") (hm:X.mg "sorted" = none) (ha:DA X [e] fs) (he:starEach [e] X.env=[(false,eval e X.env)]:=by rfl) (hpl:(backTo pos (starEach [] X.env)).any (·.1)=false:=by rfl):DE X (.Call (.Name "sorted" p) [e] [] pos) (Dm.eB Dm.eT fs):=xD pV vY (by rfl) hg hm ha (he:=he) (hpl:=hpl)
end
end Br
namespace Dm
noncomputable def We (e:FE) (ρ:Env) (Q:Val→Env→Prop):Prop:=∃ v ρ',e ρ=some (v,ρ')∧Q v ρ'
noncomputable def Wt (t:FT) (ρ:Env) (Q:Bool→Env→Prop):Prop:=∃ v ρ',t ρ=some (v,ρ')∧Q v ρ'
noncomputable def Was (as:List FE) (ρ:Env) (Q:List Val→Env→Prop):Prop:=∃ v ρ',eAs as ρ=some (v,ρ')∧Q v ρ'
noncomputable def Wi (it:FI) (ρ:Env) (Q:List Dat→Env→Prop):Prop:=∃ v ρ',it ρ=some (v,ρ')∧Q v ρ'
noncomputable def KO (N:Env→Prop) (R:RV→Env→Prop) (B C:Env→Prop):Out→Prop
 | .nx ρ=>N ρ
 | .ret r ρ=>R r ρ
 | .bk ρ=>B ρ
 | .ct ρ=>C ρ
noncomputable def Ws (s:FS) (ρ:Env) (N:Env→Prop) (R:RV→Env→Prop) (B C:Env→Prop):Prop:=∃ o,s ρ=some o∧KO N R B C o
noncomputable def Wr (o:Option RV) (P:RV→Prop):Prop:=∃ r,o=some r∧P r
noncomputable def Wif (c:Bool) (X Y:Prop):Prop:=(c=true→X)∧(c=false→Y)
noncomputable def Wg1 (g:Dat→Option RV) (o:Option Dat) (K:RV→Prop):Prop:=∃ d v,o=some d∧g d=some v∧K v
noncomputable def Wg2 (g:Dat→Dat→Option RV) (o p:Option Dat) (K:RV→Prop):Prop:=∃ d e v,o=some d∧p=some e∧g d e=some v∧K v
noncomputable def WB (g:List Dat→Option RV) (o:Option (List Dat)) (K:RV→Prop):Prop:=∃ ds v,o=some ds∧g ds=some v∧K v
noncomputable def WT (o:Option (List Dat×Env)) (K:List Dat→Env→Prop):Prop:=∃ ds ρ,o=some (ds,ρ)∧ds.length≤SZ∧K ds ρ
noncomputable def WF (f:List Dat→Option RV) (ρ:Env) (xs:List Val) (Q:Val→Env→Prop):Prop:=∃ ds v,pks ρ xs=some ds∧f ds=some v∧(if dW v.dat then ∃ ds' ρ2,tks ρ xs=some (ds',ρ2)∧Q v.bz ρ2 else Q v.bz ρ)
noncomputable def Wk (ρ:Env) (x:Val) (K:Dat→Env→Prop):Prop:=∃ d ρ',tk ρ x=some (d,ρ')∧K d ρ'
theorem Wif.t {X Y:Prop} (x:X):Wif true X Y:=⟨fun _=>x,fun h=>by cases h⟩
theorem Wif.f {X Y:Prop} (y:Y):Wif false X Y:=⟨fun h=>(by cases h),fun _=>y⟩
theorem Wif.yes {c:Bool} {X Y:Prop} (h:c=true) (x:X):Wif c X Y:=⟨fun _=>x,fun h'=>by rw [h] at h';cases h'⟩
theorem Wif.no {c:Bool} {X Y:Prop} (h:c=false) (y:Y):Wif c X Y:=⟨fun h'=>(by rw [h] at h';cases h'),fun _=>y⟩
theorem Wif.dec {p:Prop} [Decidable p] {X Y:Prop} (x:p→X) (y:¬ p→Y):Wif (decide p) X Y:=⟨fun h=>x (of_decide_eq_true h),fun h=>y (of_decide_eq_false h)⟩
theorem We.v {i:Nat} {ρ:Env} {d:Dat} {Q:Val→Env→Prop} (h:ρ[i]?=some (.sh d)) (q:Q (.val d) ρ):We (eV i) ρ Q:=⟨_,_,by unfold eV;rw [h],q⟩
theorem We.w {i:Nat} {ρ:Env} {d:Dat} {Q:Val→Env→Prop} (h:ρ[i]?=some (.ow d)) (q:Q (.slot i) ρ):We (eV i) ρ Q:=⟨_,_,by unfold eV;rw [h],q⟩
theorem We.c {d:Dat} {ρ:Env} {Q:Val→Env→Prop} (q:Q (.val d) ρ):We (eC d) ρ Q:=⟨_,_,rfl,q⟩
theorem We.e1 {g:Dat→Option RV} {a:FE} {ρ:Env} {Q:Val→Env→Prop} (h:We a ρ fun x ρ1=>Wg1 g (pk ρ1 x) fun v=>Q v.bz ρ1):We (e1 g a) ρ Q:=by
 obtain ⟨x,ρ1,h1,d,v,h2,h3,q⟩:=h
 exact ⟨_,_,by unfold Dm.e1;rw [h1];dsimp only;rw [h2];dsimp only;rw [h3],q⟩
theorem We.e2 {g:Dat→Dat→Option RV} {a b:FE} {ρ:Env} {Q:Val→Env→Prop} (h:We a ρ fun x ρ1=>We b ρ1 fun y ρ2=>Wg2 g (pk ρ2 x) (pk ρ2 y) fun v=>Q v.bz ρ2):We (e2 g a b) ρ Q:=by
 obtain ⟨x,ρ1,h1,y,ρ2,h2,d,e,v,h3,h4,h5,q⟩:=h
 exact ⟨_,_,by unfold Dm.e2;rw [h1];dsimp only;rw [h2];dsimp only;rw [h3];dsimp only;rw [h4];dsimp only;rw [h5],q⟩
theorem Was.nil {ρ:Env} {Q:List Val→Env→Prop} (q:Q [] ρ):Was [] ρ Q:=⟨_,_,rfl,q⟩
theorem Was.cons {a:FE} {r:List FE} {ρ:Env} {Q:List Val→Env→Prop} (h:We a ρ fun x ρ1=>Was r ρ1 fun xs ρ2=>Q (x::xs) ρ2):Was (a::r) ρ Q:=by
 obtain ⟨x,ρ1,h1,xs,ρ2,h2,q⟩:=h
 exact ⟨_,_,by unfold eAs;rw [h1];dsimp only;rw [h2],q⟩
theorem We.B {g:List Dat→Option RV} {as:List FE} {ρ:Env} {Q:Val→Env→Prop} (h:Was as ρ fun xs ρ1=>WB g (pks ρ1 xs) fun v=>Q v.bz ρ1):We (eB g as) ρ Q:=by
 obtain ⟨x,ρ1,h1,d,v,h2,h3,q⟩:=h
 exact ⟨_,_,by unfold eB;rw [h1];dsimp only;rw [h2];dsimp only;rw [h3],q⟩
theorem We.T {as:List FE} {ρ:Env} {Q:Val→Env→Prop} (h:Was as ρ fun xs ρ1=>WT (tks ρ1 xs) fun ds ρ2=>Q (.val (.tup ds)) ρ2):We (eU as) ρ Q:=by
 obtain ⟨x,ρ1,h1,ds,ρ2,h2,h3,q⟩:=h
 exact ⟨_,_,by unfold eU;rw [h1];dsimp only;rw [h2];dsimp only;rw [if_pos h3],q⟩
theorem We.L {as:List FE} {ρ:Env} {Q:Val→Env→Prop} (h:Was as ρ fun xs ρ1=>WT (tks ρ1 xs) fun ds ρ2=>Q (.new (.lst ds)) ρ2):We (eW as) ρ Q:=by
 obtain ⟨x,ρ1,h1,ds,ρ2,h2,h3,q⟩:=h
 exact ⟨_,_,by unfold eW;rw [h1];dsimp only;rw [h2];dsimp only;rw [if_pos h3],q⟩
theorem WT.mk {ρ:Env} {xs:List Val} {ds:List Dat} {ρ2 ρ3:Env} {K:List Dat→Env→Prop} (k:K ds ρ3) (h:tks ρ xs=some (ds,ρ2)) (hn:ρ2=ρ3) (hl:ds.length≤SZ):WT (tks ρ xs) K:=⟨_,_,hn▸h,hl,k⟩
theorem We.F {f:List Dat→Option RV} {as:List FE} {ρ:Env} {Q:Val→Env→Prop} (h:Was as ρ fun xs ρ1=>WF f ρ1 xs Q):We (eF f as) ρ Q:=by
 obtain ⟨x,ρ1,h1,ds,v,h2,h3,h4⟩:=h
 by_cases hb:dW v.dat=true
 ·rw [if_pos hb] at h4
  obtain ⟨ds',ρ2,h5,q⟩:=h4
  exact ⟨_,_,by unfold eF;rw [h1];dsimp only;rw [h2];dsimp only;rw [h3];dsimp only;rw [if_pos hb,h5],q⟩
 ·rw [if_neg hb] at h4
  exact ⟨_,_,by unfold eF;rw [h1];dsimp only;rw [h2];dsimp only;rw [h3];dsimp only;rw [if_neg hb],h4⟩
theorem WF.box {f:List Dat→Option RV} {ρ ρ2 ρ3:Env} {xs:List Val} {ds ds':List Dat} {v:RV} {Q:Val→Env→Prop} (h2:f ds=some v) (q:Q v.bz ρ3) (h1:pks ρ xs=some ds) (h3:dW v.dat=true) (h4:tks ρ xs=some (ds',ρ2)) (hn:ρ2=ρ3):WF f ρ xs Q:=
 ⟨_,_,h1,h2,by rw [if_pos h3];exact ⟨_,_,h4,hn▸q⟩⟩
theorem WF.val {f:List Dat→Option RV} {ρ:Env} {xs:List Val} {ds:List Dat} {v:RV} {Q:Val→Env→Prop} (h2:f ds=some v) (q:Q v.bz ρ) (h1:pks ρ xs=some ds) (h3:dW v.dat=false):WF f ρ xs Q:=
 ⟨_,_,h1,h2,by rw [if_neg (by rw [h3];decide)];exact q⟩
theorem We.If {t:FT} {a b:FE} {ρ:Env} {Q:Val→Env→Prop} (h:Wt t ρ fun c ρ1=>Wif c (We a ρ1 Q) (We b ρ1 Q)):We (eIf t a b) ρ Q:=by
 obtain ⟨c,ρ1,h1,h2,h3⟩:=h
 cases c with
 | true=>obtain ⟨v,ρ2,h4,q⟩:=h2 rfl;exact ⟨_,_,by unfold eIf;rw [h1];exact h4,q⟩
 | false=>obtain ⟨v,ρ2,h4,q⟩:=h3 rfl;exact ⟨_,_,by unfold eIf;rw [h1];exact h4,q⟩
noncomputable def Wb (v:Val) (K:Bool→Prop):Prop:=∃ c,v=.val (.bl c)∧K c
theorem Wb.mk {c:Bool} {K:Bool→Prop} (k:K c):Wb (.val (.bl c)) K:=⟨c,rfl,k⟩
theorem We.And {a b:FE} {ρ:Env} {Q:Val→Env→Prop} (h:We a ρ fun v ρ1=>Wb v fun c=>Wif c (We b ρ1 Q) (Q (.val (.bl false)) ρ1)):We (ia a b) ρ Q:=by
 obtain ⟨v,ρ1,h1,c,rfl,h2,h3⟩:=h
 cases c with
 | true=>obtain ⟨v,ρ2,h4,q⟩:=h2 rfl;exact ⟨_,_,by unfold ia;rw [h1];exact h4,q⟩
 | false=>exact ⟨_,_,by unfold ia;rw [h1],h3 rfl⟩
theorem Wt.V {a:FE} {ρ:Env} {Q:Bool→Env→Prop} (h:We a ρ fun v ρ1=>Wb v fun c=>Q c ρ1):Wt (tV a) ρ Q:=by
 obtain ⟨v,ρ1,h1,c,rfl,h2⟩:=h
 exact ⟨_,_,by unfold tV;rw [h1],h2⟩
theorem Wt.Not {t:FT} {ρ:Env} {Q:Bool→Env→Prop} (h:Wt t ρ fun c ρ1=>Q (!c) ρ1):Wt (dc t) ρ Q:=by
 obtain ⟨v,ρ1,h1,h2⟩:=h
 exact ⟨_,_,by unfold dc;rw [h1],h2⟩
theorem Wt.And {t u:FT} {ρ:Env} {Q:Bool→Env→Prop} (h:Wt t ρ fun c ρ1=>Wif c (Wt u ρ1 Q) (Q false ρ1)):Wt (jh t u) ρ Q:=by
 obtain ⟨c,ρ1,h1,h2,h3⟩:=h
 cases c with
 | true=>obtain ⟨v,ρ2,h4,q⟩:=h2 rfl;exact ⟨_,_,by unfold jh;rw [h1];exact h4,q⟩
 | false=>exact ⟨_,_,by unfold jh;rw [h1],h3 rfl⟩
theorem Wt.Or {t u:FT} {ρ:Env} {Q:Bool→Env→Prop} (h:Wt t ρ fun c ρ1=>Wif c (Q true ρ1) (Wt u ρ1 Q)):Wt (tOr t u) ρ Q:=by
 obtain ⟨c,ρ1,h1,h2,h3⟩:=h
 cases c with
 | false=>obtain ⟨v,ρ2,h4,q⟩:=h3 rfl;exact ⟨_,_,by unfold tOr;rw [h1];exact h4,q⟩
 | true=>exact ⟨_,_,by unfold tOr;rw [h1],h2 rfl⟩
theorem Wt.T {ρ:Env} {Q:Bool→Env→Prop} (q:Q true ρ):Wt cS ρ Q:=⟨_,_,rfl,q⟩
theorem Wk.val {ρ:Env} {d:Dat} {K:Dat→Env→Prop} (k:K d ρ):Wk ρ (.val d) K:=⟨_,_,rfl,k⟩
theorem Wk.new {ρ:Env} {d:Dat} {K:Dat→Env→Prop} (k:K d ρ):Wk ρ (.new d) K:=⟨_,_,rfl,k⟩
noncomputable def Bj:Dat→Option (List Dat)
 | .lst ds=>some ds
 | .tup ds=>some ds
 | _=>none
theorem Wi.S {a:FE} {ρ:Env} {Q:List Dat→Env→Prop} (h:We a ρ fun x ρ1=>Wk ρ1 x fun d ρ2=>∃ ds,Bj d=some ds∧Q ds ρ2):Wi (iS a) ρ Q:=by
 obtain ⟨x,ρ1,h1,d,ρ2,h2,ds,hd,q⟩:=h
 cases d with
 | lst xs=>cases hd;exact ⟨_,_,by unfold iS;rw [h1];dsimp only;rw [h2],q⟩
 | tup xs=>cases hd;exact ⟨_,_,by unfold iS;rw [h1];dsimp only;rw [h2],q⟩
 | _=>cases hd
noncomputable def cy (v:Val) (K:Int→Prop):Prop:=∃ i,v=.val (.int i)∧K i
theorem cy.mk {i:Int} {K:Int→Prop} (k:K i):cy (.val (.int i)) K:=⟨i,rfl,k⟩
theorem Wi.R1 {a:FE} {ρ:Env} {Q:List Dat→Env→Prop} (h:We a ρ fun v ρ1=>cy v fun j=>Q (ups 0 j.toNat) ρ1∧j≤BIG∧-BIG≤j):Wi (iR1 a) ρ Q:=by
 obtain ⟨v,ρ1,h1,j,rfl,q,h2⟩:=h
 exact ⟨_,_,by unfold iR1;rw [h1];dsimp only;rw [if_pos h2],q⟩
theorem Wi.R2 {a b:FE} {ρ:Env} {Q:List Dat→Env→Prop} (h:We a ρ fun v ρ1=>cy v fun i=>We b ρ1 fun w ρ2=>cy w fun j=>Q (ups i (j-i).toNat) ρ2∧j≤BIG∧-BIG≤j∧i≤BIG∧-BIG≤i):Wi (iR2 a b) ρ Q:=by
 obtain ⟨v,ρ1,h1,i,rfl,w,ρ2,h2,j,rfl,q,h3⟩:=h
 exact ⟨_,_,by unfold iR2;rw [h1];dsimp only;rw [h2];dsimp only;rw [if_pos h3],q⟩
theorem Wi.Rev {a:FE} {ρ:Env} {Q:List Dat→Env→Prop} (h:We a ρ fun x ρ1=>Wk ρ1 x fun d ρ2=>∃ ds,d=.lst ds∧Q ds.reverse ρ2):Wi (vL a) ρ Q:=by
 obtain ⟨x,ρ1,h1,d,ρ2,h2,ds,rfl,q⟩:=h
 exact ⟨_,_,by unfold vL;rw [h1];dsimp only;rw [h2],q⟩
theorem Wi.En {a:FE} {ρ:Env} {Q:List Dat→Env→Prop} (h:We a ρ fun x ρ1=>Wk ρ1 x fun d ρ2=>∃ ds,d=.lst ds∧Q (gQ 0 ds) ρ2):Wi (iEn a) ρ Q:=by
 obtain ⟨x,ρ1,h1,d,ρ2,h2,ds,rfl,q⟩:=h
 exact ⟨_,_,by unfold iEn;rw [h1];dsimp only;rw [h2],q⟩
theorem Ws.nx {ρ:Env} {N:Env→Prop} {R:RV→Env→Prop} {B C:Env→Prop} (n:N ρ):Ws sNx ρ N R B C:=⟨_,rfl,n⟩
theorem Ws.bk {ρ:Env} {N:Env→Prop} {R:RV→Env→Prop} {B C:Env→Prop} (n:B ρ):Ws sBk ρ N R B C:=⟨_,rfl,n⟩
theorem Ws.seq {s u:FS} {ρ:Env} {N:Env→Prop} {R:RV→Env→Prop} {B C:Env→Prop} (h:Ws s ρ (fun ρ1=>Ws u ρ1 N R B C) R B C):Ws (aA s u) ρ N R B C:=by
 obtain ⟨o,h1,h2⟩:=h
 cases o with
 | nx ρ1=>obtain ⟨o,h3,h4⟩:=h2;exact ⟨o,by unfold aA;rw [h1];exact h3,h4⟩
 | ret r ρ1=>exact ⟨.ret r ρ1,by unfold aA;rw [h1],h2⟩
 | bk ρ1=>exact ⟨.bk ρ1,by unfold aA;rw [h1],h2⟩
 | ct ρ1=>exact ⟨.ct ρ1,by unfold aA;rw [h1],h2⟩
noncomputable def WA (i:Nat) (v:Val) (ρ:Env) (N:Env→Prop):Prop:=match v with
 | .new d=>N (ρ.set i (.ow d))
 | x=>Wk ρ x fun d ρ2=>N (ρ2.set i (.sh d))
theorem Ws.A {i:Nat} {e:FE} {ρ:Env} {N:Env→Prop} {R:RV→Env→Prop} {B C:Env→Prop} (h:We e ρ fun v ρ1=>WA i v ρ1 N) (hi:i≠0):Ws (sA i e) ρ N R B C:=by
 obtain ⟨v,ρ1,h1,h2⟩:=h
 cases v with
 | new d=>exact ⟨.nx _,by unfold sA;rw [if_neg hi,h1],h2⟩
 | val d=>obtain ⟨d',ρ2,h3,h4⟩:=h2;exact ⟨.nx _,by unfold sA;rw [if_neg hi,h1];dsimp only;rw [h3],h4⟩
 | slot j=>obtain ⟨d',ρ2,h3,h4⟩:=h2;exact ⟨.nx _,by unfold sA;rw [if_neg hi,h1];dsimp only;rw [h3],h4⟩
theorem WA.new {i:Nat} {d:Dat} {ρ ρ2:Env} {N:Env→Prop} (n:N ρ2) (hs:ρ.set i (.ow d)=ρ2):WA i (.new d) ρ N:=by unfold WA;dsimp only;rw [hs];exact n
theorem WA.val {i:Nat} {d:Dat} {ρ ρ2:Env} {N:Env→Prop} (n:N ρ2) (hs:ρ.set i (.sh d)=ρ2):WA i (.val d) ρ N:=⟨_,_,rfl,by show N _;rw [hs];exact n⟩
theorem Ws.U {is:List Nat} {e:FE} {ρ:Env} {N:Env→Prop} {R:RV→Env→Prop} {B C:Env→Prop} (h:We e ρ fun x ρ1=>Wk ρ1 x fun d ρ2=>∃ ds ρ3,d=.tup ds∧sets is ds ρ2=some ρ3∧N ρ3):Ws (sU is e) ρ N R B C:=by
 obtain ⟨x,ρ1,h1,d,ρ2,h2,ds,ρ3,rfl,h3,n⟩:=h
 exact ⟨.nx _,by unfold sU;rw [h1];dsimp only;rw [h2];dsimp only;rw [h3],n⟩
theorem yF {ds:List Dat} {is:List Nat} {ρ ρ3 ρ4:Env} {N:Env→Prop} (n:N ρ4) (h:sets is ds ρ=some ρ3) (hn:ρ3=ρ4):∃ ds' ρ3,Dat.tup ds=.tup ds'∧sets is ds' ρ=some ρ3∧N ρ3:=⟨_,_,rfl,h,hn▸n⟩
theorem Ws.E {e:FE} {ρ:Env} {N:Env→Prop} {R:RV→Env→Prop} {B C:Env→Prop} (h:We e ρ fun _ ρ1=>N ρ1):Ws (sE e) ρ N R B C:=by
 obtain ⟨x,ρ1,h1,n⟩:=h
 exact ⟨.nx _,by unfold sE;rw [h1],n⟩
noncomputable def WR (v:Val) (ρ:Env) (R:RV→Env→Prop):Prop:=match v with
 | .new d=>R (.new d) ρ
 | .val d=>R (.val d) ρ
 | .slot i=>(∃ d,ρ[i]?=some (.ow d)∧R (.new d) (ρ.set i .un))
theorem Ws.R {e:FE} {ρ:Env} {N:Env→Prop} {R:RV→Env→Prop} {B C:Env→Prop} (h:We e ρ fun v ρ1=>WR v ρ1 R):Ws (sR e) ρ N R B C:=by
 obtain ⟨v,ρ1,h1,h2⟩:=h
 cases v with
 | new d=>exact ⟨.ret _ _,by unfold sR;rw [h1],h2⟩
 | val d=>exact ⟨.ret _ _,by unfold sR;rw [h1],h2⟩
 | slot i=>obtain ⟨d,h3,h4⟩:=h2;exact ⟨.ret _ _,by unfold sR;rw [h1];dsimp only;rw [h3],h4⟩
theorem WR.new {d:Dat} {ρ:Env} {R:RV→Env→Prop} (r:R (.new d) ρ):WR (.new d) ρ R:=r
theorem WR.val {d:Dat} {ρ:Env} {R:RV→Env→Prop} (r:R (.val d) ρ):WR (.val d) ρ R:=r
theorem WR.slot {d:Dat} {ρ:Env} {i:Nat} {R:RV→Env→Prop} (r:R (.new d) (ρ.set i .un)) (h:ρ[i]?=some (.ow d)):WR (.slot i) ρ R:=⟨d,h,r⟩
theorem Ws.If {t:FT} {a b:FS} {ρ:Env} {N:Env→Prop} {R:RV→Env→Prop} {B C:Env→Prop} (h:Wt t ρ fun c ρ1=>Wif c (Ws a ρ1 N R B C) (Ws b ρ1 N R B C)):Ws (sIf t a b) ρ N R B C:=by
 obtain ⟨c,ρ1,h1,h2,h3⟩:=h
 cases c with
 | true=>obtain ⟨o,h4,q⟩:=h2 rfl;exact ⟨_,by unfold sIf;rw [h1];exact h4,q⟩
 | false=>obtain ⟨o,h4,q⟩:=h3 rfl;exact ⟨_,by unfold sIf;rw [h1];exact h4,q⟩
theorem Ws.App {i:Nat} {e:FE} {ρ:Env} {N:Env→Prop} {R:RV→Env→Prop} {B C:Env→Prop} {ds0:List Dat} (h:We e ρ fun x ρ1=>Wk ρ1 x fun d ρ2=>∃ ds ρ3,ρ2[i]?=some (.ow (.lst ds))∧ρ2.set i (.ow (.lst (ds++[d])))=ρ3∧N ρ3∧ds.length<SZ) (h0:ρ[i]?=some (.ow (.lst ds0))):Ws (m9 i e) ρ N R B C:=by
 obtain ⟨x,ρ1,h1,d,ρ2,h2,ds,ρ3,h3,h5,n,h4⟩:=h
 exact ⟨.nx _,by unfold m9;rw [h0];dsimp only;rw [h1];dsimp only;rw [h2];dsimp only;rw [h3];dsimp only;rw [if_pos h4,h5],n⟩
theorem jV {i:Nat} {d:Dat} {ds:List Dat} {ρ2 ρ3:Env} {N:Env→Prop} (n:N ρ3) (h:ρ2[i]?=some (.ow (.lst ds))) (hs:ρ2.set i (.ow (.lst (ds++[d])))=ρ3) (hl:ds.length<SZ):∃ ds ρ3,ρ2[i]?=some (.ow (.lst ds))∧ρ2.set i (.ow (.lst (ds++[d])))=ρ3∧N ρ3∧ds.length<SZ:=⟨_,_,h,hs,n,hl⟩
theorem Ws.Set {i:Nat} {j e:FE} {ρ:Env} {N:Env→Prop} {R:RV→Env→Prop} {B C:Env→Prop} (h:We e ρ fun x ρ1=>Wk ρ1 x fun d ρ2=>(∃ d0,ρ2[i]?=some (.ow d0))∧We j ρ2 fun y ρ3=>cy y fun k=>∃ ds m ρ4,ρ3[i]?=some (.ow (.lst ds))∧ixN ds.length k=some m∧ρ3.set i (.ow (.lst (ds.set m d)))=ρ4∧N ρ4):Ws (oK i j e) ρ N R B C:=by
 obtain ⟨x,ρ1,h1,d,ρ2,h2,⟨d0,h0⟩,y,ρ3,h3,k,rfl,ds,m,ρ4,h4,h5,h6,n⟩:=h
 exact ⟨.nx _,by unfold oK;rw [h1];dsimp only;rw [h2];dsimp only;rw [h0];dsimp only;rw [h3];dsimp only;rw [h4];dsimp only;rw [h5];dsimp only;rw [h6],n⟩
theorem Ws.For {it:FI} {bd:FB} {body:FS} {ρ:Env} {N:Env→Prop} {R:RV→Env→Prop} {B C:Env→Prop} (h:Wi it ρ fun ds ρ1=>Ws (ic bd body ds) ρ1 N R B C):Ws (fy it bd body) ρ N R B C:=by
 obtain ⟨ds,ρ1,h1,o,h2,h3⟩:=h
 exact ⟨o,by unfold fy;rw [h1];exact h2,h3⟩
theorem Ws.inv {α:Type} (enc:α→Dat) (bd:FB) (body:FS) (xs:List α) (ρ:Env) (N:Env→Prop) (R:RV→Env→Prop) (B C:Env→Prop) (I:List α→List α→Env→Prop)
  (h0:I [] xs ρ) (hs:∀ p x q ρ,xs=p++x::q→I p (x::q) ρ→∃ ρ1,bd (enc x) ρ=some ρ1∧Ws body ρ1 (fun ρ2=>I (p++[x]) q ρ2) R N (fun ρ2=>I (p++[x]) q ρ2)) (he:∀ ρ,I xs [] ρ→N ρ):Ws (ic bd body (xs.map enc)) ρ N R B C:=by
 have go:∀ (q p:List α) (ρ:Env),xs=p++q→I p q ρ→Ws (ic bd body (q.map enc)) ρ N R B C:=fun q=>by
  induction q with
  | nil=>intro p ρ e i;rw [List.append_nil] at e;exact ⟨.nx _,rfl,he ρ (e▸i)⟩
  | cons x q ih=>
   intro p ρ e i
   obtain ⟨ρ1,h1,o,h2,h3⟩:=hs p x q ρ e i
   have e':xs=(p++[x])++q:=by rw [List.append_assoc];exact e
   cases o with
   | nx ρ2=>obtain ⟨o,h4,h5⟩:=ih _ _ e' h3;exact ⟨o,by rw [List.map_cons,ic,h1];dsimp only;rw [h2];exact h4,h5⟩
   | ct ρ2=>obtain ⟨o,h4,h5⟩:=ih _ _ e' h3;exact ⟨o,by rw [List.map_cons,ic,h1];dsimp only;rw [h2];exact h4,h5⟩
   | bk ρ2=>exact ⟨.nx _,by rw [List.map_cons,ic,h1];dsimp only;rw [h2],h3⟩
   | ret r ρ2=>exact ⟨.ret _ _,by rw [List.map_cons,ic,h1];dsimp only;rw [h2],h3⟩
 exact go xs [] ρ rfl h0
theorem Wr.fn {n m:Nat} {body:FS} {ds:List Dat} {ρ:Env} {P:RV→Prop} (b:Ws body ρ (fun _=>P (.val .non)) (fun r _=>P r) (fun _=>False) (fun _=>False)) (hρ:ds.map Cell.sh++List.replicate m .un=ρ) (h:ds.length=n):Wr (fn n m body ds) P:=by
 obtain ⟨o,h1,h2⟩:=b
 cases o with
 | nx ρ1=>exact ⟨_,by unfold Dm.fn;rw [if_pos h,hρ,h1],h2⟩
 | ret r ρ1=>exact ⟨_,by unfold Dm.fn;rw [if_pos h,hρ,h1],h2⟩
 | bk ρ1=>exact h2.elim
 | ct ρ1=>exact h2.elim
theorem Wr.eq {o:Option RV} {r:RV} (h:Wr o fun x=>x=r):o=some r:=by obtain ⟨x,h1,rfl⟩:=h;exact h1
theorem yG {α:Type} (enc:α→Dat) (p:α→Bool) (v:α→Dat) (bd:FB) (t:FT) (el:FE) (mk:Cell→Env) (hb:∀ d c,bd d (mk c)=some (mk (.sh d))):∀ (xs:List α) (c:Cell) (acc:List Dat),
  (∀ x∈xs,t (mk (.sh (enc x)))=some (p x,mk (.sh (enc x))))→(∀ x∈xs,p x=true→We el (mk (.sh (enc x))) fun w ρ'=>Wk ρ' w fun d ρ''=>d=v x∧ρ''=mk (.sh (enc x))) →
  ∃ c',cI bd t el (xs.map enc) (mk c) acc=some (acc++(xs.filter p).map v,mk c')
 | [],c,acc,_,_=>⟨c,by simp [cI]⟩
 | x::xs,c,acc,ht,he=>by
  rw [List.map_cons,cI,hb]
  dsimp only
  rw [ht x List.mem_cons_self]
  have ht':=fun y hy=>ht y (List.mem_cons_of_mem _ hy)
  have he':=fun y hy=>he y (List.mem_cons_of_mem _ hy)
  by_cases h:p x=true
  ·obtain ⟨w,ρ',h1,d,ρ'',h2,rfl,rfl⟩:=he x List.mem_cons_self h
   rw [h]
   dsimp only
   rw [h1]
   dsimp only
   rw [h2]
   obtain ⟨c',e⟩:=yG enc p v bd t el mk hb xs (.sh (enc x)) (acc++[v x]) ht' he'
   exact ⟨c',by dsimp only;rw [e,List.filter_cons_of_pos h];simp⟩
  ·rw [Bool.not_eq_true] at h
   rw [h]
   obtain ⟨c',e⟩:=yG enc p v bd t el mk hb xs (.sh (enc x)) acc ht' he'
   exact ⟨c',by dsimp only;rw [e,List.filter_cons_of_neg (by rw [h];decide)]⟩
theorem Wt.get {t:FT} {ρ:Env} {c:Bool} (h:Wt t ρ fun c' ρ'=>c'=c∧ρ'=ρ):t ρ=some (c,ρ):=by
 obtain ⟨_,_,h1,rfl,rfl⟩:=h;exact h1
theorem We.Comp {α:Type} (enc:α→Dat) (xs:List α) (p:α→Bool) (v:α→Dat) {it:FI} {k:Nat} {t:FT} {el:FE} {ρ ρ1:Env} {Q:Val→Env→Prop}
  (q:Q (.new (.lst ((xs.filter p).map v))) ρ1) (hit:it ρ=some (xs.map enc,ρ1)) (hk:ρ1.length=k) (hk0:k≠0) (hl:xs.length≤SZ)
  (ht:∀ x∈xs,Wt t (ρ1++[.sh (enc x)]) fun c ρ'=>c=p x∧ρ'=ρ1++[.sh (enc x)])
  (he:∀ x∈xs,p x=true→We el (ρ1++[.sh (enc x)]) fun w ρ'=>Wk ρ' w fun d ρ''=>d=v x∧ρ''=ρ1++[.sh (enc x)]):We (bG it 1 (bN k) t el) ρ Q:=by
 have bd:∀ (d:Dat) (c:Cell),bN k d (ρ1++[c])=some (ρ1++[.sh d]):=fun d c=>by
  unfold bN
  rw [if_neg hk0,List.set_append_right _ _ (by omega)]
  simp [hk]
 obtain ⟨c',e⟩:=yG enc p v (bN k) t el (fun c=>ρ1++[c]) bd xs .un [] (fun x hx=>Wt.get (ht x hx)) he
 refine ⟨_,_,?_,q⟩
 unfold bG
 rw [hit]
 dsimp only
 rw [if_pos (by rw [List.length_map];exact hl)]
 show (match cI _ _ _ _ (ρ1++[.un]) [] with | none=>none | some (ys,ρ2)=>some (Val.new (.lst ys),ρ2.take ρ1.length))=_
 rw [e]
 dsimp only
 rw [List.nil_append,List.take_left]
theorem We.CG {α:Type} (enc:α→Dat) (xs:List α) (p:α→Bool) (v:α→Dat) {i:Nat} {k:Nat} {t:FT} {el:FE} {ρ:Env} {Q:Val→Env→Prop} {d:Dat}
  (q:Q (.new (.lst ((xs.filter p).map v))) ρ) (hi:ρ[i]?=some (.sh d)) (hd:Bj d=some (xs.map enc)) (hk:ρ.length=k) (hk0:k≠0) (hl:xs.length≤SZ)
  (ht:∀ x∈xs,Wt t (ρ++[.sh (enc x)]) fun c ρ'=>c=p x∧ρ'=ρ++[.sh (enc x)])
  (he:∀ x∈xs,p x=true→We el (ρ++[.sh (enc x)]) fun w ρ'=>Wk ρ' w fun d ρ''=>d=v x∧ρ''=ρ++[.sh (enc x)]):We (b9 i 1 (bN k) t el) ρ Q:=by
 have hit:iS (eV i) ρ=some (xs.map enc,ρ):=by
  unfold iS eV
  rw [hi]
  cases d with
  | lst ys=>cases hd;rfl
  | tup ys=>cases hd;rfl
  | _=>cases hd
 obtain ⟨a,ρ',h1,h2⟩:=We.Comp enc xs p v (Q:=Q) q hit hk hk0 hl ht he
 refine ⟨a,ρ',?_,h2⟩
 unfold b9
 rw [hi]
 exact h1
theorem We.Map {α β:Type} (enc:α→Dat) (xs:List α) (f:α→β) (fJ:β→Dat) {it:FI} {k:Nat} {el:FE} {ρ ρ1:Env} {Q:Val→Env→Prop}
  (q:Q (.new (.lst ((xs.map f).map fJ))) ρ1) (hit:it ρ=some (xs.map enc,ρ1)) (hk:ρ1.length=k) (hk0:k≠0) (hl:xs.length≤SZ)
  (he:∀ x∈xs,We el (ρ1++[.sh (enc x)]) fun w ρ'=>Wk ρ' w fun d ρ''=>d=fJ (f x)∧ρ''=ρ1++[.sh (enc x)]):We (bG it 1 (bN k) cS el) ρ Q:=
 We.Comp enc xs (fun _=>true) (fun x=>fJ (f x)) (by rw [List.filter_eq_self.mpr (fun _ _=>rfl)];rw [List.map_map] at q;exact q) hit hk hk0 hl (fun _ _=>Wt.T ⟨rfl,rfl⟩) fun x hx _=>he x hx
theorem We.ET {α β:Type} (enc:α→Dat) (xs:List α) (f:α→β) (fJ:β→Dat) {i:Nat} {k:Nat} {el:FE} {ρ:Env} {Q:Val→Env→Prop} {d:Dat}
  (q:Q (.new (.lst ((xs.map f).map fJ))) ρ) (hi:ρ[i]?=some (.sh d)) (hd:Bj d=some (xs.map enc)) (hk:ρ.length=k) (hk0:k≠0) (hl:xs.length≤SZ)
  (he:∀ x∈xs,We el (ρ++[.sh (enc x)]) fun w ρ'=>Wk ρ' w fun d ρ''=>d=fJ (f x)∧ρ''=ρ++[.sh (enc x)]):We (b9 i 1 (bN k) cS el) ρ Q:=
 We.CG enc xs (fun _=>true) (fun x=>fJ (f x)) (by rw [List.filter_eq_self.mpr (fun _ _=>rfl)];rw [List.map_map] at q;exact q) hi hd hk hk0 hl (fun _ _=>Wt.T ⟨rfl,rfl⟩) fun x hx _=>he x hx
theorem We.HU {α β:Type} (enc:α→Dat) (xs:List α) (p:α→Bool) (f:α→β) (fJ:β→Dat) {i:Nat} {k:Nat} {t:FT} {el:FE} {ρ:Env} {Q:Val→Env→Prop} {d:Dat}
  (q:Q (.new (.lst (((xs.filter p).map f).map fJ))) ρ) (hi:ρ[i]?=some (.sh d)) (hd:Bj d=some (xs.map enc)) (hk:ρ.length=k) (hk0:k≠0) (hl:xs.length≤SZ)
  (ht:∀ x∈xs,Wt t (ρ++[.sh (enc x)]) fun c ρ'=>c=p x∧ρ'=ρ++[.sh (enc x)])
  (he:∀ x∈xs,p x=true→We el (ρ++[.sh (enc x)]) fun w ρ'=>Wk ρ' w fun d ρ''=>d=fJ (f x)∧ρ''=ρ++[.sh (enc x)]):We (b9 i 1 (bN k) t el) ρ Q:=
 We.CG enc xs p (fun x=>fJ (f x)) (by rw [List.map_map] at q;exact q) hi hd hk hk0 hl ht he
theorem Bk (i j:Int):gEq (.int i) (.int j)=vB (decide (i=j)):=by
 have:(i == j)=decide (i=j):=by by_cases h:i=j<;>simp [h]
 show vB (i == j)=_
 rw [this]
theorem Bl (i j:Int):gNe (.int i) (.int j)=vB (!decide (i=j)):=by
 have:(i == j)=decide (i=j):=by by_cases h:i=j<;>simp [h]
 show vB (!(i == j))=_
 rw [this]
theorem Wg2.eq {i j:Int} {o p:Option Dat} {K:RV→Prop} (k:K (.val (.bl (decide (i=j))))) (ho:o=some (.int i)) (hp:p=some (.int j)):Wg2 gEq o p K:=⟨_,_,_,ho,hp,Bk i j,k⟩
theorem Wg2.ne {i j:Int} {o p:Option Dat} {K:RV→Prop} (k:K (.val (.bl (!decide (i=j))))) (ho:o=some (.int i)) (hp:p=some (.int j)):Wg2 gNe o p K:=⟨_,_,_,ho,hp,Bl i j,k⟩
theorem Wg2.lt {i j:Int} {o p:Option Dat} {K:RV→Prop} (k:K (.val (.bl (decide (i<j))))) (ho:o=some (.int i)) (hp:p=some (.int j)):Wg2 gLt o p K:=⟨_,_,_,ho,hp,rfl,k⟩
theorem Wg2.le {i j:Int} {o p:Option Dat} {K:RV→Prop} (k:K (.val (.bl (decide (i≤j))))) (ho:o=some (.int i)) (hp:p=some (.int j)):Wg2 gLe o p K:=⟨_,_,_,ho,hp,rfl,k⟩
theorem Wg2.gt {i j:Int} {o p:Option Dat} {K:RV→Prop} (k:K (.val (.bl (decide (j<i))))) (ho:o=some (.int i)) (hp:p=some (.int j)):Wg2 gGt o p K:=⟨_,_,_,ho,hp,rfl,k⟩
theorem Wg2.ge {i j:Int} {o p:Option Dat} {K:RV→Prop} (k:K (.val (.bl (decide (j≤i))))) (ho:o=some (.int i)) (hp:p=some (.int j)):Wg2 gGe o p K:=⟨_,_,_,ho,hp,rfl,k⟩
theorem Wg2.add {i j:Int} {o p:Option Dat} {K:RV→Prop} (k:K (.val (.int (i+j)))) (ho:o=some (.int i)) (hp:p=some (.int j)):Wg2 bF o p K:=⟨_,_,_,ho,hp,rfl,k⟩
theorem Wg2.HV {xs ys:List Dat} {o p:Option Dat} {K:RV→Prop} (k:K (.new (.lst (xs++ys)))) (ho:o=some (.lst xs)) (hp:p=some (.lst ys)) (h:xs.length+ys.length≤SZ):Wg2 bF o p K:=⟨_,_,_,ho,hp,by unfold bF;dsimp only;rw [if_pos h],k⟩
theorem Wg2.sub {i j:Int} {o p:Option Dat} {K:RV→Prop} (k:K (.val (.int (i-j)))) (ho:o=some (.int i)) (hp:p=some (.int j)):Wg2 g9 o p K:=⟨_,_,_,ho,hp,rfl,k⟩
theorem Wg2.mul {i j:Int} {o p:Option Dat} {K:RV→Prop} (k:K (.val (.int (i*j)))) (ho:o=some (.int i)) (hp:p=some (.int j)) (h:(-B64<i∧i<B64)∨(-B64<j∧j<B64)):Wg2 fB o p K:=⟨_,_,_,ho,hp,by unfold fB;dsimp only;rw [if_pos h],k⟩
theorem Wg2.div {i j:Int} {o p:Option Dat} {K:RV→Prop} (k:K (.val (.int (i / j)))) (ho:o=some (.int i)) (hp:p=some (.int j)) (h:0<j∧j<dX):Wg2 vz o p K:=⟨_,_,_,ho,hp,by unfold vz;dsimp only;rw [if_pos h],k⟩
theorem Wg2.mod {i j:Int} {o p:Option Dat} {K:RV→Prop} (k:K (.val (.int (i % j)))) (ho:o=some (.int i)) (hp:p=some (.int j)) (h:0<j):Wg2 dh o p K:=⟨_,_,_,ho,hp,by unfold dh;dsimp only;rw [if_pos h],k⟩
theorem Wg2.pow {i j z:Int} {o p:Option Dat} {K:RV→Prop} (k:K (.val (.int z))) (ho:o=some (.int i)) (hp:p=some (.int j)) (h:0≤j∧j≤1000000∧i.natAbs<1000000) (hz:i ^ j.toNat=z):Wg2 fC o p K:=⟨_,_,_,ho,hp,by unfold fC;dsimp only;rw [if_pos h,hz],k⟩
theorem Wg2.ix {d e:Dat} {v:Dat} {o p:Option Dat} {K:RV→Prop} (k:K (.val v)) (ho:o=some d) (hp:p=some e) (h:gIx d e=some (.val v)):Wg2 gIx o p K:=⟨_,_,_,ho,hp,h,k⟩
theorem gW {α:Type} (enc:α→Dat) (xs:List α) (i:Int) (h0:0≤i) (h1:i<xs.length):atI (xs.map enc) i=some (enc (xs[i.toNat]'(by omega))):=by
 unfold atI ixN
 rw [List.length_map,if_pos h0,if_pos h1]
 show (xs.map enc)[i.toNat]?=_
 rw [List.getElem?_map,List.getElem?_eq_getElem (by omega)]
 rfl
theorem Wg2.ixL {α:Type} {enc:α→Dat} {xs:List α} {i:Int} {o p:Option Dat} {K:RV→Prop} (h0:0≤i) (h1:i<xs.length) (k:K (.val (enc (xs[i.toNat]'(by omega))))) (ho:o=some (.lst (xs.map enc))) (hp:p=some (.int i)):Wg2 gIx o p K:=
 ⟨_,_,_,ho,hp,by unfold gIx;dsimp only;rw [gW enc xs i h0 h1];rfl,k⟩
theorem Bm (i:Int) (xs:List Int):inD (.int i) (xs.map Dat.int)=decide (i∈xs):=by
 induction xs with
 | nil=>rfl
 | cons x xs ih=>
  have ih':(xs.map Dat.int).any (fun y=>eqD y (.int i))=decide (i∈xs):=ih
  unfold inD
  rw [List.map_cons,List.any_cons,ih']
  show ((x == i)||_)=_
  by_cases h:x=i
  ·simp [h]
  ·have h':¬ i=x:=fun z=>h z.symm
   simp [h,h']
theorem EU (xs:List Int):(xs.map Dat.int).all (okD 7)=true:=by
 rw [List.all_eq_true]
 intro d hd
 obtain ⟨x,_,rfl⟩:=List.mem_map.mp hd
 rfl
theorem Wg2.J3 {i:Int} {xs:List Int} {o p:Option Dat} {K:RV→Prop} (k:K (.val (.bl (!decide (i∈xs))))) (ho:o=some (.int i)) (hp:p=some (.lst (xs.map Dat.int))):Wg2 ie o p K:=
 ⟨_,_,_,ho,hp,by unfold ie;dsimp only;rw [show okD 8 (.int i)=true from rfl,EU,Bm];rfl,k⟩
theorem WB.len {xs:List Dat} {o:Option (List Dat)} {K:RV→Prop} (k:K (.val (.int xs.length))) (ho:o=some [.lst xs]):WB e_ o K:=⟨_,_,ho,rfl,k⟩
theorem WB.EV {xs:List Dat} {o:Option (List Dat)} {K:RV→Prop} (k:K (.val (.int xs.length))) (ho:o=some [.tup xs]):WB e_ o K:=⟨_,_,ho,rfl,k⟩
theorem WB.min2 {i j:Int} {o:Option (List Dat)} {K:RV→Prop} (k:K (.val (.int (if j<i then j else i)))) (ho:o=some [.int i,.int j]):WB gG o K:=⟨_,_,ho,rfl,k⟩
theorem WB.max2 {i j:Int} {o:Option (List Dat)} {K:RV→Prop} (k:K (.val (.int (if j>i then j else i)))) (ho:o=some [.int i,.int j]):WB gH o K:=⟨_,_,ho,rfl,k⟩
theorem WB.int {b:Bool} {o:Option (List Dat)} {K:RV→Prop} (k:K (.val (.int (b2i b)))) (ho:o=some [.bl b]):WB xh o K:=⟨_,_,ho,rfl,k⟩
theorem Wg1.mk {g:Dat→Option RV} {d:Dat} {v:RV} {o:Option Dat} {K:RV→Prop} (k:K v) (ho:o=some d) (h:g d=some v):Wg1 g o K:=⟨_,_,ho,h,k⟩
theorem ndT {p:Prop} [Decidable p] (h:(!decide p)=true):¬ p:=by intro z;rw [decide_eq_true z] at h;cases h
theorem ndF {p:Prop} [Decidable p] (h:(!decide p)=false):p:=Decidable.byContradiction fun z=>by rw [decide_eq_false z] at h;cases h
theorem Bo (xs:List Dat) (h:okD 8 (.lst xs)=true):gEq (.lst xs) (.lst [])=vB xs.isEmpty:=by
 unfold gEq
 rw [h]
 cases xs<;>rfl
theorem HW {α:Type} (enc:α→Dat) (xs:List α) (h:∀ x,okD 7 (enc x)=true):okD 8 (.lst (xs.map enc))=true:=by
 unfold okD
 rw [List.all_eq_true]
 intro d hd
 obtain ⟨x,_,rfl⟩:=List.mem_map.mp hd
 exact h x
theorem Wg2.CH {xs:List Dat} {o p:Option Dat} {K:RV→Prop} (k:K (.val (.bl xs.isEmpty))) (ho:o=some (.lst xs)) (hp:p=some (.lst [])) (h:okD 8 (.lst xs)=true):Wg2 gEq o p K:=⟨_,_,_,ho,hp,Bo xs h,k⟩
theorem WB.yH {α:Type} {enc:α→Dat} {xs:List α} {o:Option (List Dat)} {K:RV→Prop} (k:K (.val (.int xs.length))) (ho:o=some [.lst (xs.map enc)]):WB e_ o K:=⟨_,_,ho,by unfold e_;dsimp only;rw [List.length_map],k⟩
theorem Wg1.EW {α:Type} {enc:α→Dat} {xs:List α} {o:Option Dat} {K:RV→Prop} (k:K (.new (.lst (xs.reverse.map enc)))) (ho:o=some (.lst (xs.map enc))):Wg1 vA o K:=⟨_,_,ho,rfl,by show K (.new (.lst (xs.map enc).reverse));rw [← List.map_reverse];exact k⟩
theorem Ws.mono {s:FS} {ρ:Env} {N N':Env→Prop} {R:RV→Env→Prop} {B C:Env→Prop} (h:Ws s ρ N' R B C) (k:∀ ρ',N' ρ'→N ρ'):Ws s ρ N R B C:=by
 obtain ⟨o,h1,h2⟩:=h
 cases o with
 | nx ρ1=>exact ⟨.nx ρ1,h1,k _ h2⟩
 | ret r ρ1=>exact ⟨.ret r ρ1,h1,h2⟩
 | bk ρ1=>exact ⟨.bk ρ1,h1,h2⟩
 | ct ρ1=>exact ⟨.ct ρ1,h1,h2⟩
theorem yI {ρ:Env} {i:Nat} {d:Dat} {W:Prop} (h:ρ[i]?=some (.ow d)) (w:W):(∃ d0,ρ[i]?=some (.ow d0))∧W:=⟨⟨d,h⟩,w⟩
theorem bY {bd:FB} {d:Dat} {ρ ρ1 ρ2:Env} {W:Env→Prop} (h:bd d ρ=some ρ1) (hn:ρ1=ρ2) (w:W ρ2):∃ ρ1,bd d ρ=some ρ1∧W ρ1:=⟨ρ1,h,hn▸w⟩
theorem yJ {α:Type} (enc:α→Dat) (p:α→Bool) (v:α→Dat) (bd:FB) (t:FT) (el:FE) (e0:Env) (env:α→Env) (h0:∀ x,bd (enc x) e0=some (env x)) (h1:∀ x y,bd (enc x) (env y)=some (env x)):∀ (xs:List α) (acc:List Dat) (e:Env),(e=e0∨∃ y,e=env y) →
  (∀ x∈xs,t (env x)=some (p x,env x))→(∀ x∈xs,p x=true→We el (env x) fun w ρ'=>Wk ρ' w fun d ρ''=>d=v x∧ρ''=env x) →
  ∃ e',(e'=e0∨∃ y,e'=env y)∧cI bd t el (xs.map enc) e acc=some (acc++(xs.filter p).map v,e')
 | [],acc,e,he,_,_=>⟨e,he,by simp [cI]⟩
 | x::xs,acc,e,he,ht,hel=>by
  have hb:bd (enc x) e=some (env x):=by
   rcases he with rfl | ⟨y,rfl⟩
   ·exact h0 x
   ·exact h1 x y
  rw [List.map_cons,cI,hb]
  dsimp only
  rw [ht x List.mem_cons_self]
  have ht':=fun y hy=>ht y (List.mem_cons_of_mem _ hy)
  have he':=fun y hy=>hel y (List.mem_cons_of_mem _ hy)
  by_cases h:p x=true
  ·obtain ⟨w,ρ',g1,d,ρ'',g2,rfl,rfl⟩:=hel x List.mem_cons_self h
   rw [h]
   dsimp only
   rw [g1]
   dsimp only
   rw [g2]
   obtain ⟨e',q,z⟩:=yJ enc p v bd t el e0 env h0 h1 xs (acc++[v x]) _ (.inr ⟨x,rfl⟩) ht' he'
   exact ⟨e',q,by dsimp only;rw [z,List.filter_cons_of_pos h];simp⟩
  ·rw [Bool.not_eq_true] at h
   rw [h]
   obtain ⟨e',q,z⟩:=yJ enc p v bd t el e0 env h0 h1 xs acc _ (.inr ⟨x,rfl⟩) ht' he'
   exact ⟨e',q,by dsimp only;rw [z,List.filter_cons_of_neg (by rw [h];decide)]⟩
theorem We.HX {α β:Type} (enc:α→Dat) (xs:List α) (p:α→Bool) (f:α→β) (fJ:β→Dat) (env:α→Env) {it:FI} {own:Nat} {bd:FB} {t:FT} {el:FE} {ρ ρ1:Env} {Q:Val→Env→Prop}
  (q:Q (.new (.lst (((xs.filter p).map f).map fJ))) ρ1) (hit:it ρ=some (xs.map enc,ρ1)) (h0:∀ x,bd (enc x) (ρ1++List.replicate own .un)=some (env x)) (h1:∀ x y,bd (enc x) (env y)=some (env x)) (h2:∀ x,(env x).take ρ1.length=ρ1) (hl:xs.length≤SZ)
  (ht:∀ x∈xs,Wt t (env x) fun c ρ'=>c=p x∧ρ'=env x)
  (he:∀ x∈xs,p x=true→We el (env x) fun w ρ'=>Wk ρ' w fun d ρ''=>d=fJ (f x)∧ρ''=env x):We (bG it own bd t el) ρ Q:=by
 obtain ⟨e',q',e⟩:=yJ enc p (fun x=>fJ (f x)) bd t el _ env h0 h1 xs [] _ (.inl rfl) (fun x hx=>Wt.get (ht x hx)) he
 refine ⟨_,_,?_,q⟩
 unfold bG
 rw [hit]
 dsimp only
 rw [if_pos (by rw [List.length_map];exact hl),e]
 dsimp only
 rw [List.nil_append,List.map_map]
 have:e'.take ρ1.length=ρ1:=by
  rcases q' with rfl | ⟨y,rfl⟩
  ·exact List.take_left
  ·exact h2 y
 rw [this]
 rfl
theorem r_ (ns:List Int):iQ (ns.map Dat.int)=some ns:=by
 induction ns with
 | nil=>rfl
 | cons m ms ih=>rw [List.map_cons,iQ,ih];rfl
theorem vZ {α:Type} (p:α→Bool) (xs:List α):bools (xs.map fun x=>Dat.bl (p x))=some (xs.map p):=by
 induction xs with
 | nil=>rfl
 | cons x xs ih=>rw [List.map_cons,bools,ih];rfl
theorem WB.all {α:Type} (p:α→Bool) {xs:List α} {o:Option (List Dat)} {K:RV→Prop} (k:K (.val (.bl (xs.all p)))) (ho:o=some [.lst (xs.map fun x=>Dat.bl (p x))]):WB rA o K:=⟨_,_,ho,by
 unfold rA
 dsimp only
 rw [vZ]
 have:(xs.map p).all id=xs.all p:=by rw [List.all_map];rfl
 dsimp only
 rw [this],k⟩
theorem WB.HY {j:Int} {o:Option (List Dat)} {K:RV→Prop} (k:K (.new (.lst (ups 0 j.toNat)))) (ho:o=some [.int j]) (h:j≤1000000∧-1000000≤j):WB jF o K:=⟨_,_,ho,by unfold jF;dsimp only;rw [if_pos h],k⟩
theorem Ws.cut {s u:FS} {ρ:Env} {N:Env→Prop} {R:RV→Env→Prop} {B C:Env→Prop} (J:Env→Prop) (h1:Ws s ρ J R B C) (h2:∀ ρ',J ρ'→Ws u ρ' N R B C):Ws (aA s u) ρ N R B C:=Ws.seq (Ws.mono h1 h2)
noncomputable def WrM (o:Option (RV×Dat)) (P:RV→Dat→Prop):Prop:=∃ z d,o=some (z,d)∧P z d
theorem WrM.fn {n m:Nat} {body:FS} {d:Dat} {r:List Dat} {ρ:Env} {P:RV→Dat→Prop} (b:Ws body ρ (fun ρ'=>∃ d',ρ'[0]?=some (.ow d')∧P (.val .non) d') (fun z ρ'=>∃ d',ρ'[0]?=some (.ow d')∧P z d') (fun _=>False) (fun _=>False)) (hρ:Cell.ow d::(r.map Cell.sh++List.replicate m .un)=ρ) (h:(d::r).length=n):WrM (fnM n m body (d::r)) P:=by
 obtain ⟨o,h1,h2⟩:=b
 cases o with
 | nx ρ1=>obtain ⟨d',h3,h4⟩:=h2;exact ⟨_,_,by unfold fnM;rw [if_pos h];dsimp only;rw [hρ,h1];dsimp only;rw [h3],h4⟩
 | ret z ρ1=>obtain ⟨d',h3,h4⟩:=h2;exact ⟨_,_,by unfold fnM;rw [if_pos h];dsimp only;rw [hρ,h1];dsimp only;rw [h3],h4⟩
 | bk ρ1=>exact h2.elim
 | ct ρ1=>exact h2.elim
noncomputable def WFm (f:List Dat→Option (RV×Dat)) (j:Nat) (ρ1:Env) (xs:List Val) (Q:Val→Env→Prop):Prop:=
 ∃ d1 ds ρ2 d v d',ρ1[j]?=some (.ow d1)∧tks ρ1 xs=some (ds,ρ2)∧ρ2[j]?=some (.ow d)∧f (d::ds)=some (v,d')∧(if (flat v.dat&&nB d')=true then Q v.bz (ρ1.set j (.ow d')) else Q v.bz (ρ2.set j (.ow d')))
theorem We.Fm {f:List Dat→Option (RV×Dat)} {j:Nat} {as:List FE} {ρ:Env} {d0:Dat} {Q:Val→Env→Prop} (h:Was as ρ fun xs ρ1=>WFm f j ρ1 xs Q) (h0:ρ[j]?=some (.ow d0)):We (eFm f j as) ρ Q:=by
 obtain ⟨xs,ρ1,h1,d1,ds,ρ2,d,v,d',h2,h3,h4,h5,q⟩:=h
 by_cases c:(flat v.dat&&nB d')=true
 ·rw [if_pos c] at q
  exact ⟨_,_,by unfold eFm;rw [h0];dsimp only;rw [h1];dsimp only;rw [h2];dsimp only;rw [h3];dsimp only;rw [h4];dsimp only;rw [h5];dsimp only;rw [if_pos c],q⟩
 ·rw [if_neg c] at q
  exact ⟨_,_,by unfold eFm;rw [h0];dsimp only;rw [h1];dsimp only;rw [h2];dsimp only;rw [h3];dsimp only;rw [h4];dsimp only;rw [h5];dsimp only;rw [if_neg c],q⟩
theorem WFm.any {f:List Dat→Option (RV×Dat)} {j:Nat} {ρ1 ρ3:Env} {xs:List Val} {d d':Dat} {ds:List Dat} {v:RV} {Q:Val→Env→Prop} (h5:f (d::ds)=some (v,d')) (q:Q v.bz ρ3) (h2:ρ1[j]?=some (.ow d)) (h3:tks ρ1 xs=some (ds,ρ1)) (hn:ρ1.set j (.ow d')=ρ3):WFm f j ρ1 xs Q:=
 ⟨_,_,_,_,_,_,h2,h3,h2,h5,by rw [hn];split<;>exact q⟩
theorem Wi.get {it:FI} {ρ ρ1:Env} {ds:List Dat} (h:Wi it ρ fun x y=>x=ds∧y=ρ1):it ρ=some (ds,ρ1):=by
 obtain ⟨_,_,h1,rfl,rfl⟩:=h;exact h1
theorem Wi.Rs {a b c:FE} {ρ:Env} {i j k:Int} {Q:List Dat→Env→Prop} (ha:a ρ=some (.val (.int i),ρ)) (hb:b ρ=some (.val (.int j),ρ)) (hc:c ρ=some (.val (.int k),ρ)) (hk:(0<k∧k≤1000)∧j≤BIG∧-BIG≤j∧i≤BIG∧-BIG≤i) (q:Q (fF i k (bW i j k)) ρ):Wi (iRs a b c) ρ Q:=⟨_,_,by
 unfold iRs
 rw [ha]
 dsimp only
 rw [hb]
 dsimp only
 rw [hc]
 dsimp only
 rw [if_pos hk],q⟩
theorem We.get {e:FE} {ρ ρ':Env} {v:Val} (h:We e ρ fun x y=>x=v∧y=ρ'):e ρ=some (v,ρ'):=by
 obtain ⟨_,_,h1,rfl,rfl⟩:=h;exact h1
theorem We.Fn {f:List Dat→Option (RV×Dat)} {e0:FE} {as:List FE} {ρ:Env} {Q:Val→Env→Prop} (h:Was (e0::as) ρ fun xs ρ1=>∃ d ys ds v d',xs=.new d::ys∧iB ys=some ds∧f (d::ds)=some (v,d')∧Q v.bz ρ1):We (eFn f e0 as) ρ Q:=by
 obtain ⟨xs,ρ1,h1,d,ys,ds,v,d',rfl,h2,h3,q⟩:=h
 refine ⟨_,_,?_,q⟩
 unfold eFn
 rw [h1]
 dsimp only
 rw [h2]
 dsimp only
 rw [h3]
section
variable {N:Env→Prop} {R:RV→Env→Prop} {B C:Env→Prop} {ρ:Env} {p:Dp}
end
section
variable {ρ:Env} {P:Dp→Prop}
end
section
variable {N:Env→Dp→Prop} {R:Dat→Env→Prop} {ρ ρ':Env} {p:Dp}
end
section
variable {N:Env→Prop} {R:RV→Env→Prop} {B C:Env→Prop} {ρ:Env} {p:Dp}
end
section
variable {N:Env→Dp→Prop} {R:Dat→Env→Prop} {ρ ρ':Env} {p:Dp}
end
section
variable {ρ:Env} {P:Dp→Prop} {Q:Dp→Env→Prop}
end
noncomputable def Wn (f:FN) (ρ:Env) (r:List (List Dat)) (Q:Env→List (List Dat)→Prop):Prop:=∃ ρ' r',f ρ r=some (ρ',r')∧Q ρ' r'
section
variable {ρ:Env} {r:List (List Dat)} {Q:Env→List (List Dat)→Prop}
theorem Wn.nx (q:Q ρ r):Wn nNx ρ r Q:=⟨_,_,rfl,q⟩
theorem Wn.seq {s u:FN} (h:Wn s ρ r fun ρ1 r1=>Wn u ρ1 r1 Q):Wn (rQ s u) ρ r Q:=by
 obtain ⟨ρ1,r1,e1,ρ2,r2,e2,q⟩:=h
 exact ⟨ρ2,r2,by unfold rQ;rw [e1];exact e2,q⟩
theorem Wn.If {t:FT} {a b:FN} (h:Wt t ρ fun c ρ1=>Wif c (Wn a ρ1 r Q) (Wn b ρ1 r Q)):Wn (nIf t a b) ρ r Q:=by
 obtain ⟨c,ρ1,e1,h1,h2⟩:=h
 cases c with
 | true=>
  obtain ⟨ρ2,r2,e2,q⟩:=h1 rfl
  exact ⟨ρ2,r2,by unfold nIf;rw [e1];exact e2,q⟩
 | false=>
  obtain ⟨ρ2,r2,e2,q⟩:=h2 rfl
  exact ⟨ρ2,r2,by unfold nIf;rw [e1];exact e2,q⟩
theorem Wn.A {j i:Nat} {e:FE} (hij:i≠j) (h:We e ρ fun v ρ1=>WA i v ρ1 fun ρ2=>Q ρ2 r) (hi:i≠0):Wn (nA j i e) ρ r Q:=by
 obtain ⟨o,e1,k⟩:=Ws.A (R:=fun _ _=>False) (B:=fun _=>False) (C:=fun _=>False) h hi
 cases o with
 | nx ρ2=>exact ⟨ρ2,r,by unfold nA;rw [if_neg hij,e1],k⟩
 | ret _ _=>exact k.elim
 | bk _=>exact k.elim
 | ct _=>exact k.elim
theorem Wn.App {i e:FE} (h:We i ρ fun v ρ1=>cy v fun k=>∃ (m:Nat) (row:List Dat),ixN r.length k=some m∧r[m]?=some row∧row.length<SZ∧We e ρ1 fun x ρ2=>Wk ρ2 x fun d ρ3=>Q ρ3 (r.set m (row++[d]))):Wn (o_ i e) ρ r Q:=by
 obtain ⟨v,ρ1,e1,k,rfl,m,row,h1,h2,h3,x,ρ2,e2,d,ρ3,e3,q⟩:=h
 refine ⟨ρ3,_,?_,q⟩
 unfold o_
 rw [e1]
 dsimp only
 rw [h1]
 dsimp only
 rw [h2]
 dsimp only
 rw [e2]
 dsimp only
 rw [e3]
 dsimp only
 rw [if_pos h3]
theorem Wn.For {it:FI} {bd:FB} {body:FN} (h:Wi it ρ fun ds ρ1=>Wn (iU bd body ds) ρ1 r Q):Wn (vP it bd body) ρ r Q:=by
 obtain ⟨ds,ρ1,e1,ρ2,r2,e2,q⟩:=h
 exact ⟨ρ2,r2,by unfold vP;rw [e1];exact e2,q⟩
end
theorem Wn.inv {α:Type} (enc:α→Dat) (bd:FB) (body:FN) (Q:Env→List (List Dat)→Prop) (I:List α→List α→Env→List (List Dat)→Prop):∀ (q p:List α) (ρ:Env) (r:List (List Dat)),I p q ρ r →
  (∀ p x q ρ r,I p (x::q) ρ r→∃ ρ1,bd (enc x) ρ=some ρ1∧Wn body ρ1 r (I (p++[x]) q))→(∀ p ρ r,I p [] ρ r→Q ρ r)→Wn (iU bd body (q.map enc)) ρ r Q
 | [],p,ρ,r,h,_,k=>⟨ρ,r,rfl,k p ρ r h⟩
 | x::q,p,ρ,r,h,s,k=>by
  obtain ⟨ρ1,e1,ρ2,r2,e2,h2⟩:=s p x q ρ r h
  obtain ⟨ρ3,r3,e3,h3⟩:=Wn.inv enc bd body Q I q (p++[x]) ρ2 r2 h2 s k
  refine ⟨ρ3,r3,?_,h3⟩
  rw [List.map_cons]
  unfold iU
  rw [e1]
  dsimp only
  rw [e2]
  exact e3
theorem Ws.HZ {j m:Nat} {loop:FN} {ρ ρ1:Env} {N:Env→Prop} {R:RV→Env→Prop} {B C:Env→Prop} (h:Wn loop ρ1 (List.replicate m []) fun ρ2 r=>N (ρ2.set j (.ow (.lst (r.map .lst))))) (h0:j≠0) (h1:ρ.set j .un=ρ1):Ws (fG j m loop) ρ N R B C:=by
 obtain ⟨ρ2,r,e,q⟩:=h
 exact ⟨.nx _,by unfold fG;rw [if_neg h0,h1,e],q⟩
theorem yK {c:Char} (h:c.isDigit=true):c.toNat<128:=by
 unfold Char.isDigit at h
 simp only [Bool.and_eq_true,decide_eq_true_eq] at h
 have h2:=h.2
 have:c.val.toNat≤57:=by exact_mod_cast (UInt32.le_iff_toNat_le.mp h2)
 show c.val.toNat<128
 omega
theorem nat_ascii (n:Nat):∀ c∈codes n.repr,c<128:=fun c hc=>by
 unfold codes at hc
 rw [Nat.toList_repr] at hc
 obtain ⟨d,hd,rfl⟩:=List.mem_map.mp hc
 exact yK (Nat.isDigit_of_mem_toDigits (by decide) (by decide) hd)
theorem int_ascii (i:Int):∀ c∈codes (toString i),c<128:=fun c hc=>by
 rw [Int.toString_eq_repr] at hc
 unfold Int.repr at hc
 cases i with
 | ofNat m=>exact nat_ascii m c hc
 | negSucc m=>
  dsimp only at hc
  unfold codes at hc
  rw [String.toList_append,List.map_append,List.mem_append] at hc
  rcases hc with hc | hc
  ·have:c∈[45]:=hc
   rw [List.mem_singleton] at this
   omega
  ·exact nat_ascii m.succ c hc
theorem iI:∀ l:List (List Nat),(∀ x∈l,∀ c∈x,c<128)→∀ c∈shJ l,c<128
 | [],_,c,h=>by cases h
 | [x],k,c,h=>k x List.mem_cons_self c h
 | x::y::r,k,c,h=>by
  unfold shJ at h
  rcases List.mem_append.mp h with h | h
  ·exact k x List.mem_cons_self c h
  ·rcases List.mem_cons.mp h with rfl | h
   ·decide
   ·rcases List.mem_cons.mp h with rfl | h
    ·decide
    ·exact iI (y::r) (fun z hz=>k z (List.mem_cons_of_mem _ hz)) c h
mutual
theorem mJ:∀ (n:Nat) (d:Dat),fH n d=true→∀ c∈shw d,c<128
 | _,.non,_=>by decide
 | _,.bl b,_=>by cases b<;>decide
 | n,.int i,h=>by unfold shw;exact int_ascii i
 | n+1,.tup xs,h=>fun c hc=>by
  unfold shw at hc
  rcases List.mem_cons.mp hc with rfl | hc
  ·decide
  ·rcases List.mem_append.mp hc with hc | hc
   ·exact iI _ (fK n xs h) c hc
   ·split at hc
    ·simp only [List.mem_cons,List.not_mem_nil,or_false] at hc
     omega
    ·simp only [List.mem_cons,List.not_mem_nil,or_false] at hc
     omega
 | n+1,.lst xs,h=>fun c hc=>by
  unfold shw at hc
  rcases List.mem_cons.mp hc with rfl | hc
  ·decide
  ·rcases List.mem_append.mp hc with hc | hc
   ·exact iI _ (fK n xs h) c hc
   ·simp only [List.mem_cons,List.not_mem_nil,or_false] at hc
    omega
 | 0,.tup xs,h=>by cases h
 | 0,.lst xs,h=>by cases h
 | 0,.str _,h=>by cases h
 | _+1,.str _,h=>by cases h
 | 0,.dct _ _,h=>by cases h
 | _+1,.dct _ _,h=>by cases h
 | 0,.exc _,h=>by cases h
 | _+1,.exc _,h=>by cases h
 | 0,.fn _,h=>by cases h
 | _+1,.fn _,h=>by cases h
theorem fK:∀ (n:Nat) (xs:List Dat),aU n xs=true→∀ x∈dR xs,∀ c∈x,c<128
 | _,[],_=>by intro x hx;cases hx
 | n,y::r,h=>by
  unfold aU at h
  rw [Bool.and_eq_true] at h
  intro x hx
  unfold dR at hx
  rcases List.mem_cons.mp hx with rfl | hx
  ·exact mJ n y h.1
  ·exact fK n r h.2 x hx
end
theorem WB.EX {xs:List Dat} {o:Option (List Dat)} {K:RV→Prop} (h1:fH 8 (.lst xs)=true) (h2:iF (.lst xs)≤900) (k:K (.val (.str (shw (.lst xs))))) (ho:o=some [.lst xs]):WB pP o K:=⟨_,_,ho,by unfold pP;dsimp only;rw [if_pos ⟨h1,h2⟩],k⟩
theorem Bp {d:Dat} (h:fH 8 d=true):gNe (.str (shw d)) (.str (shw d))=some (.val (.bl false)):=by
 have a:okD 8 (.str (shw d))=true:=by
  unfold okD
  rw [List.all_eq_true]
  exact fun c hc=>decide_eq_true (mJ 8 d h c hc)
 unfold gNe
 rw [a]
 simp [eqD]
theorem Wg2.CI {d:Dat} {o p:Option Dat} {K:RV→Prop} (h:fH 8 d=true) (k:K (.val (.bl false))) (ho:o=some (.str (shw d))) (hp:p=some (.str (shw d))):Wg2 gNe o p K:=⟨_,_,_,ho,hp,Bp h,k⟩
end Dm
namespace P
open Dm
noncomputable def Bq:List Dat→Option RV:=fn 1 0
  (sR (ia (e1 (oM isI) (eV 0)) (AB (e1 (oM isB) (eV 0)))))
noncomputable def pW:List Dat→Option RV:=fn 3 0
  (sR (ia (eF Bq [(eV 0)]) (ir gLe gLe (eV 1) (eV 0) (eV 2))))
noncomputable def Bs:List Dat→Option RV:=fn 1 0
  (sR (eF pW [(eV 0),(eC (.int 1)),(eC (.int 10))]))
noncomputable def sd:List Dat→Option RV:=fn 2 0
  (sR (eF pW [(eV 1),(eC (.int 0)),(e2 g9 (eV 0) (eC (.int 1)))]))
noncomputable def se:List Dat→Option RV:=fn 1 0
  (sR (eF pW [(eV 0),(eC (.int 1)),(eC (.int 6))]))
noncomputable def Bt:List Dat→Option RV:=fn 1 0
  (sR (eF pW [(eV 0),(eC (.int 0)),(e2 fC (eC (.int 10)) (eC (.int 30)))]))
noncomputable def Bu:List Dat→Option RV:=fn 2 0
  (aA (sIf (tOr (dc (tV (e1 (oM isT) (eV 1)))) (tV (e2 gNe (eB e_ [(eV 1)]) (eC (.int 3))))) (sR (eC (.bl false))) sNx)
  (sR (ia (eF Bt [(e2 gIx (eV 1) (eC (.int 0)))]) (ia (eF sd [(eV 0),(e2 gIx (eV 1) (eC (.int 1)))]) (eF sd [(eV 0),(e2 gIx (eV 1) (eC (.int 2)))])))))
noncomputable def Bv:List Dat→Option RV:=fn 2 0
  (sR (ia (eF Bu [(eV 0),(eV 1)]) (e2 gLe (e2 gIx (eV 1) (eC (.int 1))) (e2 gIx (eV 1) (eC (.int 2))))))
noncomputable def Bw:List Dat→Option RV:=fn 1 0
  (sR (eB rA [(bG (iR2 (eC (.int 1)) (eB e_ [(eV 0)])) 1 (bN 1) cS (e2 gLt (e2 gIx (eV 0) (e2 g9 (eV 1) (eC (.int 1)))) (e2 gIx (eV 0) (eV 1))))]))
noncomputable def Bx:List Dat→Option RV:=fn 3 0
  (sR (ia (eF sd [(eV 0),(eV 1)]) (ia (eF sd [(eV 0),(eV 2)]) (e2 gNe (eV 1) (eV 2)))))
noncomputable def uw:List Dat→Option RV:=fn 1 0
  (sIf (dc (tV (eF se [(eV 0)]))) (fun _=>none) sNx)
noncomputable def ux:List Dat→Option RV:=fn 3 0
  (sIf (dc (tV (eF Bx [(eV 0),(eV 1),(eV 2)]))) (fun _=>none) sNx)
noncomputable def uy:List Dat→Option RV:=fn 3 0
  (sR (b9 0 1 (bN 3) cS (eIf (tV (e2 gEq (eV 3) (e2 gIx (eV 0) (eV 2)))) (e2 gIx (eV 0) (eV 1)) (eV 3))))
noncomputable def yL:FS:=
  (sIf (tV (e2 gNe (e2 gIx (eV 4) (eV 1)) (e2 gIx (eV 4) (eV 2)))) (sR (e2 bF (eV 3) (eC (.int 1)))) sNx)
noncomputable def pX:List Dat→Option RV:=fn 3 2
  (aA (fy (iEn (eV 0)) (bT [3,4])
  yL)
  (sR (eC (.int 0))))
noncomputable def yM:FS:=
  (aA (sA 8 (eF pX [(eV 3),(eV 6),(eV 7)]))
  (aA (sIf (tV (e2 gGt (eV 8) (eC (.int 0)))) (oK 3 (e2 g9 (eV 8) (eC (.int 1))) (eF uy [(e2 gIx (eV 3) (e2 g9 (eV 8) (eC (.int 1)))),(eV 6),(eV 7)])) sNx)
  (m9 4 (eV 8))))
noncomputable def mK:List Dat→Option RV:=fn 3 6
  (aA (sE (eF uw [(eV 2)]))
  (aA (sA 3 (bG (iR1 (eV 2)) 1 (bN 9) cS (eB jF [(eV 0)])))
  (aA (sA 4 (eW []))
  (aA (fy (vL (eV 1)) (bT [5,6,7])
  yM)
  (sR (e1 jE (eV 4)))))))
noncomputable def uz:List Dat→Option RV:=fn 1 0
  (sR (eU [(e2 gIx (eV 0) (eC (.int 0))),(eB gG [(e2 gIx (eV 0) (eC (.int 1))),(e2 gIx (eV 0) (eC (.int 2)))]),(eB gH [(e2 gIx (eV 0) (eC (.int 1))),(e2 gIx (eV 0) (eC (.int 2)))])]))
noncomputable def yN:FS:=
  (sIf (tV (e2 gEq (e2 gIx (e2 gIx (eV 0) (e2 g9 (eV 1) (eC (.int 1)))) (eC (.int 0))) (e2 gIx (e2 gIx (eV 0) (eV 1)) (eC (.int 0))))) (fun _=>none) sNx)
noncomputable def uA:List Dat→Option RV:=fn 1 1
  (fy (iR2 (eC (.int 1)) (eB e_ [(eV 0)])) (bN 1)
  yN)
noncomputable def uB:List Dat→Option RV:=fn 2 0
  (aA (sIf (tOr (dc (tV (eF Bs [(eV 0)]))) (tOr (dc (tV (e1 (oM isL) (eV 1)))) (tV (e2 gGt (eB e_ [(eV 1)]) (eC (.int 60)))))) (sR (eC (.bl false))) sNx)
  (aA (sIf (dc (tV (eB rA [(b9 1 1 (bN 2) cS (eF Bv [(eV 0),(eV 2)]))]))) (sR (eC (.bl false))) sNx)
  (sR (eF Bw [(b9 1 1 (bN 2) cS (e2 gIx (eV 2) (eC (.int 0))))]))))
noncomputable def uC:List Dat→Option RV:=fn 2 0
  (sR (b9 0 1 (bN 2) (tV (e2 gGe (e2 gIx (eV 2) (eC (.int 0))) (eV 1))) (eV 2)))
noncomputable def uD:List Dat→Option RV:=fn 1 0
  (aA (sIf (tOr (dc (tV (e1 (oM isT) (eV 0)))) (tV (e2 gNe (eB e_ [(eV 0)]) (eC (.int 3))))) (sR (eC (.bl false))) sNx)
  (aA (sIf (tOr (dc (tV (eF se [(e2 gIx (eV 0) (eC (.int 1)))]))) (dc (tV (eF uB [(e2 gIx (eV 0) (eC (.int 0))),(e2 gIx (eV 0) (eC (.int 2)))])))) (sR (eC (.bl false))) sNx)
  (sR (e2 ie (eC (.int 0)) (eF mK [(e2 gIx (eV 0) (eC (.int 0))),(e2 gIx (eV 0) (eC (.int 2))),(e2 gIx (eV 0) (eC (.int 1)))])))))
noncomputable def iY:List Dat→Option RV:=fn 1 0
  (sIf (dc (tV (eF uD [(eV 0)]))) (fun _=>none) sNx)
noncomputable def uE:List Dat→Option RV:=fn 2 0
  (aA (sE (eF iY [(eV 0)]))
  (sIf (dc (tV (eF pW [(eV 1),(eC (.int 1)),(e2 gIx (eV 0) (eC (.int 1)))]))) (fun _=>none) sNx))
noncomputable def iZ:List Dat→Option RV:=fn 3 1
  (aA (sA 3 (eF mK [(eV 0),(eV 1),(eV 2)]))
  (sR (eU [(eV 0),(eV 2),(bG (A3 (eV 1) (eV 3)) 2 (bT [4,5]) (tV (e2 gGt (eV 5) (eC (.int 0)))) (eV 4))])))
noncomputable def uF:List Dat→Option RV:=fn 2 0
  (aA (sE (eF iY [(eV 0)]))
  (sR (eU [(e2 gIx (eV 0) (eC (.int 0))),(e2 gIx (eV 0) (eC (.int 1))),(eF uC [(e2 gIx (eV 0) (eC (.int 2))),(eV 1)])])))
noncomputable def uG:List Dat→Option RV:=fn 2 0
  (aA (sE (eF uE [(eV 0),(eV 1)]))
  (sR (eF iZ [(e2 gIx (eV 0) (eC (.int 0))),(e2 gIx (eV 0) (eC (.int 2))),(eV 1)])))
noncomputable def uH:List Dat→Option RV:=fn 2 1
  (aA (sA 2 (e1 cA (e2 bF (e2 gIx (eV 0) (eC (.int 2))) (eV 1))))
  (aA (sE (eF uA [(eV 2)]))
  (sR (eF iZ [(e2 gIx (eV 0) (eC (.int 0))),(eV 2),(e2 gIx (eV 0) (eC (.int 1)))]))))
noncomputable def gX:List Dat→Option RV:=fn 2 0
  (aA (sE (eF iY [(eV 0)]))
  (aA (sE (eF iY [(eV 1)]))
  (aA (sIf (tOr (tV (e2 gNe (e2 gIx (eV 0) (eC (.int 0))) (e2 gIx (eV 1) (eC (.int 0))))) (tV (e2 gNe (e2 gIx (eV 0) (eC (.int 1))) (e2 gIx (eV 1) (eC (.int 1)))))) (fun _=>none) sNx)
  (sR (eF uH [(eV 0),(e2 gIx (eV 1) (eC (.int 2)))])))))
noncomputable def uI:List Dat→Option RV:=fn 3 0
  (sR (eF uz [(eU [(e2 gIx (eV 0) (eC (.int 0))),(eIf (tV (e2 gEq (e2 gIx (eV 0) (eC (.int 1))) (eV 2))) (eV 1) (e2 gIx (eV 0) (eC (.int 1)))),(eIf (tV (e2 gEq (e2 gIx (eV 0) (eC (.int 2))) (eV 2))) (eV 1) (e2 gIx (eV 0) (eC (.int 2))))])]))
noncomputable def uJ:List Dat→Option RV:=fn 3 0
  (aA (sE (eF iY [(eV 0)]))
  (aA (sE (eF ux [(e2 gIx (eV 0) (eC (.int 0))),(eV 1),(eV 2)]))
  (sR (eF iZ [(e2 gIx (eV 0) (eC (.int 0))),(bG (iS (e2 gIx (eV 0) (eC (.int 2)))) 1 (bN 3) cS (eF uI [(eV 3),(eV 1),(eV 2)])),(e2 gIx (eV 0) (eC (.int 1)))]))))
noncomputable def yO:FS:=
  (aA (sA 3 (e2 dh (e2 bF (e2 bF (e2 fB (eV 3) (eC (.int 48271))) (e2 fB (eC (.int 7919)) (eV 5))) (eC (.int 3))) (eC (.int 2147483629))))
  (aA (sA 3 (e2 dh (e2 fB (eV 3) (eV 3)) (eC (.int 2147483587))))
  (sA 4 (e2 bF (e2 fB (eV 4) (eC (.int 2147483587))) (e2 dh (e2 bF (e2 fB (eV 3) (eC (.int 69621))) (eV 1)) (eC (.int 2147483587)))))))
noncomputable def i0:List Dat→Option RV:=fn 2 4
  (aA (sA 2 (eC (.int 0)))
  (aA (sIf (tV (e2 gLt (eV 1) (eB e_ [(eV 0)]))) (sA 2 (e2 gIx (eV 0) (eV 1))) sNx)
  (aA (sIf (tV (e2 gGe (eV 2) (e2 fC (eC (.int 10)) (eC (.int 18))))) (sR (eW [(e2 dh (eV 2) (e2 gS (e2 gS (e2 gS (e2 gS (e2 fC (eC (.int 10)) (eC (.int 60))) (e2 fC (eC (.int 10)) (eC (.int 60)))) (e2 fC (eC (.int 10)) (eC (.int 60)))) (e2 fC (eC (.int 10)) (eC (.int 60)))) (e2 fC (eC (.int 10)) (eC (.int 60)))))])) sNx)
  (aA (sA 3 (e2 dh (e2 bF (e2 bF (e2 bF (eV 2) (e2 fB (e2 fB (eC (.int 104729)) (eV 1)) (eV 1))) (e2 fB (eC (.int 7)) (eV 1))) (eC (.int 11))) (eC (.int 2147483647))))
  (aA (sA 4 (eC (.int 0)))
  (aA (fy (iR1 (eC (.int 40))) (bN 5)
  yO)
  (sR (eW [(eV 4)]))))))))
noncomputable def bu:List Dat→Option (RV×Dat):=fnM 2 1
  (aA (sA 2 (e2 dh (e2 gIx (eV 0) (eC (.int 0))) (eV 1)))
  (aA (oK 0 (eC (.int 0)) (e2 vz (e2 gIx (eV 0) (eC (.int 0))) (eV 1)))
  (sR (eV 2))))
noncomputable def pY:List Dat→Option (RV×Dat):=fnM 1 0
  (sR (e2 gIx (eW [(eC (.int 1)),(eC (.int 2)),(eC (.int 3)),(eC (.int 4)),(eC (.int 5)),(eC (.int 6)),(eC (.int 4)),(eC (.int 10))]) (eFm bu 0 [(eC (.int 8))])))
noncomputable def yP:FS:=
  (aA (sA 11 (eFm bu 0 [(eV 1)]))
  (aA (sA 12 (eFm bu 0 [(eV 1)]))
  (aA (sIf (tV (e2 gEq (eV 7) (eC (.int 1)))) (sA 12 (e2 dh (e2 bF (eV 11) (eC (.int 1))) (eV 1))) sNx)
  (aA (sIf (tV (e2 gEq (eV 7) (eC (.int 2)))) (sA 12 (e2 dh (e2 dh (e2 bF (e2 bF (eV 11) (e2 dh (eV 12) (eC (.int 2)))) (eC (.int 1))) (eB gG [(eV 1),(eC (.int 3))])) (eV 1))) sNx)
  (aA (m9 9 (eU [(eV 8),(eB gG [(eV 11),(eV 12)]),(eB gH [(eV 11),(eV 12)])]))
  (sA 8 (e2 bF (e2 bF (eV 8) (eC (.int 1))) (e2 fB (eFm bu 0 [(eV 5)]) (eV 6)))))))))
noncomputable def mL:List Dat→Option (RV×Dat):=fnM 3 10
  (aA (sA 3 (eFm bu 0 [(e2 bF (eV 2) (eC (.int 1)))]))
  (aA (sA 4 (eFm bu 0 [(eC (.int 4))]))
  (aA (sA 5 (e2 gIx (eW [(eC (.int 1)),(eC (.int 3)),(e2 fC (eC (.int 10)) (eC (.int 6))),(eC (.int 1000))]) (eV 4)))
  (aA (sA 6 (e2 gIx (eW [(eC (.int 1)),(e2 fC (eC (.int 10)) (eC (.int 25)))]) (eB xh [(e2 gEq (eV 4) (eC (.int 3)))])))
  (aA (sA 7 (eFm bu 0 [(eC (.int 4))]))
  (aA (sA 8 (e2 fB (eFm bu 0 [(eV 5)]) (eV 6)))
  (aA (sA 9 (eW []))
  (aA (fy (iR1 (eV 3)) (bN 10)
  yP)
  (sR (eV 9))))))))))
noncomputable def pZ:List Dat→Option (RV×Dat):=fnM 2 1
  (aA (sIf (tV (e2 gEq (eV 1) (eW []))) (sR (eFm bu 0 [(eC (.int 3))])) sNx)
  (aA (sA 2 (e2 gIx (e2 gIx (eV 1) (eFm bu 0 [(eB e_ [(eV 1)])])) (eC (.int 0))))
  (sR (e2 gIx (eW [(eC (.int 0)),(eV 2),(e2 bF (eV 2) (eC (.int 1))),(eB gH [(eC (.int 0)),(e2 g9 (eV 2) (eC (.int 1)))]),(e2 bF (e2 gIx (e2 gIx (eV 1) (e1 AD (eC (.int 1)))) (eC (.int 0))) (eC (.int 1))),(eV 2)]) (eFm bu 0 [(eC (.int 6))])))))
noncomputable def yQ:FS:=
  (aA (sA 7 (e2 gIx (e2 gIx (eV 3) (eV 6)) (e2 gIx (eV 5) (eC (.int 1)))))
  (aA (sA 8 (e2 gIx (e2 gIx (eV 3) (eV 6)) (e2 gIx (eV 5) (eC (.int 2)))))
  (sIf (tV (e2 gNe (eV 7) (eV 8))) (aA (oK 3 (eV 6) (bG (iS (e2 gIx (eV 3) (eV 6))) 1 (bN 9) cS (eIf (tV (e2 gEq (eV 9) (eV 8))) (eV 7) (eV 9))))
  (aA (m9 4 (eV 5))
  sBk)) sNx)))
noncomputable def sj:FS:=
  (fy (iR1 (eV 2)) (bN 6)
  yQ)
noncomputable def p5:List Dat→Option RV:=fn 3 6
  (aA (sA 3 (bG (iR1 (eV 2)) 1 (bN 9) cS (eB jF [(eV 0)])))
  (aA (sA 4 (eW []))
  (aA (fy (iS (e1 vA (eB eT [(eV 1)]))) (bN 5)
  sj)
  (sR (eU [(eV 0),(eV 2),(e1 vA (eV 4))])))))
noncomputable def yR:FN:=
  (rQ (nA 2 4 (eFm bu 0 [(eC (.int 3))]))
  (rQ (o_ (eV 4) (eV 3))
  (nIf (tV (e2 gEq (eFm bu 0 [(eC (.int 5))]) (eC (.int 1)))) (o_ (e2 dh (e2 bF (eV 4) (eC (.int 1))) (eC (.int 3))) (eV 3)) nNx)))
noncomputable def p6:List Dat→Option (RV×Dat):=fnM 2 3
  (aA (fG 2 3 (vP (iS (eV 1)) (bN 3)
  yR))
  (sR (eV 2)))
noncomputable def p7:List Dat→Option (RV×Dat):=fnM 2 5
  (aA (sA 2 (eFm bu 0 [(eC (.int 3))]))
  (aA (sA 3 (e2 gIx (eV 1) (eV 2)))
  (aA (sA 4 (e2 gIx (eV 1) (e2 dh (e2 bF (eV 2) (eC (.int 1))) (eC (.int 3)))))
  (aA (sA 5 (e2 gIx (eV 1) (e2 dh (e2 bF (eV 2) (eC (.int 2))) (eC (.int 3)))))
  (aA (sIf (tV (e2 gEq (eFm bu 0 [(eC (.int 2))]) (eC (.int 1)))) (sA 6 (eF gX [(eV 3),(eF gX [(eV 4),(eV 5)])])) (sA 6 (eF gX [(eF gX [(eV 3),(eV 4)]),(eV 5)])))
  (sR (eF gX [(eV 5),(eV 6)])))))))
noncomputable def yS:FS:=
  (aA (sA 5 (eIf (tV (e2 gEq (eV 5) (eV 2))) (eV 1) (eV 5)))
  (aA (sA 6 (eIf (tV (e2 gEq (eV 6) (eV 2))) (eV 1) (eV 6)))
  (m9 3 (eU [(eV 4),(eB gG [(eV 5),(eV 6)]),(eB gH [(eV 5),(eV 6)])]))))
noncomputable def uK:List Dat→Option RV:=fn 3 4
  (aA (sA 3 (eW []))
  (aA (fy (iS (eV 0)) (bT [4,5,6])
  yS)
  (sR (eV 3))))
noncomputable def p8:List Dat→Option RV:=fn 7 0
  (aA (sIf (tV (e2 gEq (eV 0) (eC (.int 0)))) (sR (eU [(eF uF [(eV 1),(eV 3)]),(b9 2 1 (bN 7) (tV (e2 gGe (e2 gIx (eV 7) (eC (.int 0))) (eV 3))) (eV 7))])) sNx)
  (aA (sIf (jh (tV (e2 gEq (eV 0) (eC (.int 1)))) (tV (e2 gLe (eV 4) (e2 gIx (eV 1) (eC (.int 1)))))) (sR (eU [(eF uG [(eV 1),(eV 4)]),(eV 2)])) sNx)
  (aA (sIf (jh (tV (e2 gEq (eV 0) (eC (.int 2)))) (tV (e2 gNe (eV 5) (eV 6)))) (sR (eU [(eF uJ [(eV 1),(eV 5),(eV 6)]),(eF uK [(eV 2),(eV 5),(eV 6)])])) sNx)
  (sR (eU [(eV 1),(eV 2)])))))
noncomputable def yT:FS:=
  (aA (sU [8,9] (eF p8 [(e2 dh (e2 bF (eV 14) (eV 15)) (eC (.int 3))),(eV 8),(eV 9),(eV 10),(eV 11),(eV 12),(eV 13)]))
  (sIf (tOr (tV (e2 gNe (eV 8) (eF p5 [(eV 3),(eV 9),(e2 gIx (eV 8) (eC (.int 1)))]))) (tV (e2 gNe (eB pP [(eV 6)]) (eV 7)))) (sR (eC (.bl false))) sNx))
noncomputable def sq:FS:=
  (aA (sA 2 (eF i0 [(eV 0),(eV 1)]))
  (aA (sA 3 (eFm pY 2 []))
  (aA (sA 4 (e2 bF (eC (.int 1)) (eFm bu 2 [(eC (.int 4))])))
  (aA (sA 5 (eFn mL (eF i0 [(eV 0),(e2 bF (eV 1) (eC (.int 1)))]) [(eV 3),(eC (.int 30))]))
  (aA (sA 2 (eF i0 [(eV 0),(e2 bF (eV 1) (eC (.int 2)))]))
  (aA (sA 6 (bG (iS (eFm p6 2 [(eV 5)])) 1 (bN 16) cS (eF iZ [(eV 3),(eV 16),(eV 4)])))
  (aA (sA 7 (eB pP [(eV 6)]))
  (aA (sA 2 (eF i0 [(eV 0),(e2 bF (eV 1) (eC (.int 3)))]))
  (aA (sA 8 (eFm p7 2 [(eV 6)]))
  (aA (sIf (tOr (tV (e2 gNe (eV 8) (eF p5 [(eV 3),(eV 5),(eV 4)]))) (tV (e2 gNe (eB pP [(eV 6)]) (eV 7)))) (sR (eC (.bl false))) sNx)
  (aA (sA 9 (eV 5))
  (aA (sA 10 (eFm pZ 2 [(eV 5)]))
  (aA (sA 11 (e2 bF (eC (.int 1)) (eFm bu 2 [(eV 4)])))
  (aA (sA 12 (eFm bu 2 [(eV 3)]))
  (aA (sA 13 (eFm bu 2 [(eV 3)]))
  (aA (sA 14 (eFm bu 2 [(eC (.int 3))]))
  (fy (iR1 (eC (.int 3))) (bN 15)
  yT)))))))))))))))))
noncomputable def jW:List Dat→Option RV:=fn 1 15
  (aA (fy (iRs (eC (.int 0)) (eB gH [(eC (.int 1)),(eB gG [(eB e_ [(eV 0)]),(eC (.int 12))])]) (eC (.int 4))) (bN 1)
  sq)
  (sR (eC (.bl true))))
end P
local macro_rules | `(tactic| array_get_dec)=>`(tactic| first | with_reducible refine Dm.Ws.seq ?_ | with_reducible refine Dm.We.e2 ?_ | ((with_reducible apply Dm.We.v);(focus rfl)) | ((with_reducible apply Dm.We.w);(focus rfl)) | with_reducible refine Dm.We.c ?_ | (refine Dm.WA.val ?_ (by first | (dsimp only [List.set];first | done | rfl) | rfl)) | (refine Dm.WA.new ?_ (by first | (dsimp only [List.set];first | done | rfl) | rfl)) | (refine Dm.WA.slot ?_ rfl (by first | (dsimp only [List.set];first | done | rfl) | rfl)) | with_reducible refine Dm.Ws.A ?_ (by decide) | with_reducible refine Dm.Ws.If ?_ | with_reducible refine Dm.Wt.V ?_ | with_reducible refine Dm.Wt.Not ?_ | with_reducible refine Dm.Wt.And ?_ | with_reducible refine Dm.Wt.Or ?_ | with_reducible refine Dm.Wt.T ?_ | (refine Dm.Wb.mk ?_) | (refine Dm.cy.mk ?_) | with_reducible refine Dm.Wif.t ?_ | with_reducible refine Dm.Wif.f ?_ | with_reducible refine Dm.Was.nil ?_ | with_reducible refine Dm.Was.cons ?_ | with_reducible refine Dm.We.B ?_ | with_reducible refine Dm.We.F ?_ | with_reducible refine Dm.We.T ?_ | with_reducible refine Dm.We.L ?_ | with_reducible refine Dm.We.e1 ?_ | with_reducible refine Dm.We.If ?_ | with_reducible refine Dm.We.And ?_ | with_reducible refine Dm.We.Or ?_ | with_reducible refine Dm.We.Not ?_ | with_reducible refine Dm.We.Sl ?_ | with_reducible refine Dm.We.SlT ?_ | with_reducible refine Dm.Wp.none ?_ | with_reducible refine Dm.Wp.some ?_ | (refine Dm.Wsl.A (enc:=Dm.Dat.int) ?_ rfl) | (refine Dm.Wsl.mk ?_ rfl) | (refine Dm.WT.mk ?_ rfl (by first | (dsimp only [List.set];first | done | rfl) | rfl) (by exact Nat.le_of_ble_eq_true rfl)) | (refine Dm.Wk.val ?_) | (refine Dm.Wk.new ?_) | (refine Dm.Wk.slot ?_ rfl (by first | (dsimp only [List.set];first | done | rfl) | rfl)) | with_reducible refine Dm.We.Dn ?_ | with_reducible refine Dm.We.D1 ?_ | with_reducible refine Dm.Ws.Km ?_ | (refine Dm.Kn ?_ rfl) | (refine Dm.yI rfl ?_) | (refine Dm.Ji ?_ rfl (by first | (dsimp only [List.set];first | done | rfl) | rfl) ?_) | (refine Dm.Ws.App ?_ rfl) | (refine Dm.jV ?_ rfl (by first | (dsimp only [List.set];first | done | rfl) | rfl) ?_) | with_reducible refine Dm.Ws.U ?_ | (refine Dm.yF ?_ rfl (by first | (dsimp only [List.set];first | done | rfl) | rfl)) | with_reducible refine Dm.Ws.R ?_ | (refine Dm.WR.new ?_) | (refine Dm.WR.val ?_) | (refine Dm.WR.slot ?_ rfl) | with_reducible refine Dm.Ws.nx ?_ | with_reducible refine Dm.Ws.bk ?_ | with_reducible refine Dm.Ws.ct ?_ | with_reducible refine Dm.Ws.E ?_ | with_reducible refine Dm.Ws.For ?_ | with_reducible refine Dm.Wi.S ?_ | with_reducible refine Dm.Wi.L ?_ | with_reducible refine Dm.Wi.R1 ?_ | with_reducible refine Dm.Wi.R2 ?_ | (refine Dm.Jj ?_) | (refine Dm.Jk ?_) | (refine Dm.Wg2.eq ?_ rfl rfl) | (refine Dm.Wg2.ne ?_ rfl rfl) | (refine Dm.Wg2.CH ?_ rfl rfl ?_) | (refine Dm.Wg2.Kf ?_ rfl rfl ?_) | (refine Dm.Wg2.eqb ?_ rfl rfl) | (refine Dm.Wg2.neb ?_ rfl rfl) | (refine Dm.Wg2.J4 ?_ rfl rfl) | (refine Dm.Wg2.isb ?_ rfl rfl) | (refine Dm.Wg2.lt ?_ rfl rfl) | (refine Dm.Wg2.le ?_ rfl rfl) | (refine Dm.Wg2.gt ?_ rfl rfl) | (refine Dm.Wg2.ge ?_ rfl rfl) | (refine Dm.Wg2.add ?_ rfl rfl) | (refine Dm.Wg2.Ko ?_ rfl rfl ?_) | (refine Dm.Wg2.Kg ?_ rfl rfl ?_) | (refine Dm.Wg2.HV ?_ rfl rfl ?_) | (refine Dm.Wg2.sub ?_ rfl rfl) | (refine Dm.Wg2.mul ?_ rfl rfl (by first | exact Or.inl (by decide) | exact Or.inr (by decide))) | (refine Dm.Wg2.mul ?_ rfl rfl ?_) | (refine Dm.Wg2.div ?_ rfl rfl (by decide)) | (refine Dm.Wg2.div ?_ rfl rfl ?_) | (refine Dm.Wg2.mod ?_ rfl rfl (by decide)) | (refine Dm.Wg2.mod ?_ rfl rfl ?_) | (refine Dm.Wg2.din ?_ rfl rfl) | (refine Dm.Wg2.Kp ?_ rfl rfl) | (refine Dm.Wg2.inP ?_ rfl rfl) | (refine Dm.Wg2.Kq ?_ rfl rfl) | (refine Dm.Wg2.ix ?_ rfl rfl rfl) | (refine Dm.WB.yH (enc:=Dm.Dat.int) ?_ rfl) | (refine Dm.WB.len ?_ rfl) | (refine Dm.WB.EV ?_ rfl) | (refine Dm.WB.min2 ?_ rfl) | (refine Dm.WB.max2 ?_ rfl) | (refine Dm.WB.list ?_ rfl) | (refine Dm.WB.int ?_ rfl) | (refine Dm.WB.sum2 ?_ rfl ?_) | (refine Dm.Wg1.EW (enc:=Dm.Dat.int) ?_ rfl) | (refine Dm.Wg1.mk ?_ rfl rfl))
namespace P
open Dm
structure Tie where
 m:Int
 a:Int
 b:Int
noncomputable def aK (t:Tie):Dat:=.tup [.int t.m,.int t.a,.int t.b]
noncomputable def aC (r:List Tie):Dat:=.lst (r.map aK)
theorem cM (x n:Int) (h:1≤n):0≤x % n∧x % n<n:=⟨Int.emod_nonneg x (by omega),Int.emod_lt_of_pos x (by omega)⟩
noncomputable def at' (ns:List Int) (i:Int):Int:=ns.getD i.toNat 0
theorem gW (ns:List Int) (i:Int) (h0:0≤i) (h1:i<ns.length):atI (ns.map Dat.int) i=some (.int (at' ns i)):=by
 unfold atI ixN at'
 rw [if_pos h0,if_pos (by simpa using h1)]
 have hi:i.toNat<ns.length:=by omega
 show (ns.map Dat.int)[i.toNat]?=_
 rw [List.getElem?_map,List.getElem?_eq_getElem hi,List.getD_eq_getElem?_getD,List.getElem?_eq_getElem hi]
 rfl
theorem EY (ns:List Int) (i:Int) (h0:0≤i) (h1:i<ns.length):gIx (.lst (ns.map Dat.int)) (.int i)=some (.val (.int (at' ns i))):=by
 show (atI (ns.map Dat.int) i).map RV.val=_
 rw [gW ns i h0 h1]
 rfl
noncomputable def Good (n:Int):Int→List Tie→Prop
 | _,[]=>True
 | lo,t::r=>lo≤t.m∧0≤t.a∧t.a≤t.b∧t.b<n∧Good n (t.m+1) r
noncomputable def mgf (f:Int→Int) (a b:Int):Int→Int:=fun x=>if f x=f b then f a else f x
inductive Con (ts:List Tie):Int→Int→Prop
 | refl (x:Int):Con ts x x
 | tie (t:Tie):t∈ts→Con ts t.a t.b
 | symm {x y:Int}:Con ts x y→Con ts y x
 | trans {x y z:Int}:Con ts x y→Con ts y z→Con ts x z
theorem Con.mono {ts us:List Tie} (h:∀ t∈ts,t∈us) {x y:Int} (c:Con ts x y):Con us x y:=by
 induction c with
 | refl x=>exact .refl x
 | tie t m=>exact .tie t (h t m)
 | symm _ ih=>exact .symm ih
 | trans _ _ i1 i2=>exact .trans i1 i2
noncomputable def Tells (f:Int→Int) (ts:List Tie):Prop:=∀ x y,f x=f y↔Con ts x y
theorem Con.nil {x y:Int} (c:Con [] x y):x=y:=by
 induction c with
 | refl x=>rfl
 | tie t m=>cases m
 | symm _ ih=>exact ih.symm
 | trans _ _ i1 i2=>exact i1.trans i2
theorem tells_nil:Tells (fun x=>x) []:=fun x y=>⟨fun h=>by cases h;exact .refl _,fun c=>c.nil⟩
theorem tells_mgf {f:Int→Int} {ts:List Tie} (h:Tells f ts) (t:Tie) (a b:Int) (hab:(a=t.a∧b=t.b)∨(a=t.b∧b=t.a)):Tells (mgf f a b) (t::ts):=by
 have up:∀ {x y},f x=f y→Con (t::ts) x y:=fun e=>Con.mono (fun u m=>List.mem_cons_of_mem _ m) ((h _ _).mp e)
 have ab:Con (t::ts) a b:=by
  rcases hab with ⟨rfl,rfl⟩ | ⟨rfl,rfl⟩
  ·exact .tie t List.mem_cons_self
  ·exact .symm (.tie t List.mem_cons_self)
 intro x y
 unfold mgf
 constructor
 ·intro e
  by_cases hx:f x=f b
  ·rw [if_pos hx] at e
   by_cases hy:f y=f b
   ·exact up (hx.trans hy.symm)
   ·rw [if_neg hy] at e
    exact .trans (up hx) (.trans (.symm ab) (up e))
  ·rw [if_neg hx] at e
   by_cases hy:f y=f b
   ·rw [if_pos hy] at e
    exact .trans (up e) (.trans ab (.symm (up hy)))
   ·rw [if_neg hy] at e
    exact up e
 ·intro c
  have key:∀ {x y:Int},Con (t::ts) x y→(if f x=f b then f a else f x)=(if f y=f b then f a else f y):=fun c=>by
   induction c with
   | refl x=>rfl
   | tie u m=>
    rcases List.mem_cons.mp m with rfl | m
    ·rcases hab with ⟨rfl,rfl⟩ | ⟨rfl,rfl⟩
     ·rw [if_pos (rfl:f u.b=f u.b)]
      split
      ·rfl
      ·rfl
     ·rw [if_pos (rfl:f u.a=f u.a)]
      split
      ·rfl
      ·rfl
    ·have e:=(h u.a u.b).mpr (.tie u m)
     rw [e]
   | symm _ ih=>exact ih.symm
   | trans _ _ i1 i2=>exact i1.trans i2
  exact key c
noncomputable def lay (r:List Tie) (ms:List Int) (j:Int):List Tie:=((r.zip ms).filter fun p=>decide (p.2=j)).map (·.1)
theorem aY (t:Tie) (m:Int) (r:List Tie) (ms:List Int) (j:Int):lay (t::r) (m::ms) j=if m=j then t::lay r ms j else lay r ms j:=by
 unfold lay
 rw [List.zip_cons_cons,List.filter_cons]
 by_cases h:m=j<;>simp [h]
noncomputable def fu (k:Int) (r:List Tie) (ms:List Int) (t:Tie) (m:Int):Prop:=
 (m=0∧∀ j,1≤j→j≤k→Con (lay r ms j) t.a t.b)∨(1≤m∧m≤k∧¬ Con (lay r ms m) t.a t.b∧∀ j,1≤j→j<m→Con (lay r ms j) t.a t.b)
noncomputable def aP (k:Int):List Tie→List Int→Prop
 | [],[]=>True
 | t::r,m::ms=>aP k r ms∧fu k r ms t m
 | _,_=>False
theorem fu.uniq {k:Int} {r:List Tie} {ms:List Int} {t:Tie} {m m':Int} (h:fu k r ms t m) (h':fu k r ms t m'):m=m':=by
 rcases h with ⟨rfl,h⟩ | ⟨h1,h2,h3,h4⟩
 ·rcases h' with ⟨rfl,_⟩ | ⟨g1,g2,g3,_⟩
  ·rfl
  ·exact absurd (h m' g1 g2) g3
 ·rcases h' with ⟨rfl,h'⟩ | ⟨g1,g2,g3,g4⟩
  ·exact absurd (h' m h1 h2) h3
  ·rcases Int.lt_trichotomy m m' with q | q | q
   ·exact absurd (g4 m h1 q) h3
   ·exact q
   ·exact absurd (h4 m' g1 q) g3
theorem aP.len {k:Int}:∀ {r:List Tie} {ms:List Int},aP k r ms→ms.length=r.length
 | [],[],_=>rfl
 | _::r,_::ms,h=>by simp [aP.len h.1]
 | [],_::_,h=>h.elim
 | _::_,[],h=>h.elim
theorem aP.uniq {k:Int}:∀ {r:List Tie} {ms ms':List Int},aP k r ms→aP k r ms'→ms=ms'
 | [],[],[],_,_=>rfl
 | _::r,m::ms,m'::ms',h,h'=>by
  have e:=aP.uniq h.1 h'.1
  subst e
  rw [h.2.uniq h'.2]
 | [],_::_,_,h,_=>h.elim
 | [],[],_::_,_,h=>h.elim
 | _::_,[],_,h,_=>h.elim
 | _::_,_::_,[],_,h=>h.elim
noncomputable def lab (n:Nat) (f:Int→Int):Dat:=.lst ((List.range n).map fun (i:Nat)=>Dat.int (f i))
theorem iJ (n:Nat) (f:Int→Int) (x:Int) (h0:0≤x) (h1:x<n):gIx (lab n f) (.int x)=some (.val (.int (f x))):=by
 unfold lab gIx atI ixN
 have hx:x.toNat<n:=by omega
 have hc:((x.toNat:Nat):Int)=x:=by omega
 simp only [List.length_map,List.length_range,h0,h1,if_true]
 simp [List.getElem?_range hx,hc]
theorem yU (n:Nat):Dat.lst (ups 0 n)=lab n fun x=>x:=by
 unfold ups lab
 simp
theorem By (n:Nat) (f:Int→Int):lab n f=.lst (((List.range n).map fun (i:Nat)=>f i).map Dat.int):=by
 unfold lab
 rw [List.map_map]
 rfl
theorem v5 (n:Nat) (hn:n≤10) (f:Int→Int) (a b:Int) (a0:0≤a) (a1:a<n) (b0:0≤b) (b1:b<n):uy [lab n f,.int a,.int b]=some (.new (lab n (mgf f a b))):=by
 apply Wr.eq
 unfold uy
 (refine Dm.Wr.fn ?_ rfl rfl;dsimp only [List.map,List.replicate,List.cons_append,List.nil_append])
 refine Ws.R (We.ET (fun i:Nat=>Dat.int (f i)) (List.range n) (fun i:Nat=>mgf f a b i) Dat.int (d:=lab n f) ?_ rfl rfl rfl (by decide) (by rw [List.length_range];unfold SZ;omega) fun i _=>?_)
 ·rw [← By];rfl
 ·refine We.If (Wt.V (We.e2 (We.v rfl (We.e2 (We.v rfl (We.v rfl (Wg2.ix ?_ rfl rfl (iJ n f b b0 b1))))))))
  refine Wg2.eq (Wb.mk ⟨fun g=>?_,fun g=>?_⟩) rfl rfl
  ·refine We.e2 (We.v rfl (We.v rfl (Wg2.ix (Wk.val ⟨?_,rfl⟩) rfl rfl (iJ n f a a0 a1))))
   unfold mgf;rw [if_pos (of_decide_eq_true g)]
  ·refine We.v rfl (Wk.val ⟨?_,rfl⟩)
   unfold mgf;rw [if_neg (of_decide_eq_false g)]
theorem p9 {α:Type} (enc:α→Dat) (d:α):∀ (k:Nat) (l:List α),gQ k (l.map enc)=(List.range l.length).map fun i=>.tup [.int ((k+i:Nat):Int),enc (l.getD i d)]
 | k,[]=>rfl
 | k,x::l=>by
  rw [List.map_cons,gQ,p9 enc d (k+1) l,List.length_cons,List.range_succ_eq_map,List.map_cons,List.map_map]
  congr 1
  apply List.map_congr_left
  intro i _
  show _=Dat.tup [.int ((k+(i+1):Nat):Int),enc ((x::l).getD (i+1) d)]
  rw [show k+1+i=k+(i+1) by omega]
  rfl
theorem jX {n k:Nat} {p q:List Nat} (e:List.range n=p++k::q):k=p.length∧k<n:=by
 have h1:(List.range n)[p.length]?=some k:=by rw [e,List.getElem?_append_right (Nat.le_refl _),Nat.sub_self];rfl
 have h2:p.length<n:=by
  have:(List.range n).length=p.length+(q.length+1):=by rw [e];simp
  rw [List.length_range] at this;omega
 rw [List.getElem?_range h2] at h1
 injection h1 with h1
 omega
noncomputable def yV (gs:List (Int→Int)) (a b:Int) (i:Nat) (num:Int):Prop:=
 (num=0∧∀ (j:Nat) f,j<i→gs[j]?=some f→f a=f b)∨∃ (j:Nat) (f:Int→Int),j<i∧gs[j]?=some f∧f a≠f b∧(∀ (j':Nat) f',j'<j→gs[j']?=some f'→f' a=f' b)∧num=(j:Int)+1
theorem yW (n:Nat) (gs:List (Int→Int)) (a b:Int) (a0:0≤a) (a1:a<n) (b0:0≤b) (b1:b<n):∃ num:Int,pX [.lst (gs.map (lab n)),.int a,.int b]=some (.val (.int num))∧yV gs a b gs.length num:=by
 suffices hh:Wr (pX [.lst (gs.map (lab n)),.int a,.int b]) fun v=>∃ num:Int,v=.val (.int num)∧yV gs a b gs.length num by
  obtain ⟨v,h1,num,rfl,h2⟩:=hh
  exact ⟨num,h1,h2⟩
 unfold pX
 (refine Dm.Wr.fn ?_ rfl rfl;dsimp only [List.map,List.replicate,List.cons_append,List.nil_append])
 refine Ws.seq (Ws.For (Wi.En (We.v rfl (Wk.val ⟨_,rfl,?_⟩))))
 rw [p9 (lab n) fun x=>x]
 refine Ws.inv (fun i:Nat=>Dat.tup [.int ((0+i:Nat):Int),lab n (gs.getD i fun x=>x)]) _ _ (List.range gs.length) _ _ _ _ _ (fun p q ρ=>∃ c3 c4:Cell,ρ=[.sh (.lst (gs.map (lab n))),.sh (.int a),.sh (.int b),c3,c4]∧∀ (j:Nat) f,j<p.length→gs[j]?=some f→f a=f b) ⟨_,_,rfl,fun j f hj=>by simp at hj⟩ ?_ ?_
 ·rintro p i q ρ e ⟨c3,c4,rfl,low⟩
  obtain ⟨ip,il⟩:=jX e
  have hf:gs[i]?=some (gs.getD i fun x=>x):=by rw [List.getD_eq_getElem?_getD,List.getElem?_eq_getElem il];rfl
  generalize (gs.getD i fun x=>x)=f at hf
  refine Dm.bY rfl (by first | (dsimp only [List.set];first | done | rfl) | rfl) ?_
  unfold yL
  refine Ws.If (Wt.V (We.e2 (We.e2 (We.v rfl (We.v rfl (Wg2.ix ?_ rfl rfl (iJ n f a a0 a1)))))))
  refine We.e2 (We.v rfl (We.v rfl (Wg2.ix ?_ rfl rfl (iJ n f b b0 b1))))
  refine Wg2.ne (Wb.mk ?_) rfl rfl
  by_cases h:f a=f b
  ·refine Wif.no (by simp [h]) (Ws.nx ⟨_,_,rfl,fun j g hj hg=>?_⟩)
   rw [List.length_append,List.length_singleton] at hj
   by_cases q:j=i
   ·subst q;rw [hf] at hg;cases hg;exact h
   ·exact low j g (by omega) hg
  ·refine Wif.yes (by simp [h]) (Ws.R (We.e2 (We.v rfl (We.c (Wg2.add ?_ rfl rfl)))))
   exact ⟨_,rfl,.inr ⟨i,f,il,hf,h,fun j g hj=>low j g (by omega),by omega⟩⟩
 ·rintro ρ ⟨c3,c4,rfl,low⟩
  rw [List.length_range] at low
  exact Ws.R (We.c ⟨0,rfl,.inl ⟨rfl,low⟩⟩)
noncomputable def Ends (n:Int) (r:List Tie):Prop:=∀ t∈r,0≤t.a∧t.a<n∧0≤t.b∧t.b<n
noncomputable def jY (k:Nat) (gs:List (Int→Int)) (r:List Tie) (ms:List Int):Prop:=gs.length=k∧∀ (j:Nat) f,gs[j]?=some f→Tells f (lay r ms ((j:Int)+1))
theorem map_set (n:Nat) (gs:List (Int→Int)) (i:Nat) (f:Int→Int):(gs.map (lab n)).set i (lab n f)=(gs.set i f).map (lab n):=by rw [List.map_set]
noncomputable def yX (o:Bool) (gs gs':List (Int→Int)) (a b:Int) (i:Nat) (num:Int):Prop:=
 (num=0∧gs'=gs∧∀ (j:Nat) f,j<i→gs[j]?=some f→f a=f b)∨∃ (j:Nat) (f:Int→Int),j<i∧gs[j]?=some f∧f a≠f b∧(∀ (j':Nat) f',j'<j→gs[j']?=some f'→f' a=f' b)∧num=(j:Int)+1∧gs'=gs.set j (mgf f (if o then a else b) (if o then b else a))
theorem yX.num {k:Nat} {o:Bool} {gs gs':List (Int→Int)} {r:List Tie} {ms:List Int} (h:jY k gs r ms) (t:Tie) {num:Int} (l:yX o gs gs' t.a t.b k num):fu k r ms t num∧jY k gs' (t::r) (num::ms):=by
 obtain ⟨hl,ht⟩:=h
 rcases l with ⟨rfl,rfl,h2⟩ | ⟨j,f,jk,h1,h3,h4,rfl,rfl⟩
 ·refine ⟨.inl ⟨rfl,fun j j1 j2=>?_⟩,hl,fun i g hg=>?_⟩
  ·have hj:(j-1).toNat<gs'.length:=by omega
   have:=(ht (j-1).toNat _ (List.getElem?_eq_getElem hj) t.a t.b).mp (h2 _ _ (by omega) (List.getElem?_eq_getElem hj))
   rw [show (((j-1).toNat:Nat):Int)+1=j by omega] at this
   exact this
  ·rw [aY,if_neg (by omega)]
   exact ht i g hg
 ·have hj:j<gs.length:=(List.getElem?_eq_some_iff.mp h1).1
  refine ⟨.inr ⟨by omega,by omega,fun c=>h3 ((ht j f h1 t.a t.b).mpr c),fun i i1 i2=>?_⟩,by rw [List.length_set];exact hl,fun i g hg=>?_⟩
  ·have hi:(i-1).toNat<gs.length:=by omega
   have:=(ht (i-1).toNat _ (List.getElem?_eq_getElem hi) t.a t.b).mp (h4 (i-1).toNat _ (by omega) (List.getElem?_eq_getElem hi))
   rw [show (((i-1).toNat:Nat):Int)+1=i by omega] at this
   exact this
  ·rw [aY]
   by_cases q:j=i
   ·subst q
    rw [List.getElem?_set_self hj] at hg
    cases hg
    rw [if_pos rfl]
    cases o
    ·exact tells_mgf (ht j f h1) t t.b t.a (.inr ⟨rfl,rfl⟩)
    ·exact tells_mgf (ht j f h1) t t.a t.b (.inl ⟨rfl,rfl⟩)
   ·rw [List.getElem?_set_ne q] at hg
    rw [if_neg (by omega)]
    exact ht i g hg
theorem CJ (n:Nat) (gs:List (Int→Int)) {i:Nat} {f:Int→Int} (h:gs[i]?=some f):gIx (.lst (gs.map (lab n))) (.int (0+(i:Nat)))=some (.val (lab n f)):=by
 have hi:=(List.getElem?_eq_some_iff.mp h).1
 rw [Int.zero_add]
 show (atI (gs.map (lab n)) i).map RV.val=_
 rw [Dm.gW (lab n) gs (i:Nat) (by omega) (by omega)]
 have:gs[((i:Nat):Int).toNat]'(by omega)=f:=by
  have:=List.getElem?_eq_some_iff.mp h
  simpa using this.2
 rw [this];rfl
theorem EZ (k:Nat):jY k ((List.range k).map fun _=>(fun x:Int=>x)) [] []:=⟨by simp,fun j f hf=>by
 rw [List.getElem?_map] at hf
 cases h:(List.range k)[j]? with
 | none=>rw [h] at hf;cases hf
 | some x=>rw [h] at hf;cases hf;exact tells_nil⟩
theorem yY (i:Int):Bq [.int i]=some (.val (.bl true)):=by
 apply Wr.eq
 unfold Bq
 (refine Dm.Wr.fn ?_ rfl rfl;dsimp only [List.map,List.replicate,List.cons_append,List.nil_append])
 refine Ws.R (We.And (We.e1 (We.v rfl (Wg1.mk (v:=.val (.bl true)) (Wb.mk (Wif.t ?_)) rfl rfl))))
 exact ⟨_,_,rfl,rfl⟩
theorem cB (i lo hi:Int) (h1:lo≤i) (h2:i≤hi):pW [.int i,.int lo,.int hi]=some (.val (.bl true)):=by
 apply Wr.eq
 unfold pW
 (refine Dm.Wr.fn ?_ rfl rfl;dsimp only [List.map,List.replicate,List.cons_append,List.nil_append])
 refine Ws.R (We.And (We.F (Was.cons (We.v rfl (Was.nil (WF.val (yY i) (Wb.mk (Wif.t ?_)) rfl rfl))))))
 have e1:gLe (.int lo) (.int i)=some (.val (.bl true)):=by show vB (decide (lo≤i))=_;rw [decide_eq_true h1]
 have e2:gLe (.int i) (.int hi)=some (.val (.bl true)):=by show vB (decide (i≤hi))=_;rw [decide_eq_true h2]
 have e:ir gLe gLe (eV 1) (eV 0) (eV 2) [.sh (.int i),.sh (.int lo),.sh (.int hi)]=some (.val (.bl true),[.sh (.int i),.sh (.int lo),.sh (.int hi)]):=by
  unfold ir
  simp only [eV,List.getElem?_cons_zero,List.getElem?_cons_succ,pk,e1,e2,RV.bz]
 exact ⟨_,_,e,rfl⟩
theorem v7 (k:Int) (h1:1≤k) (h6:k≤6):uw [.int k]=some (.val .non):=by
 have e:se [.int k]=some (.val (.bl true)):=by
  apply Wr.eq
  unfold se
  (refine Dm.Wr.fn ?_ rfl rfl;dsimp only [List.map,List.replicate,List.cons_append,List.nil_append])
  exact Ws.R (We.F (Was.cons (We.v rfl (Was.cons (We.c (Was.cons (We.c (Was.nil (WF.val (cB k 1 6 h1 h6) rfl rfl rfl)))))))))
 apply Wr.eq
 unfold uw
 (refine Dm.Wr.fn ?_ rfl rfl;dsimp only [List.map,List.replicate,List.cons_append,List.nil_append])
 exact Ws.If (Wt.Not (Wt.V (We.F (Was.cons (We.v rfl (Was.nil (WF.val e (Wb.mk (Wif.f (Ws.nx rfl))) rfl rfl)))))))
theorem Ws.k {s:FS} {ρ:Env} {Q B C:Env→Prop} {R:RV→Env→Prop} (h:∀ K:Env→Prop,(∀ ρ,Q ρ→K ρ)→Ws s ρ K R B C):Ws s ρ Q R B C:=h Q fun _ h=>h
theorem jZ (n k:Nat) (hn:n≤10) (hk1:1≤k) (hk6:k≤6) (r:List Tie) (hr:Ends n r) (hl:r.length≤1000):∃ ms:List Int,mK [.int n,aC r,.int k]=some (.new (.lst (ms.map Dat.int)))∧aP k r ms:=by
 suffices hh:Wr (mK [.int (n:Nat),aC r,.int (k:Nat)]) fun v=>∃ ms:List Int,v=.new (.lst (ms.map Dat.int))∧aP k r ms by
  obtain ⟨v,h1,ms,rfl,h2⟩:=hh
  exact ⟨ms,h1,h2⟩
 unfold mK
 (refine Dm.Wr.fn ?_ rfl rfl;dsimp only [List.map,List.replicate,List.cons_append,List.nil_append])
 refine Ws.seq (Ws.E (We.F (Was.cons (We.v rfl (Was.nil (WF.val (v7 k (by omega) (by omega)) ?_ rfl rfl))))))
 refine Ws.seq (Ws.A (We.Map (fun i:Nat=>Dat.int (0+(i:Nat))) (List.range k) (fun _=>(fun x:Int=>x)) (lab n) (ρ1:=[.sh (.int (n:Nat)),.sh (aC r),.sh (.int (k:Nat)),.un,.un,.un,.un,.un,.un]) ?_ ?_ rfl (by decide) (by rw [List.length_range];unfold SZ;omega) fun i _=>?_) (by decide))
 rotate_left
 ·apply Wi.get
  refine Wi.R1 (We.v rfl (cy.mk ⟨⟨?_,rfl⟩,by unfold BIG;omega,by unfold BIG;omega⟩))
  rw [Int.toNat_natCast];rfl
 ·refine We.B (Was.cons (We.v rfl (Was.nil (WB.HY ?_ rfl (by omega)))))
  rw [Int.toNat_natCast,yU]
  exact Wk.new ⟨rfl,rfl⟩
 refine WA.new ?_ (by first | (dsimp only [List.set];first | done | rfl) | rfl)
 refine Ws.seq (Ws.A (We.L (Was.nil (WT.mk ?_ rfl rfl (by decide)))) (by decide))
 refine WA.new ?_ (by first | (dsimp only [List.set];first | done | rfl) | rfl)
 refine Ws.seq (Ws.For (Wi.Rev (We.v rfl (Wk.val ⟨_,rfl,?_⟩))))
 rw [← List.map_reverse]
 refine Ws.inv aK _ _ r.reverse _ _ _ _ _ (fun p q ρ=>∃ (gs:List (Int→Int)) (ms:List Int) (c5 c6 c7 c8:Cell),ρ=[.sh (.int (n:Nat)),.sh (aC r),.sh (.int (k:Nat)),.ow (.lst (gs.map (lab n))),.ow (.lst (ms.reverse.map Dat.int)),c5,c6,c7,c8]∧jY k gs p.reverse ms∧aP k p.reverse ms) ⟨(List.range k).map fun _=>(fun x:Int=>x),[],.un,.un,.un,.un,rfl,EZ k,trivial⟩ ?_ ?_
 ·rintro p t q ρ e ⟨gs,ms,c5,c6,c7,c8,rfl,I,A⟩
  have ht:t∈r:=List.mem_reverse.mp (by rw [e];simp)
  obtain ⟨t0,t1,t2,t3⟩:=hr t ht
  have lp:ms.length≤1000:=by
   have a:=A.len
   have:r.reverse.length=p.length+(q.length+1):=by rw [e];simp
   rw [List.length_reverse] at a this
   omega
  obtain ⟨num,en,ln⟩:=yW n gs t.a t.b t0 t1 t2 t3
  rw [I.1] at ln
  refine Dm.bY rfl (by first | (dsimp only [List.set];first | done | rfl) | rfl) ?_
  unfold yM
  refine Ws.seq (Ws.A (We.F (Was.cons (We.w rfl (Was.cons (We.v rfl (Was.cons (We.v rfl (Was.nil (WF.val en (WA.val ?_ (by first | (dsimp only [List.set];first | done | rfl) | rfl)) rfl rfl))))))))) (by decide))
  refine Ws.cut (fun ρ=>∃ gs',ρ=[.sh (.int (n:Nat)),.sh (aC r),.sh (.int (k:Nat)),.ow (.lst (gs'.map (lab n))),.ow (.lst (ms.reverse.map Dat.int)),.sh (.int t.m),.sh (.int t.a),.sh (.int t.b),.sh (.int num)]∧yX true gs gs' t.a t.b k num) ?_ ?_
  ·refine Ws.If (Wt.V (We.e2 (We.v rfl (We.c (Wg2.gt (Wb.mk ?_) rfl rfl)))))
   rcases ln with ⟨rfl,low⟩ | ⟨j,f,jk,hf,ne,low,rfl⟩
   ·exact Wif.no rfl (Ws.nx ⟨gs,rfl,.inl ⟨rfl,rfl,low⟩⟩)
   ·have gi:gIx (.lst (gs.map (lab n))) (.int ((j:Int)+1-1))=some (.val (lab n f)):=by
     have:=CJ n gs hf
     rw [show (j:Int)+1-1=0+(j:Nat) by omega]
     exact this
    refine Wif.yes (decide_eq_true (by omega)) ?_
    refine Ws.Set (We.F (Was.cons (We.e2 (We.w rfl (We.e2 (We.v rfl (We.c (Wg2.sub (Wg2.ix ?_ rfl rfl gi) rfl rfl))))))))
    refine Was.cons (We.v rfl (Was.cons (We.v rfl (Was.nil (WF.box (v5 n hn f t.a t.b t0 t1 t2 t3) ?_ rfl rfl rfl (by first | (dsimp only [List.set];first | done | rfl) | rfl))))))
    refine Wk.new ⟨⟨_,rfl⟩,We.e2 (We.v rfl (We.c (Wg2.sub (cy.mk ⟨gs.map (lab n),j,_,rfl,?_,rfl,?_⟩) rfl rfl)))⟩
    ·have hj:j<gs.length:=(List.getElem?_eq_some_iff.mp hf).1
     rw [List.length_map]
     unfold ixN
     rw [if_pos (by omega),if_pos (by omega)]
     congr 1
     omega
    ·exact ⟨gs.set j (mgf f t.a t.b),by rw [← map_set];rfl,.inr ⟨j,f,jk,hf,ne,low,rfl,rfl⟩⟩
  ·rintro ρ ⟨gs',rfl,L⟩
   obtain ⟨h1,h2⟩:=L.num I t
   refine Ws.App (We.v rfl (Wk.val (jV ?_ rfl (by first | (dsimp only [List.set];first | done | rfl) | rfl) (by rw [List.length_map,List.length_reverse];unfold SZ;omega)))) rfl
   refine ⟨gs',num::ms,.sh (.int t.m),.sh (.int t.a),.sh (.int t.b),.sh (.int num),by rw [List.reverse_cons,List.map_append];rfl,?_⟩
   rw [List.reverse_append]
   exact ⟨h2,A,h1⟩
 ·rintro ρ ⟨gs,ms,c5,c6,c7,c8,rfl,I,A⟩
  rw [List.reverse_reverse] at A
  refine Ws.R (We.e1 (We.w rfl (Wg1.mk (v:=.new (.lst (ms.map Dat.int))) ?_ rfl ?_)))
  ·exact ⟨ms,rfl,A⟩
  ·unfold jE
   dsimp only
   rw [← List.map_reverse,List.reverse_reverse]
theorem Good.lo {n:Int}:∀ {r:List Tie} {lo:Int},Good n lo r→∀ t∈r,lo≤t.m
 | [],_,_,t,h=>by cases h
 | x::r,lo,g,t,h=>by
  rcases List.mem_cons.mp h with rfl | h
  ·exact g.1
  ·have:=Good.lo g.2.2.2.2 t h;have:=g.1;omega
theorem Good.mem {n:Int}:∀ {r:List Tie} {lo:Int},Good n lo r→∀ t∈r,0≤t.a∧t.a≤t.b∧t.b<n
 | [],_,_,t,h=>by cases h
 | x::r,lo,g,t,h=>by
  rcases List.mem_cons.mp h with rfl | h
  ·exact ⟨g.2.1,g.2.2.1,g.2.2.2.1⟩
  ·exact Good.mem g.2.2.2.2 t h
theorem H_ {ns:List Int} {i:Int} {o p:Option Dat} {K:RV→Prop} (h0:0≤i) (h1:i<ns.length) (k:K (.val (.int (at' ns i)))) (ho:o=some (.lst (ns.map Dat.int))) (hp:p=some (.int i)):Wg2 gIx o p K:=⟨_,_,_,ho,hp,EY ns i h0 h1,k⟩
theorem Wg2.BA {i j:Int} {o p:Option Dat} {K:RV→Prop} (k:K (.val (.int (i*j)))) (ho:o=some (.int i)) (hp:p=some (.int j)) (h:i.natAbs.log2<1000000∧j.natAbs.log2<1000000):Wg2 gS o p K:=⟨_,_,_,ho,hp,by unfold gS;dsimp only;rw [if_pos h],k⟩
noncomputable def aJ (x:Int):Dat:=.lst [.int x]
noncomputable abbrev Z60:Int:=1000000000000000000000000000000000000000000000000000000000000
theorem jd (ns:List Int) (k:Int) (h0:0≤k) (h1:k<1000):∃ x,i0 [.lst (ns.map Dat.int),.int k]=some (.new (aJ x)):=by
 suffices h:Wr (i0 [.lst (ns.map Dat.int),.int k]) fun v=>∃ x,v=.new (aJ x) by
  obtain ⟨v,h1,c,rfl⟩:=h
  exact ⟨c,h1⟩
 unfold i0
 (refine Dm.Wr.fn ?_ rfl rfl;dsimp only [List.map,List.replicate,List.cons_append,List.nil_append])
 refine Ws.seq (Ws.A (We.c (WA.val ?_ (by first | (dsimp only [List.set];first | done | rfl) | rfl))) (by decide))
 refine Ws.cut (fun ρ=>∃ c:Int,ρ=[.sh (.lst (ns.map Dat.int)),.sh (.int k),.sh (.int c),.un,.un,.un]) ?_ ?_
 ·((with_reducible refine Dm.Ws.If ?_);(with_reducible refine Dm.Wt.V ?_);(with_reducible refine Dm.We.e2 ?_);((with_reducible apply Dm.We.v);(focus rfl));(with_reducible refine Dm.We.B ?_);(with_reducible refine Dm.Was.cons ?_);((with_reducible apply Dm.We.v);(focus rfl));(with_reducible refine Dm.Was.nil ?_);(refine Dm.WB.yH (enc:=Dm.Dat.int) ?_ rfl);(refine Dm.Wg2.lt ?_ rfl rfl);(refine Dm.Wb.mk ?_))
  refine ⟨fun h=>?_,fun h=>?_⟩
  ·have h:=of_decide_eq_true h
   ((with_reducible refine Dm.Ws.A ?_ (by decide));(with_reducible refine Dm.We.e2 ?_);((with_reducible apply Dm.We.v);(focus rfl));((with_reducible apply Dm.We.v);(focus rfl)))
   refine H_ h0 (by simpa using h) ?_ rfl rfl
   ((refine Dm.WA.val ?_ (by first | (dsimp only [List.set];first | done | rfl) | rfl)))
   exact ⟨_,rfl⟩
  ·((with_reducible refine Dm.Ws.nx ?_))
   exact ⟨_,rfl⟩
 rintro ρ ⟨c,rfl⟩
 refine Ws.seq (Ws.If (Wt.V (We.e2 (We.v rfl (We.e2 (We.c (We.c (Wg2.pow (z:=1000000000000000000) ?_ rfl rfl (by decide) (by decide)))))))))
 refine Wg2.ge (Wb.mk ?_) rfl rfl
 have p60:∀ {K:RV→Prop} {o p:Option Dat},K (.val (.int Z60))→o=some (.int 10)→p=some (.int 60)→Wg2 fC o p K:=fun k ho hp=>Wg2.pow (z:=Z60) k ho hp (by decide) (by decide +kernel)
 refine ⟨fun h=>?_,fun h=>?_⟩
 ·refine Ws.R (We.L (Was.cons (We.e2 (We.v rfl ?_))))
  refine We.e2 (We.e2 (We.e2 (We.e2 (We.e2 (We.c (We.c (p60 ?_ rfl rfl)))))))
  refine We.e2 (We.c (We.c (p60 ?_ rfl rfl)))
  refine Wg2.BA ?_ rfl rfl (by decide +kernel)
  refine We.e2 (We.c (We.c (p60 ?_ rfl rfl)))
  refine Wg2.BA ?_ rfl rfl (by decide +kernel)
  refine We.e2 (We.c (We.c (p60 ?_ rfl rfl)))
  refine Wg2.BA ?_ rfl rfl (by decide +kernel)
  refine We.e2 (We.c (We.c (p60 ?_ rfl rfl)))
  refine Wg2.BA ?_ rfl rfl (by decide +kernel)
  refine Wg2.mod ?_ rfl rfl (by decide +kernel)
  refine Was.nil (WT.mk ?_ rfl rfl (by exact Nat.le_of_ble_eq_true rfl))
  exact ⟨_,rfl⟩
 ·refine Ws.nx ?_
  refine Ws.cut (fun ρ=>∃ x:Int,(0≤x∧x<2147483647)∧ρ=[.sh (.lst (ns.map Dat.int)),.sh (.int k),.sh (.int c),.sh (.int x),.un,.un]) ?_ ?_
  ·((with_reducible refine Dm.Ws.A ?_ (by decide));(with_reducible refine Dm.We.e2 ?_);(with_reducible refine Dm.We.e2 ?_);(with_reducible refine Dm.We.e2 ?_);(with_reducible refine Dm.We.e2 ?_);((with_reducible apply Dm.We.v);(focus rfl));(with_reducible refine Dm.We.e2 ?_);(with_reducible refine Dm.We.e2 ?_);(with_reducible refine Dm.We.c ?_);((with_reducible apply Dm.We.v);(focus rfl));(refine Dm.Wg2.mul ?_ rfl rfl (by first | exact Or.inl (by decide) | exact Or.inr (by decide)));((with_reducible apply Dm.We.v);(focus rfl));(refine Dm.Wg2.mul ?_ rfl rfl ?_);(refine Dm.Wg2.add ?_ rfl rfl);(with_reducible refine Dm.We.e2 ?_);(with_reducible refine Dm.We.c ?_);((with_reducible apply Dm.We.v);(focus rfl));(refine Dm.Wg2.mul ?_ rfl rfl (by first | exact Or.inl (by decide) | exact Or.inr (by decide)));(refine Dm.Wg2.add ?_ rfl rfl);(with_reducible refine Dm.We.c ?_);(refine Dm.Wg2.add ?_ rfl rfl);(with_reducible refine Dm.We.c ?_);(refine Dm.Wg2.mod ?_ rfl rfl (by decide));(refine Dm.WA.val ?_ (by first | (dsimp only [List.set];first | done | rfl) | rfl)))
   ·exact ⟨_,cM _ _ (by decide),rfl⟩
   ·exact .inr (by unfold B64;omega)
  rintro ρ ⟨x,hx,rfl⟩
  refine Ws.seq (Ws.A (We.c (WA.val ?_ (by first | (dsimp only [List.set];first | done | rfl) | rfl))) (by decide))
  refine Ws.seq (Ws.For (Wi.R1 (We.c (cy.mk ⟨?_,by decide,by decide⟩))))
  refine Ws.inv (fun i:Nat=>Dat.int (0+(i:Nat))) _ _ (List.range 40) _ _ _ _ _ (fun p q ρ=>∃ (x f:Int) (c5:Cell),(0≤x∧x<2147483647)∧ρ=[.sh (.lst (ns.map Dat.int)),.sh (.int k),.sh (.int c),.sh (.int x),.sh (.int f),c5]) ⟨_,_,_,hx,rfl⟩ ?_ ?_
  ·rintro p i q ρ e ⟨x,f,c5,hx,rfl⟩
   refine Dm.bY rfl (by first | (dsimp only [List.set];first | done | rfl) | rfl) ?_
   unfold yO
   refine Ws.cut (fun ρ=>∃ y:Int,(0≤y∧y<2147483647)∧ρ=[.sh (.lst (ns.map Dat.int)),.sh (.int k),.sh (.int c),.sh (.int y),.sh (.int f),.sh (.int (0+(i:Nat)))]) ?_ ?_
   ·((with_reducible refine Dm.Ws.A ?_ (by decide));(with_reducible refine Dm.We.e2 ?_);(with_reducible refine Dm.We.e2 ?_);(with_reducible refine Dm.We.e2 ?_);(with_reducible refine Dm.We.e2 ?_);((with_reducible apply Dm.We.v);(focus rfl));(with_reducible refine Dm.We.c ?_);(refine Dm.Wg2.mul ?_ rfl rfl (by first | exact Or.inl (by decide) | exact Or.inr (by decide)));(with_reducible refine Dm.We.e2 ?_);(with_reducible refine Dm.We.c ?_);((with_reducible apply Dm.We.v);(focus rfl));(refine Dm.Wg2.mul ?_ rfl rfl (by first | exact Or.inl (by decide) | exact Or.inr (by decide)));(refine Dm.Wg2.add ?_ rfl rfl);(with_reducible refine Dm.We.c ?_);(refine Dm.Wg2.add ?_ rfl rfl);(with_reducible refine Dm.We.c ?_);(refine Dm.Wg2.mod ?_ rfl rfl (by decide));(refine Dm.WA.val ?_ (by first | (dsimp only [List.set];first | done | rfl) | rfl)))
    exact ⟨_,by have:=cM (x*48271+7919*(0+((i:Nat):Int))+3) 2147483629 (by decide);omega,rfl⟩
   rintro ρ ⟨y,hy,rfl⟩
   refine Ws.cut (fun ρ=>∃ y:Int,(0≤y∧y<2147483647)∧ρ=[.sh (.lst (ns.map Dat.int)),.sh (.int k),.sh (.int c),.sh (.int y),.sh (.int f),.sh (.int (0+(i:Nat)))]) ?_ ?_
   ·((with_reducible refine Dm.Ws.A ?_ (by decide));(with_reducible refine Dm.We.e2 ?_);(with_reducible refine Dm.We.e2 ?_);((with_reducible apply Dm.We.v);(focus rfl));((with_reducible apply Dm.We.v);(focus rfl));(refine Dm.Wg2.mul ?_ rfl rfl ?_);(with_reducible refine Dm.We.c ?_);(refine Dm.Wg2.mod ?_ rfl rfl (by decide));(refine Dm.WA.val ?_ (by first | (dsimp only [List.set];first | done | rfl) | rfl)))
    ·exact ⟨_,by have:=cM (y*y) 2147483587 (by decide);omega,rfl⟩
    ·exact .inl (by unfold B64;omega)
   rintro ρ ⟨z,hz,rfl⟩
   ((with_reducible refine Dm.Ws.A ?_ (by decide));(with_reducible refine Dm.We.e2 ?_);(with_reducible refine Dm.We.e2 ?_);((with_reducible apply Dm.We.v);(focus rfl));(with_reducible refine Dm.We.c ?_);(refine Dm.Wg2.mul ?_ rfl rfl (by first | exact Or.inl (by decide) | exact Or.inr (by decide)));(with_reducible refine Dm.We.e2 ?_);(with_reducible refine Dm.We.e2 ?_);(with_reducible refine Dm.We.e2 ?_);((with_reducible apply Dm.We.v);(focus rfl));(with_reducible refine Dm.We.c ?_);(refine Dm.Wg2.mul ?_ rfl rfl (by first | exact Or.inl (by decide) | exact Or.inr (by decide)));((with_reducible apply Dm.We.v);(focus rfl));(refine Dm.Wg2.add ?_ rfl rfl);(with_reducible refine Dm.We.c ?_);(refine Dm.Wg2.mod ?_ rfl rfl (by decide));(refine Dm.Wg2.add ?_ rfl rfl);(refine Dm.WA.val ?_ (by first | (dsimp only [List.set];first | done | rfl) | rfl)))
   exact ⟨_,_,_,hz,rfl⟩
  ·rintro ρ ⟨x,f,c5,hx,rfl⟩
   ((with_reducible refine Dm.Ws.R ?_);(with_reducible refine Dm.We.L ?_);(with_reducible refine Dm.Was.cons ?_);((with_reducible apply Dm.We.v);(focus rfl));(with_reducible refine Dm.Was.nil ?_);(refine Dm.WT.mk ?_ rfl (by first | (dsimp only [List.set];first | done | rfl) | rfl) (by exact Nat.le_of_ble_eq_true rfl));(refine Dm.WR.new ?_))
   exact ⟨_,rfl⟩
theorem BB (x m:Int) (h0:0<m) (h1:m<dX):bu [aJ x,.int m]=some (.val (.int (x % m)),aJ (x / m)):=by
 suffices h:WrM (bu [aJ x,.int m]) fun v d=>v=.val (.int (x % m))∧d=aJ (x / m) by
  obtain ⟨v,d,h1,rfl,rfl⟩:=h
  exact h1
 unfold bu
 refine WrM.fn ?_ rfl rfl
 dsimp only [List.map,List.replicate,List.cons_append,List.nil_append]
 unfold aJ
 ((with_reducible refine Dm.Ws.seq ?_);(with_reducible refine Dm.Ws.A ?_ (by decide));(with_reducible refine Dm.We.e2 ?_);(with_reducible refine Dm.We.e2 ?_);((with_reducible apply Dm.We.w);(focus rfl));(with_reducible refine Dm.We.c ?_);(refine Dm.Wg2.ix ?_ rfl rfl rfl);((with_reducible apply Dm.We.v);(focus rfl));(refine Dm.Wg2.mod ?_ rfl rfl ?_);(refine Dm.WA.val ?_ (by first | (dsimp only [List.set];first | done | rfl) | rfl));(with_reducible refine Dm.Ws.seq ?_))
 ·refine Ws.Set ?_
  ((with_reducible refine Dm.We.e2 ?_);(with_reducible refine Dm.We.e2 ?_);((with_reducible apply Dm.We.w);(focus rfl));(with_reducible refine Dm.We.c ?_);(refine Dm.Wg2.ix ?_ rfl rfl rfl);((with_reducible apply Dm.We.v);(focus rfl));(refine Dm.Wg2.div ?_ rfl rfl ?_);(refine Dm.Wk.val ?_);(refine Dm.yI rfl ?_);(with_reducible refine Dm.We.c ?_);(refine Dm.cy.mk ?_))
  ·refine ⟨_,0,_,rfl,rfl,rfl,?_⟩
   ((with_reducible refine Dm.Ws.R ?_);((with_reducible apply Dm.We.v);(focus rfl));(refine Dm.WR.val ?_))
   exact ⟨_,rfl,rfl,rfl⟩
  ·exact ⟨h0,h1⟩
 ·exact h0
noncomputable def Wtk (j:Nat) (m:Int) (ρ1:Env) (Q:Val→Env→Prop):Prop:=∃ x ρ3,Q (.val (.int (x % m))) ρ3∧ρ1[j]?=some (.ow (aJ x))∧ρ1.set j (.ow (aJ (x / m)))=ρ3∧0<m∧m<dX
theorem uL {j:Nat} {x m:Int} {ρ1 ρ3:Env} {Q:Val→Env→Prop} (q:Q (.val (.int (x % m))) ρ3) (h2:ρ1[j]?=some (.ow (aJ x))) (hn:ρ1.set j (.ow (aJ (x / m)))=ρ3) (h0:0<m) (h1:m<dX):Wtk j m ρ1 Q:=⟨_,_,q,h2,hn,h0,h1⟩
theorem We.take {j:Nat} {a:FE} {ρ:Env} {d0:Dat} {Q:Val→Env→Prop} (h:We a ρ fun v ρ1=>cy v fun m=>Wtk j m ρ1 Q) (h0:ρ[j]?=some (.ow d0)):We (eFm bu j [a]) ρ Q:=by
 refine We.Fm (Was.cons ?_) h0
 obtain ⟨v,ρ1,e1,m,rfl,x,ρ3,q,e2,e3,m0,m1⟩:=h
 exact ⟨_,_,e1,Was.nil (WFm.any (BB x m m0 m1) q e2 rfl e3)⟩
theorem We.drw {j:Nat} {a:FE} {ρ:Env} {x m:Int} {Q:Val→Env→Prop} (ha:a ρ=some (.val (.int m),ρ)) (h0:0<m) (h1:m<dX) (hj:ρ[j]?=some (.ow (aJ x))) (k:∀ t x':Int,0≤t→t<m→∀ ρ3,ρ.set j (.ow (aJ x'))=ρ3→Q (.val (.int t)) ρ3):We (eFm bu j [a]) ρ Q:=
 We.take ⟨_,_,ha,m,rfl,uL (k _ _ (cM x m (by omega)).1 (cM x m (by omega)).2 _ rfl) hj rfl h0 h1⟩ hj
theorem Good.snoc {n:Int}:∀ {r:List Tie} {lo hi:Int} {t:Tie},Good n lo r→(∀ u∈r,u.m<hi)→lo≤hi→hi=t.m→0≤t.a→t.a≤t.b→t.b<n→Good n lo (r++[t])
 | [],_,_,_,_,_,h,e,h1,h2,h3=>⟨by omega,h1,h2,h3,trivial⟩
 | u::r,lo,hi,t,h,hu,hl,e,h1,h2,h3=>by
  obtain ⟨k1,k2,k3,k4,k5⟩:=h
  exact ⟨k1,k2,k3,k4,Good.snoc k5 (fun v hv=>hu v (List.mem_cons_of_mem _ hv)) (by have:=hu u List.mem_cons_self;omega) e h1 h2 h3⟩
theorem BC (x:Int):∃ (n x':Int),pY [aJ x]=some (.val (.int n),aJ x')∧1≤n∧n≤10:=by
 suffices h:WrM (pY [aJ x]) fun v d=>∃ n x':Int,v=.val (.int n)∧d=aJ x'∧1≤n∧n≤10 by
  obtain ⟨v,d,h1,n,x',rfl,rfl,h2⟩:=h
  exact ⟨n,x',h1,h2⟩
 unfold pY
 refine WrM.fn ?_ rfl rfl
 dsimp only [List.map,List.replicate,List.cons_append,List.nil_append]
 refine Ws.R (We.e2 ?_)
 ((with_reducible refine Dm.We.L ?_);(with_reducible refine Dm.Was.cons ?_);(with_reducible refine Dm.We.c ?_);(with_reducible refine Dm.Was.cons ?_);(with_reducible refine Dm.We.c ?_);(with_reducible refine Dm.Was.cons ?_);(with_reducible refine Dm.We.c ?_);(with_reducible refine Dm.Was.cons ?_);(with_reducible refine Dm.We.c ?_);(with_reducible refine Dm.Was.cons ?_);(with_reducible refine Dm.We.c ?_);(with_reducible refine Dm.Was.cons ?_);(with_reducible refine Dm.We.c ?_);(with_reducible refine Dm.Was.cons ?_);(with_reducible refine Dm.We.c ?_);(with_reducible refine Dm.Was.cons ?_);(with_reducible refine Dm.We.c ?_);(with_reducible refine Dm.Was.nil ?_);(refine Dm.WT.mk ?_ rfl (by first | (dsimp only [List.set];first | done | rfl) | rfl) (by exact Nat.le_of_ble_eq_true rfl)))
 refine We.drw (m:=8) rfl (by decide) (by decide) rfl fun t x' h0 h1 ρ3 e=>?_
 subst e
 have:t=0∨t=1∨t=2∨t=3∨t=4∨t=5∨t=6∨t=7:=by omega
 rcases this with rfl | rfl | rfl | rfl | rfl | rfl | rfl | rfl <;>
 ·refine Wg2.ix ?_ rfl rfl rfl
  exact ⟨_,rfl,_,x',rfl,rfl,by decide,by decide⟩
theorem ix4 (a b c d:Int) (x:Int) (h0:0≤x) (h:x<4):gIx (.lst [.int a,.int b,.int c,.int d]) (.int x)=some (.val (.int (if x=0 then a else if x=1 then b else if x=2 then c else d))):=by
 have:x=0∨x=1∨x=2∨x=3:=by omega
 rcases this with rfl | rfl | rfl | rfl<;>rfl
noncomputable abbrev Z28:Int:=10000000000000000000000000000
noncomputable abbrev Z30:Int:=1000000000000000000000000000000
noncomputable def RE (pool:Int) (n most many kind step times way E1:Int) (r:List Tie) (c10 c11 c12:Cell):Env:=
 [.ow (aJ pool),.sh (.int n),.sh (.int most),.sh (.int many),.sh (.int kind),.sh (.int step),.sh (.int times),.sh (.int way),.sh (.int E1),.ow (aC r),c10,c11,c12]
theorem BE (a b:Int):(if b<a then b else a)≤(if b>a then b else a):=by split<;>split<;>omega
theorem v8 (x n most:Int) (n1:1≤n) (n10:n≤10) (m0:0≤most) (m60:most≤60) :
  ∃ (r:List Tie) (x':Int),mL [aJ x,.int n,.int most]=some (.new (aC r),aJ x')∧Good n 0 r∧(r.length:Int)≤most∧∀ t∈r,t.m≤Z30:=by
 suffices hh:WrM (mL [aJ x,.int n,.int most]) fun v d=>∃ (r:List Tie) (x':Int),v=.new (aC r)∧d=aJ x'∧Good n 0 r∧(r.length:Int)≤most∧∀ t∈r,t.m≤Z30 by
  obtain ⟨v,d,h1,h,x',rfl,rfl,h2⟩:=hh
  exact ⟨h,x',h1,h2⟩
 suffices hK:∀ K:RV→Dat→Prop,(∀ v d,(∃ (r:List Tie) (x':Int),v=.new (aC r)∧d=aJ x'∧Good n 0 r∧(r.length:Int)≤most∧∀ t∈r,t.m≤Z30)→K v d)→WrM (mL [aJ x,.int n,.int most]) K from hK _ fun _ _ h=>h
 intro K hK
 unfold mL
 refine WrM.fn ?_ rfl rfl
 dsimp only [List.map,List.replicate,List.cons_append,List.nil_append]
 refine Ws.seq (Ws.A ?_ (by decide))
 refine We.drw (m:=most+1) rfl (by omega) (by unfold dX;omega) rfl fun many x1 h1 h2 ρ3 e=>?_
 subst e
 refine WA.val ?_ (by first | (dsimp only [List.set];first | done | rfl) | rfl)
 refine Ws.seq (Ws.A ?_ (by decide))
 refine We.drw (m:=4) rfl (by decide) (by decide) rfl fun kind x2 k1 k2 ρ3 e=>?_
 subst e
 refine WA.val ?_ (by first | (dsimp only [List.set];first | done | rfl) | rfl)
 refine Ws.cut (fun ρ=>∃ step:Int,(1≤step∧step≤1000000∧(kind=3→step≤1000))∧ρ=[.ow (aJ x2),.sh (.int n),.sh (.int most),.sh (.int many),.sh (.int kind),.sh (.int step),.un,.un,.un,.un,.un,.un,.un]) ?_ ?_
 ·refine Ws.k fun K0 hK0=>?_
  refine Ws.A (We.e2 (We.L (Was.cons (We.c (Was.cons (We.c (Was.cons (We.e2 (We.c (We.c (Wg2.pow (z:=1000000) ?_ rfl rfl (by decide) (by decide)))))))))))) (by decide)
  refine Was.cons (We.c (Was.nil (WT.mk ?_ rfl rfl (by exact Nat.le_of_ble_eq_true rfl))))
  refine We.v rfl (Wg2.ix ?_ rfl rfl (ix4 1 3 1000000 1000 kind k1 k2))
  refine WA.val ?_ (by first | (dsimp only [List.set];first | done | rfl) | rfl)
  refine hK0 _ ⟨_,?_,rfl⟩
  have:kind=0∨kind=1∨kind=2∨kind=3:=by omega
  rcases this with q | q | q | q<;>rw [q]<;>decide
 rintro ρ ⟨step,hs,rfl⟩
 refine Ws.cut (fun ρ=>∃ times:Int,(0≤times∧step*times≤Z28)∧ρ=[.ow (aJ x2),.sh (.int n),.sh (.int most),.sh (.int many),.sh (.int kind),.sh (.int step),.sh (.int times),.un,.un,.un,.un,.un,.un]) ?_ ?_
 ·refine Ws.k fun K1 hK1=>?_
  refine Ws.A (We.e2 (We.L (Was.cons (We.c (Was.cons (We.e2 (We.c (We.c (Wg2.pow (z:=10000000000000000000000000) ?_ rfl rfl (by decide) (by decide)))))))))) (by decide)
  refine Was.nil (WT.mk ?_ rfl rfl (by exact Nat.le_of_ble_eq_true rfl))
  refine We.B (Was.cons (We.e2 (We.v rfl (We.c (Wg2.eq ?_ rfl rfl)))))
  refine Was.nil (WB.int ?_ rfl)
  by_cases q:kind=3
  ·rw [decide_eq_true q]
   refine Wg2.ix (v:=.int 10000000000000000000000000) ?_ rfl rfl rfl
   exact WA.val (hK1 _ ⟨10000000000000000000000000,⟨by decide,by have:=hs.2.2 q;unfold Z28;omega⟩,rfl⟩) (by first | (dsimp only [List.set];first | done | rfl) | rfl)
  ·rw [decide_eq_false q]
   refine Wg2.ix (v:=.int 1) ?_ rfl rfl rfl
   exact WA.val (hK1 _ ⟨1,⟨by decide,by unfold Z28;omega⟩,rfl⟩) (by first | (dsimp only [List.set];first | done | rfl) | rfl)
 rintro ρ ⟨times,⟨ht,hst⟩,rfl⟩
 have tb:∀ t:Int,0≤t→t<step→t*times≤Z28:=fun t _ t2=>Int.le_trans (Int.mul_le_mul_of_nonneg_right (Int.le_of_lt t2) ht) hst
 refine Ws.seq (Ws.A ?_ (by decide))
 refine We.drw (m:=4) rfl (by decide) (by decide) rfl fun way x3 w1 w2 ρ3 e=>?_
 subst e
 refine WA.val ?_ (by first | (dsimp only [List.set];first | done | rfl) | rfl)
 refine Ws.cut (fun ρ=>∃ x4 mo:Int,(0≤mo∧mo≤Z28)∧ρ=[.ow (aJ x4),.sh (.int n),.sh (.int most),.sh (.int many),.sh (.int kind),.sh (.int step),.sh (.int times),.sh (.int way),.sh (.int mo),.un,.un,.un,.un]) ?_ ?_
 ·refine Ws.k fun K2 hK2=>?_
  refine Ws.A (We.e2 ?_) (by decide)
  refine We.drw (m:=step) rfl (by omega) (by unfold dX;omega) rfl fun t x4 t1 t2 ρ3 e=>?_
  subst e
  refine We.v rfl (Wg2.mul ?_ rfl rfl (.inl (by unfold B64;omega)))
  exact WA.val (hK2 _ ⟨_,_,⟨Int.mul_nonneg t1 ht,tb t t1 t2⟩,rfl⟩) (by first | (dsimp only [List.set];first | done | rfl) | rfl)
 rintro ρ ⟨x4,mo,hmo,rfl⟩
 refine Ws.seq (Ws.A (We.L (Was.nil (WT.mk ?_ rfl rfl (by decide)))) (by decide))
 refine WA.new ?_ (by first | (dsimp only [List.set];first | done | rfl) | rfl)
 refine Ws.seq (Ws.For (Wi.R1 (We.v rfl (cy.mk ⟨?_,by unfold BIG;omega⟩))))
 refine Ws.inv (fun i:Nat=>Dat.int (0+(i:Nat))) _ _ (List.range many.toNat) _ _ _ _ _ (fun p q ρ=>∃ (x mo:Int) (r:List Tie) (c10 c11 c12:Cell),ρ=RE x n most many kind step times way mo r c10 c11 c12∧Good n 0 r∧r.length=p.length∧(∀ u∈r,u.m<mo)∧0≤mo∧mo≤((p.length:Int)+1)*(Z28+1))
  ⟨_,_,[],_,_,_,rfl,trivial,rfl,(fun u hu=>by cases hu),hmo.1,by have:=hmo.2;simp;omega⟩ ?_ ?_
 ·rintro p i q ρ e ⟨x,mo,r,c10,c11,c12,rfl,hg,hl,hu,hm,hM⟩
  have lp:p.length<100:=by
   have:(List.range many.toNat).length=p.length+(q.length+1):=by rw [e];simp
   rw [List.length_range] at this;omega
  unfold RE
  refine Dm.bY rfl (by first | (dsimp only [List.set];first | done | rfl) | rfl) ?_
  unfold yP
  refine Ws.k fun KL hKL=>?_
  refine Ws.seq (Ws.A ?_ (by decide))
  refine We.drw (m:=n) rfl (by omega) (by unfold dX;omega) rfl fun one y1 o1 o2 ρ3 e=>?_
  subst e
  refine WA.val ?_ (by first | (dsimp only [List.set];first | done | rfl) | rfl)
  refine Ws.seq (Ws.A ?_ (by decide))
  refine We.drw (m:=n) rfl (by omega) (by unfold dX;omega) rfl fun oth y2 u1 u2 ρ3 e=>?_
  subst e
  refine WA.val ?_ (by first | (dsimp only [List.set];first | done | rfl) | rfl)
  refine Ws.cut (fun ρ=>∃ o:Int,(0≤o∧o<n)∧ρ=RE y2 n most many kind step times way mo r (.sh (.int (0+(i:Nat)))) (.sh (.int one)) (.sh (.int o))) ?_ ?_
  ·refine Ws.k fun K3 hK3=>?_
   refine Ws.If (Wt.V (We.e2 (We.v rfl (We.c (Wg2.eq (Wb.mk ?_) rfl rfl)))))
   refine Wif.dec (fun _=>?_) fun _=>?_
   ·refine Ws.A (We.e2 (We.e2 (We.v rfl (We.c (Wg2.add (We.v rfl (Wg2.mod ?_ rfl rfl (by omega))) rfl rfl))))) (by decide)
    exact WA.val (hK3 _ ⟨_,cM _ n n1,rfl⟩) (by first | (dsimp only [List.set];first | done | rfl) | rfl)
   ·exact Ws.nx (hK3 _ ⟨oth,⟨u1,u2⟩,rfl⟩)
  rintro ρ ⟨o,⟨q1,q2⟩,rfl⟩
  refine Ws.cut (fun ρ=>∃ o:Int,(0≤o∧o<n)∧ρ=RE y2 n most many kind step times way mo r (.sh (.int (0+(i:Nat)))) (.sh (.int one)) (.sh (.int o))) ?_ ?_
  ·refine Ws.k fun K4 hK4=>?_
   unfold RE
   refine Ws.If (Wt.V (We.e2 (We.v rfl (We.c (Wg2.eq (Wb.mk ?_) rfl rfl)))))
   refine Wif.dec (fun _=>?_) fun _=>?_
   ·refine Ws.A (We.e2 (We.e2 (We.e2 (We.e2 (We.v rfl (We.e2 (We.v rfl (We.c (Wg2.mod ?_ rfl rfl (by decide)))))))))) (by decide)
    refine Wg2.add ?_ rfl rfl
    refine We.c (Wg2.add ?_ rfl rfl)
    refine We.B (Was.cons (We.v rfl (Was.cons (We.c (Was.nil (WB.min2 ?_ rfl))))))
    refine Wg2.mod ?_ rfl rfl (by split<;>omega)
    refine We.v rfl (Wg2.mod ?_ rfl rfl (by omega))
    exact WA.val (hK4 _ ⟨_,cM _ n n1,rfl⟩) (by first | (dsimp only [List.set];first | done | rfl) | rfl)
   ·exact Ws.nx (hK4 _ ⟨o,⟨q1,q2⟩,rfl⟩)
  rintro ρ ⟨o,⟨q1,q2⟩,rfl⟩
  unfold RE
  refine Ws.seq (Ws.App (We.T (Was.cons (We.v rfl (Was.cons (We.B (Was.cons (We.v rfl (Was.cons (We.v rfl (Was.nil (WB.min2 ?_ rfl))))))))))) rfl)
  refine Was.cons (We.B (Was.cons (We.v rfl (Was.cons (We.v rfl (Was.nil (WB.max2 ?_ rfl)))))))
  refine Was.nil (WT.mk ?_ rfl rfl (by exact Nat.le_of_ble_eq_true rfl))
  refine Wk.val (jV ?_ rfl (by first | (dsimp only [List.set];first | done | rfl) | rfl) (by rw [List.length_map];unfold SZ;omega))
  refine Ws.A (We.e2 (We.e2 (We.v rfl (We.c (Wg2.add ?_ rfl rfl))))) (by decide)
  refine We.e2 ?_
  refine We.drw (m:=step) rfl (by omega) (by unfold dX;omega) rfl fun t x4 t1 t2 ρ3 e=>?_
  subst e
  refine We.v rfl (Wg2.mul ?_ rfl rfl (.inl (by unfold B64;omega)))
  refine Wg2.add ?_ rfl rfl
  refine WA.val ?_ (by first | (dsimp only [List.set];first | done | rfl) | rfl)
  have tn:=Int.mul_nonneg t1 ht
  refine hKL _ ⟨x4,mo+1+t*times,r++[⟨mo,(if o<one then o else one),(if o>one then o else one)⟩],.sh (.int (0+(i:Nat))),.sh (.int one),.sh (.int o),?_,?_,by simp [hl],?_,by omega,?_⟩
  ·unfold aC
   rw [List.map_append]
   rfl
  ·refine Good.snoc (hi:=mo) hg hu hm rfl ?_ (BE one o) ?_
   ·show 0≤(if o<one then o else one);split<;>omega
   ·show (if o>one then o else one)<n;split<;>omega
  ·intro u hu'
   rcases List.mem_append.mp hu' with h | h
   ·have:=hu u h;omega
   ·rw [List.mem_singleton.mp h];show mo<_;omega
  ·have:=tb t t1 t2
   rw [List.length_append,List.length_singleton]
   have e:(((p.length+1:Nat):Int)+1)*(Z28+1)=((p.length:Int)+1)*(Z28+1)+(Z28+1):=by
    rw [Int.natCast_add,Int.add_mul (((p.length:Int))+((1:Nat):Int)) 1,Int.one_mul]
    rfl
   rw [e]
   omega
 ·rintro ρ ⟨x,mo,r,c10,c11,c12,rfl,hg,hl,hu,hm,hM⟩
  unfold RE
  refine Ws.R (We.w rfl (WR.slot ?_ rfl))
  rw [List.length_range] at hM hl
  refine ⟨_,rfl,hK _ _ ⟨r,x,rfl,rfl,hg,?_,fun t ht=>?_⟩⟩
  ·rw [hl]
   omega
  ·have h1:=hu t ht
   have h2:((many.toNat:Int)+1)*(Z28+1)≤61*(Z28+1):=Int.mul_le_mul_of_nonneg_right (by omega) (by decide)
   have h3:(61:Int)*(Z28+1)≤Z30:=by decide
   omega
noncomputable def bx (a b:Int):Nat→List (Int→Int)→Int
 | _,[]=>0
 | i,f::r=>if f a=f b then bx a b (i+1) r else (i:Int)+1
theorem b4 (a b:Int):∀ (gs:List (Int→Int)) (i:Nat),(bx a b i gs=0∧∀ f∈gs,f a=f b)∨(∃ j f,gs[j]?=some f∧bx a b i gs=((i+j:Nat):Int)+1∧f a≠f b∧∀ (j':Nat) f',j'<j→gs[j']?=some f'→f' a=f' b)
 | [],i=>.inl ⟨rfl,fun f h=>by cases h⟩
 | f::gs,i=>by
  by_cases h:f a=f b
  ·have e:bx a b i (f::gs)=bx a b (i+1) gs:=by simp [bx,h]
   rw [e]
   rcases b4 a b gs (i+1) with ⟨h1,h2⟩ | ⟨j,g,h1,h2,h3,h4⟩
   ·refine .inl ⟨h1,fun g hg=>?_⟩
    rcases List.mem_cons.mp hg with rfl | hg
    ·exact h
    ·exact h2 g hg
   ·refine .inr ⟨j+1,g,h1,by rw [h2];omega,h3,fun j' f' hj hf=>?_⟩
    cases j' with
    | zero=>cases hf;exact h
    | succ j'=>exact h4 j' f' (by omega) hf
  ·exact .inr ⟨0,f,rfl,by simp [bx,h],h,fun j' f' hj=>by omega⟩
noncomputable def i6 (gs:List (Int→Int)) (t:Tie):List (Int→Int):=
 if 0<bx t.a t.b 0 gs then gs.set (bx t.a t.b 0 gs-1).toNat (mgf (gs.getD (bx t.a t.b 0 gs-1).toNat fun x=>x) t.a t.b) else gs
theorem jY.num {k:Nat} {gs:List (Int→Int)} {r:List Tie} {ms:List Int} (h:jY k gs r ms) (t:Tie):fu k r ms t (bx t.a t.b 0 gs):=by
 obtain ⟨hl,ht⟩:=h
 rcases b4 t.a t.b gs 0 with ⟨h1,h2⟩ | ⟨j,f,h1,h2,h3,h4⟩
 ·refine .inl ⟨h1,fun j j1 j2=>?_⟩
  have hj:(j-1).toNat<gs.length:=by omega
  have:=(ht (j-1).toNat _ (List.getElem?_eq_getElem hj) t.a t.b).mp (h2 _ (List.getElem_mem hj))
  rw [show (((j-1).toNat:Nat):Int)+1=j by omega] at this
  exact this
 ·have hj:j<gs.length:=(List.getElem?_eq_some_iff.mp h1).1
  rw [h2]
  refine .inr ⟨by omega,by omega,fun c=>h3 ((ht j f h1 t.a t.b).mpr (by rw [show ((0+j:Nat):Int)+1=(j:Int)+1 by omega] at c;exact c)),fun i i1 i2=>?_⟩
  have hi:(i-1).toNat<gs.length:=by omega
  have:=(ht (i-1).toNat _ (List.getElem?_eq_getElem hi) t.a t.b).mp (h4 (i-1).toNat _ (by omega) (List.getElem?_eq_getElem hi))
  rw [show (((i-1).toNat:Nat):Int)+1=i by omega] at this
  exact this
theorem jY.step {k:Nat} {gs:List (Int→Int)} {r:List Tie} {ms:List Int} (h:jY k gs r ms) (t:Tie):jY k (i6 gs t) (t::r) (bx t.a t.b 0 gs::ms):=by
 obtain ⟨hl,ht⟩:=h
 unfold i6
 rcases b4 t.a t.b gs 0 with ⟨h1,h2⟩ | ⟨j,f,h1,h2,h3,h4⟩
 ·rw [h1]
  refine ⟨by simpa using hl,fun i g hg=>?_⟩
  rw [aY,if_neg (by omega)]
  exact ht i g (by simpa using hg)
 ·have hj:j<gs.length:=(List.getElem?_eq_some_iff.mp h1).1
  have e:bx t.a t.b 0 gs=(j:Int)+1:=by rw [h2];omega
  have e2:((j:Int)+1-1).toNat=j:=by omega
  rw [e,if_pos (by omega),e2]
  have eg:(gs.getD j fun x=>x)=f:=by rw [List.getD_eq_getElem?_getD,h1];rfl
  rw [eg]
  refine ⟨by rw [List.length_set];exact hl,fun i g hg=>?_⟩
  rw [aY]
  by_cases q:j=i
  ·subst q
   rw [List.getElem?_set_self hj] at hg
   cases hg
   rw [if_pos rfl]
   exact tells_mgf (ht j f h1) t t.a t.b (.inl ⟨rfl,rfl⟩)
  ·rw [List.getElem?_set_ne q] at hg
   rw [if_neg (by omega)]
   exact ht i g hg
noncomputable def keep (r:List Tie) (ms:List Int):List Tie:=((r.zip ms).filter fun p=>decide (0<p.2)).map (·.1)
theorem aQ (t:Tie) (m:Int) (r:List Tie) (ms:List Int):keep (t::r) (m::ms)=if 0<m then t::keep r ms else keep r ms:=by
 unfold keep
 rw [List.zip_cons_cons,List.filter_cons]
 by_cases h:0<m<;>simp [h]
noncomputable def zE (x:Tie×Int):Dat:=.tup [aK x.1,.int x.2]
theorem uM:∀ (r:List Tie) (ms:List Int),ff (r.map aK) (ms.map Dat.int)=(r.zip ms).map zE
 | [],_=>by simp [ff]
 | _::_,[]=>by simp [ff]
 | t::r,m::ms=>by rw [List.map_cons,List.map_cons,ff,uM r ms,List.zip_cons_cons,List.map_cons];rfl
theorem We.J5 (r:List Tie) (ms:List Int) (p:Tie×Int→Bool) {it:FI} {k:Nat} {t:FT} {ρ ρ1:Env} {Q:Val→Env→Prop} (q:Q (.new (aC (((r.zip ms).filter p).map (·.1)))) ρ1) (hit:it ρ=some (ff (r.map aK) (ms.map Dat.int),ρ1)) (hk:ρ1.length=k) (hk0:k≠0) (hl:r.length≤SZ)
  (ht:∀ x:Tie×Int,Wt t (ρ1++[.sh (aK x.1),.sh (.int x.2)]) fun c ρ'=>c=p x∧ρ'=ρ1++[.sh (aK x.1),.sh (.int x.2)]):We (bG it 2 (bT [k,k+1]) t (eV k)) ρ Q:=by
 have b:∀ (x:Tie×Int) (c1 c2:Cell),bT [k,k+1] (zE x) (ρ1++[c1,c2])=some (ρ1++[.sh (aK x.1),.sh (.int x.2)]):=fun x c1 c2=>by
  show sets [k,k+1] [aK x.1,.int x.2] _=_
  rw [sets,if_neg hk0,sets,if_neg (by omega),sets]
  rw [List.set_append_right _ _ (by omega),List.set_append_right _ _ (by omega)]
  subst hk
  rw [Nat.sub_self,show ρ1.length+1-ρ1.length=1 by omega]
  rfl
 refine We.HX zE (r.zip ms) p (fun x=>x.1) aK (fun x=>(ρ1++[Cell.sh (aK x.1),Cell.sh (.int x.2)]:Env)) (own:=2) (bd:=bT [k,k+1]) (Q:=Q) q (by rw [hit,uM]) (fun x=>b x .un .un) (fun x y=>b x (.sh (aK y.1)) (.sh (.int y.2))) (fun x=>List.take_left) (by rw [List.length_zip];omega) (fun x _=>ht x) (fun x _ _=>?_)
 refine We.v (d:=aK x.1) ?_ (Wk.val ⟨rfl,rfl⟩)
 rw [List.getElem?_append_right (by omega),hk,Nat.sub_self]
 rfl
theorem E2 (r:List Tie):eqD (aC r) (aC r)=true:=by
 unfold aC
 rw [eqD]
 induction r with
 | nil=>rfl
 | cons b bs ih=>
  rw [List.map_cons,lI,ih]
  simp [aK,eqD,lI]
theorem E3 (r:List Tie):okD 8 (aC r)=true:=HW aK r fun t=>rfl
theorem Wg2.E4 {d:Dat} {o p:Option Dat} {Q:RV→Prop} (hk:okD 8 d=true) (he:eqD d d=true) (k:Q (.val (.bl false))) (ho:o=some d) (hp:p=some d):Wg2 gNe o p Q:=
 ⟨_,_,_,ho,hp,by unfold gNe;rw [hk,he];rfl,k⟩
noncomputable def aO (n k:Nat) (r:List Tie):Dat:=.tup [.int (n:Nat),.int (k:Nat),aC r]
theorem v9 {ρ ρ1:Env} {it:FI} {k:Nat} (r:List Tie) (ms:List Int) {Q:Val→Env→Prop} (q:Q (.new (aC (keep r ms))) ρ1) (hit:it ρ=some (ff (r.map aK) (ms.map Dat.int),ρ1)) (hk:ρ1.length=k) (hk0:k≠0) (hl:r.length≤SZ):We (bG it 2 (bT [k,k+1]) (tV (e2 gGt (eV (k+1)) (eC (.int 0)))) (eV k)) ρ Q:=by
 refine We.J5 r ms (fun p=>decide (0<p.2)) q hit hk hk0 hl fun x=>?_
 refine Wt.V (We.e2 (We.v (d:=.int x.2) ?_ (We.c (Wg2.gt (Wb.mk ⟨rfl,rfl⟩) rfl rfl))))
 rw [List.getElem?_append_right (by omega),hk]
 simp
theorem E5 (n k:Nat) (hn:n≤10) (hk1:1≤k) (hk6:k≤6) (r:List Tie) (ms:List Int) (hr:Ends n r) (hl:r.length≤1000) (ha:aP k r ms):iZ [.int (n:Nat),aC r,.int (k:Nat)]=some (.val (aO n k (keep r ms))):=by
 obtain ⟨ms',el,al⟩:=jZ n k hn hk1 hk6 r hr hl
 rw [al.uniq ha] at el
 apply Wr.eq
 unfold iZ
 (refine Dm.Wr.fn ?_ rfl rfl;dsimp only [List.map,List.replicate,List.cons_append,List.nil_append])
 refine Ws.seq (Ws.A (We.F (Was.cons (We.v rfl (Was.cons (We.v rfl (Was.cons (We.v rfl (Was.nil (WF.box el ?_ rfl rfl rfl rfl)))))))) ) (by decide))
 refine WA.new ?_ (by first | (dsimp only [List.set];first | done | rfl) | rfl)
 refine Ws.R (We.T (Was.cons (We.v rfl (Was.cons (We.v rfl (Was.cons (v9 (ρ1:=[.sh (.int (n:Nat)),.sh (aC r),.sh (.int (k:Nat)),.sh (.lst (ms.map Dat.int))]) r ms (k:=4) ?_ ?_ rfl (by decide) (Nat.le_trans hl (by decide)))))))))
 ·exact Was.nil (WT.mk rfl rfl rfl (Nat.le_of_ble_eq_true rfl))
 ·rfl
theorem p_:∀ (r:List Tie) (ms:List Int) (j:Int),1≤j→lay (keep r ms) (ms.filter fun m=>decide (0<m)) j=lay r ms j∨r.length≠ms.length
 | [],[],_,_=>.inl rfl
 | [],_::_,_,_=>.inr (by simp)
 | _::_,[],_,_=>.inr (by simp)
 | t::r,m::ms,j,hj=>by
  rcases p_ r ms j hj with ih | ih
  ·left
   rw [aQ,aY]
   by_cases h:0<m
   ·rw [if_pos h,List.filter_cons_of_pos (by simpa using h),aY,ih]
   ·rw [if_neg h,List.filter_cons_of_neg (by simpa using h),ih,if_neg (by omega)]
  ·right
   simpa using ih
theorem qc {k:Int}:∀ {r:List Tie} {ms:List Int},aP k r ms→aP k (keep r ms) (ms.filter fun m=>decide (0<m))
 | [],[],_=>trivial
 | t::r,m::ms,h=>by
  have ih:=qc h.1
  rw [aQ]
  by_cases q:0<m
  ·rw [if_pos q,List.filter_cons_of_pos (by simpa using q)]
   refine ⟨ih,?_⟩
   have e:∀ j,1≤j→lay (keep r ms) (ms.filter fun m=>decide (0<m)) j=lay r ms j:=fun j hj=>by
    rcases p_ r ms j hj with z | z
    ·exact z
    ·exact absurd h.1.len.symm z
   rcases h.2 with ⟨h0,_⟩ | ⟨h1,h2,h3,h4⟩
   ·omega
   ·exact .inr ⟨h1,h2,by rw [e m h1];exact h3,fun j j1 j2=>by rw [e j j1];exact h4 j j1 j2⟩
  ·rw [if_neg q,List.filter_cons_of_neg (by simpa using q)]
   exact ih
 | [],_::_,h=>h.elim
 | _::_,[],h=>h.elim
theorem cG:∀ (r:List Tie) (ms:List Int),(keep r ms).Sublist r
 | [],ms=>by unfold keep;simp
 | _::_,[]=>by unfold keep;simp
 | t::r,m::ms=>by
  rw [aQ]
  split
  ·exact (cG r ms).cons_cons t
  ·exact (cG r ms).cons t
theorem BF {t u:Tie} (h1:t.m=u.m) (h2:t.a=u.a) (h3:t.b=u.b):t=u:=by
 cases t;cases u;simp only at h1 h2 h3;rw [h1,h2,h3]
instance:DecidableEq Tie:=fun t u=>if h:t.m=u.m∧t.a=u.a∧t.b=u.b then .isTrue (BF h.1 h.2.1 h.2.2) else .isFalse fun e=>h (by rw [e];exact ⟨rfl,rfl,rfl⟩)
theorem gY:∀ {r L:List Tie},L.Sublist r→r.Nodup→L=r.filter fun t=>decide (t∈L)
 | _,_,.slnil,_=>rfl
 | _,_,.cons (l₁:=L) (l₂:=r) a h,nd=>by
  obtain ⟨n1,n2⟩:=List.nodup_cons.mp nd
  have ha:a∉L:=fun z=>n1 (h.subset z)
  rw [List.filter_cons_of_neg (by simpa using ha)]
  exact gY h n2
 | _,_,.cons_cons (l₁:=L) (l₂:=r) a h,nd=>by
  obtain ⟨n1,n2⟩:=List.nodup_cons.mp nd
  rw [List.filter_cons_of_pos (by simp)]
  congr 1
  have:=gY h n2
  refine Eq.trans this (List.filter_congr fun t ht=>?_)
  have:t≠a:=fun z=>n1 (z▸ht)
  simp [this]
theorem gZ (n i:Int) (h0:0≤i) (h1:i<n):sd [.int n,.int i]=some (.val (.bl true)):=by
 apply Wr.eq
 unfold sd
 (refine Dm.Wr.fn ?_ rfl rfl;dsimp only [List.map,List.replicate,List.cons_append,List.nil_append])
 refine Ws.R (We.F (Was.cons (We.v rfl (Was.cons (We.c (Was.cons (We.e2 (We.v rfl (We.c (Wg2.sub ?_ rfl rfl))))))))))
 exact Was.nil (WF.val (cB i 0 (n-1) h0 (by omega)) rfl rfl rfl)
theorem v_ (m:Int) (h0:0≤m) (h1:m≤Z30):Bt [.int m]=some (.val (.bl true)):=by
 apply Wr.eq
 unfold Bt
 (refine Dm.Wr.fn ?_ rfl rfl;dsimp only [List.map,List.replicate,List.cons_append,List.nil_append])
 refine Ws.R (We.F (Was.cons (We.v rfl (Was.cons (We.c (Was.cons (We.e2 (We.c (We.c (Wg2.pow (z:=Z30) ?_ rfl rfl (by decide) (by decide)))))))))))
 exact Was.nil (WF.val (cB m 0 Z30 h0 h1) rfl rfl rfl)
theorem wc (n:Int) (t:Tie) (m0:0≤t.m) (m1:t.m≤Z30) (a0:0≤t.a) (a1:t.a<n) (b0:0≤t.b) (b1:t.b<n):Bu [.int n,aK t]=some (.val (.bl true)):=by
 apply Wr.eq
 unfold Bu aK
 (refine Dm.Wr.fn ?_ rfl rfl;dsimp only [List.map,List.replicate,List.cons_append,List.nil_append])
 ((with_reducible refine Dm.Ws.seq ?_);(with_reducible refine Dm.Ws.If ?_);(with_reducible refine Dm.Wt.Or ?_);(with_reducible refine Dm.Wt.Not ?_);(with_reducible refine Dm.Wt.V ?_);(with_reducible refine Dm.We.e1 ?_);((with_reducible apply Dm.We.v);(focus rfl));(refine Dm.Wg1.mk ?_ rfl rfl);(refine Dm.Wb.mk ?_))
 refine Wif.no rfl ?_
 ((with_reducible refine Dm.Wt.V ?_);(with_reducible refine Dm.We.e2 ?_);(with_reducible refine Dm.We.B ?_);(with_reducible refine Dm.Was.cons ?_);((with_reducible apply Dm.We.v);(focus rfl));(with_reducible refine Dm.Was.nil ?_);(refine Dm.WB.EV ?_ rfl);(with_reducible refine Dm.We.c ?_);(refine Dm.Wg2.ne ?_ rfl rfl);(refine Dm.Wb.mk ?_))
 refine Wif.no rfl ?_
 ((with_reducible refine Dm.Ws.nx ?_);(with_reducible refine Dm.Ws.R ?_);(with_reducible refine Dm.We.And ?_);(with_reducible refine Dm.We.F ?_);(with_reducible refine Dm.Was.cons ?_);(with_reducible refine Dm.We.e2 ?_);((with_reducible apply Dm.We.v);(focus rfl));(with_reducible refine Dm.We.c ?_);(refine Dm.Wg2.ix ?_ rfl rfl rfl);(with_reducible refine Dm.Was.nil ?_))
 refine WF.val (v_ t.m m0 m1) ?_ rfl rfl
 ((refine Dm.Wb.mk ?_);(with_reducible refine Dm.Wif.t ?_);(with_reducible refine Dm.We.And ?_);(with_reducible refine Dm.We.F ?_);(with_reducible refine Dm.Was.cons ?_);((with_reducible apply Dm.We.v);(focus rfl));(with_reducible refine Dm.Was.cons ?_);(with_reducible refine Dm.We.e2 ?_);((with_reducible apply Dm.We.v);(focus rfl));(with_reducible refine Dm.We.c ?_);(refine Dm.Wg2.ix ?_ rfl rfl rfl);(with_reducible refine Dm.Was.nil ?_))
 refine WF.val (gZ n t.a a0 a1) ?_ rfl rfl
 ((refine Dm.Wb.mk ?_);(with_reducible refine Dm.Wif.t ?_);(with_reducible refine Dm.We.F ?_);(with_reducible refine Dm.Was.cons ?_);((with_reducible apply Dm.We.v);(focus rfl));(with_reducible refine Dm.Was.cons ?_);(with_reducible refine Dm.We.e2 ?_);((with_reducible apply Dm.We.v);(focus rfl));(with_reducible refine Dm.We.c ?_);(refine Dm.Wg2.ix ?_ rfl rfl rfl);(with_reducible refine Dm.Was.nil ?_))
 refine WF.val (gZ n t.b b0 b1) ?_ rfl rfl
 ((refine Dm.WR.val ?_))
 rfl
theorem we (n:Int) (t:Tie) (m0:0≤t.m) (m1:t.m≤Z30) (a0:0≤t.a) (ab:t.a≤t.b) (b1:t.b<n):Bv [.int n,aK t]=some (.val (.bl true)):=by
 apply Wr.eq
 unfold Bv
 (refine Dm.Wr.fn ?_ rfl rfl;dsimp only [List.map,List.replicate,List.cons_append,List.nil_append])
 ((with_reducible refine Dm.Ws.R ?_);(with_reducible refine Dm.We.And ?_);(with_reducible refine Dm.We.F ?_);(with_reducible refine Dm.Was.cons ?_);((with_reducible apply Dm.We.v);(focus rfl));(with_reducible refine Dm.Was.cons ?_);((with_reducible apply Dm.We.v);(focus rfl));(with_reducible refine Dm.Was.nil ?_))
 refine WF.val (wc n t m0 m1 a0 (by omega) (by omega) b1) ?_ rfl rfl
 ((refine Dm.Wb.mk ?_);(with_reducible refine Dm.Wif.t ?_);(with_reducible refine Dm.We.e2 ?_);(with_reducible refine Dm.We.e2 ?_);((with_reducible apply Dm.We.v);(focus rfl));(with_reducible refine Dm.We.c ?_);(refine Dm.Wg2.ix ?_ rfl rfl rfl);(with_reducible refine Dm.We.e2 ?_);((with_reducible apply Dm.We.v);(focus rfl));(with_reducible refine Dm.We.c ?_);(refine Dm.Wg2.ix ?_ rfl rfl rfl);(refine Dm.Wg2.le ?_ rfl rfl);(refine Dm.WR.val ?_))
 exact congrArg (fun b=>RV.val (Dat.bl b)) (decide_eq_true ab)
noncomputable def l3 (t:Tie):List Int:=[t.m,t.a,t.b]
theorem E6 {t u:Tie} (h:l3 t=l3 u):t=u:=by
 cases t;cases u
 unfold l3 at h
 injection h with h1 h2
 injection h2 with h2 h3
 injection h3 with h3
 cases h1;cases h2;cases h3
 rfl
theorem je (r:List Tie):aC r=.lst ((r.map l3).map rP):=by
 unfold aC
 rw [List.map_map]
 rfl
theorem yZ {x y:Int} {s t:List Int} (h:x<y):lx (y::t) (x::s)=false:=by
 rw [lx,if_neg (by omega)]
 exact decide_eq_false (by omega)
theorem wg (l:List (List Int)):(gR lx l).Pairwise fun a b=>lx b a=false:=cu (fun a b c h1 h2=>by
  cases h:lx c a
  ·rfl
  ·rcases nG c b a h with z | z
   ·rw [z] at h2;cases h2
   ·rw [z] at h1;cases h1) (fun a b h=>by
  cases h':lx b a
  ·rfl
  ·have:=cY a b a h h'
   rw [cX] at this;cases this) l
theorem uN {l m:List (List Int)} (p:l.Perm m) (h:l.Pairwise fun a b=>lx b a=false):gR lx m=l:=
 cK (lt:=lx) cZ ((dF _ m).trans p.symm) (wg m) h
theorem iK:∀ (nss:List (List Int)),(∀ ns∈nss,ns≠[])→iR (nss.map rP)=some nss
 | [],_=>rfl
 | ns::nss,h=>by
  rw [List.map_cons]
  unfold rP
  rw [iR,r_]
  dsimp only
  have:ns.isEmpty=false:=by
   cases ns with
   | nil=>exact absurd rfl (h [] List.mem_cons_self)
   | cons _ _=>rfl
  rw [this]
  simp only [Bool.false_eq_true,if_false]
  have ih:=iK nss fun x hx=>h x (List.mem_cons_of_mem _ hx)
  unfold rP at ih
  rw [ih]
  rfl
theorem y9 {α:Type} [DecidableEq α] {l m:List α} (h1:l.Nodup) (h2:m.Nodup) (h:∀ x,x∈l↔x∈m):l.Perm m:=by
 rw [List.perm_iff_count]
 intro a
 rw [h1.count,h2.count]
 by_cases q:a∈l
 ·rw [if_pos q,if_pos ((h a).mp q)]
 ·rw [if_neg q,if_neg fun z=>q ((h a).mpr z)]
theorem iM:∀ (ns acc:List (List Int)),acc.Nodup→(ns.foldl (fun acc x=>if acc.any (· == x) then acc else acc++[x]) acc).Nodup∧∀ y,y∈ns.foldl (fun acc x=>if acc.any (· == x) then acc else acc++[x]) acc↔y∈acc∨y∈ns
 | [],acc,h=>⟨h,fun y=>by simp⟩
 | x::ns,acc,h=>by
  rw [List.foldl_cons]
  by_cases q:x∈acc
  ·rw [if_pos (List.any_eq_true.mpr ⟨x,q,by simp⟩)]
   obtain ⟨a,b⟩:=iM ns acc h
   refine ⟨a,fun y=>(b y).trans ⟨fun z=>z.imp id (List.mem_cons_of_mem _),fun z=>?_⟩⟩
   rcases z with z | z
   ·exact .inl z
   ·rcases List.mem_cons.mp z with rfl | z
    ·exact .inl q
    ·exact .inr z
  ·rw [if_neg fun z=>by
    obtain ⟨y,hy,e⟩:=List.any_eq_true.mp z
    have:y=x:=by simpa using e
    exact q (this▸hy)]
   obtain ⟨a,b⟩:=iM ns (acc++[x]) (List.nodup_append.mpr ⟨h,by simp,fun u hu v hv e=>by rw [List.mem_singleton.mp hv] at e;exact q (e▸hu)⟩)
   refine ⟨a,fun y=>(b y).trans ?_⟩
   simp only [List.mem_append,List.mem_cons,List.not_mem_nil,or_false]
   exact ⟨fun z=>by rcases z with (z | z) | z;exact .inl z;exact .inr (.inl z);exact .inr (.inr z),fun z=>by rcases z with z | z | z;exact .inl (.inl z);exact .inl (.inr z);exact .inr z⟩
theorem wj (ns:List (List Int)):(dH ns).Nodup∧∀ y,y∈dH ns↔y∈ns:=by
 obtain ⟨a,b⟩:=iM ns [] List.nodup_nil
 exact ⟨a,fun y=>(b y).trans (by simp)⟩
noncomputable abbrev dJ (D:List Tie):Prop:=D.Pairwise fun t u=>t.m<u.m
theorem dJ.nodup {D:List Tie} (h:dJ D):(D.map l3).Nodup:=by
 refine List.pairwise_map.mpr (h.imp fun {t u} q z=>?_)
 have:=E6 z
 subst this
 omega
theorem dJ.sorted {D:List Tie} (h:dJ D):(D.map l3).Pairwise fun a b=>lx b a=false:=by
 refine List.pairwise_map.mpr (h.imp fun {t u} q=>?_)
 exact yZ q
theorem y_ {D T:List Tie} (h:dJ D) (e:∀ t,t∈D↔t∈T):(D.map l3).Perm (dH (T.map l3)):=by
 obtain ⟨d1,d2⟩:=wj (T.map l3)
 refine y9 h.nodup d1 fun x=>?_
 rw [d2,List.mem_map,List.mem_map]
 exact ⟨fun ⟨t,a,b⟩=>⟨t,(e t).mp a,b⟩,fun ⟨t,a,b⟩=>⟨t,(e t).mpr a,b⟩⟩
theorem Wg1.za {D T:List Tie} {o:Option Dat} {K:RV→Prop} (h:dJ D) (e:∀ t,t∈D↔t∈T) (hl:D.length≤63) (k:K (.new (aC D))) (ho:o=some (aC T)):Wg1 cA o K:=⟨_,_,ho,by
 rw [je]
 unfold cA
 dsimp only
 rw [iK _ fun ns hn=>by obtain ⟨t,_,rfl⟩:=List.mem_map.mp hn;exact List.cons_ne_nil _ _]
 dsimp only
 have p:=y_ h e
 rw [if_pos (by rw [← p.length_eq,List.length_map];exact hl),uN p h.sorted,← je],k⟩
theorem uO (n:Nat):ups 1 n=(List.range n).map fun i:Nat=>Dat.int (1+(i:Int)):=rfl
theorem zb (D:List Tie) (h:dJ D) (hl:D.length≤75):uA [aC D]=some (.val .non):=by
 apply Wr.eq
 unfold uA
 (refine Dm.Wr.fn ?_ rfl rfl;dsimp only [List.map,List.replicate,List.cons_append,List.nil_append])
 refine Ws.For ?_
 ((with_reducible refine Dm.Wi.R2 ?_);(with_reducible refine Dm.We.c ?_);(refine Dm.cy.mk ?_);(with_reducible refine Dm.We.B ?_);(with_reducible refine Dm.Was.cons ?_);((with_reducible apply Dm.We.v);(focus rfl));(with_reducible refine Dm.Was.nil ?_);(refine Dm.WB.len ?_ rfl);(refine Dm.cy.mk ?_))
 refine ⟨?_,?_⟩
 rotate_left
 ·rw [List.length_map];unfold BIG;omega
 rw [uO,List.length_map]
 refine Ws.inv (fun i:Nat=>Dat.int (1+(i:Int))) _ _ (List.range ((D.length:Int)-1).toNat) _ _ _ _ _ (fun _ _ ρ=>∃ c,ρ=[.sh (aC D),c]) ⟨_,rfl⟩ ?_ ?_
 ·rintro p i q ρ e ⟨c,rfl⟩
  refine Dm.bY rfl (by first | (dsimp only [List.set];first | done | rfl) | rfl) ?_
  have hi:i<((D.length:Int)-1).toNat:=by
   have:i∈List.range ((D.length:Int)-1).toNat:=by rw [e];simp
   exact List.mem_range.mp this
  unfold yN
  ((with_reducible refine Dm.Ws.If ?_);(with_reducible refine Dm.Wt.V ?_);(with_reducible refine Dm.We.e2 ?_);(with_reducible refine Dm.We.e2 ?_);(with_reducible refine Dm.We.e2 ?_);((with_reducible apply Dm.We.v);(focus rfl));(with_reducible refine Dm.We.e2 ?_);((with_reducible apply Dm.We.v);(focus rfl));(with_reducible refine Dm.We.c ?_);(refine Dm.Wg2.sub ?_ rfl rfl))
  refine Wg2.ixL (enc:=aK) (xs:=D) (i:=1+(i:Int)-1) (by omega) (by omega) ?_ rfl rfl
  ((with_reducible refine Dm.We.c ?_);(refine Dm.Wg2.ix ?_ rfl rfl rfl);(with_reducible refine Dm.We.e2 ?_);(with_reducible refine Dm.We.e2 ?_);((with_reducible apply Dm.We.v);(focus rfl));((with_reducible apply Dm.We.v);(focus rfl)))
  refine Wg2.ixL (enc:=aK) (xs:=D) (i:=1+(i:Int)) (by omega) (by omega) ?_ rfl rfl
  ((with_reducible refine Dm.We.c ?_);(refine Dm.Wg2.ix ?_ rfl rfl rfl);(refine Dm.Wg2.eq ?_ rfl rfl);(refine Dm.Wb.mk ?_))
  have lt:=List.pairwise_iff_getElem.mp h (1+(i:Int)-1).toNat (1+(i:Int)).toNat (by omega) (by omega) (by omega)
  refine Wif.no (decide_eq_false (by omega)) ?_
  ((with_reducible refine Dm.Ws.nx ?_))
  exact ⟨_,rfl⟩
 ·rintro ρ ⟨c,rfl⟩
  rfl
theorem nV (n:Int) (h1:1≤n) (h2:n≤10):Bs [.int n]=some (.val (.bl true)):=by
 apply Wr.eq
 unfold Bs
 (refine Dm.Wr.fn ?_ rfl rfl;dsimp only [List.map,List.replicate,List.cons_append,List.nil_append])
 ((with_reducible refine Dm.Ws.R ?_);(with_reducible refine Dm.We.F ?_);(with_reducible refine Dm.Was.cons ?_);((with_reducible apply Dm.We.v);(focus rfl));(with_reducible refine Dm.Was.cons ?_);(with_reducible refine Dm.We.c ?_);(with_reducible refine Dm.Was.cons ?_);(with_reducible refine Dm.We.c ?_);(with_reducible refine Dm.Was.nil ?_))
 refine WF.val (cB n 1 10 h1 h2) ?_ rfl rfl
 ((refine Dm.WR.val ?_))
 rfl
theorem nW (n:Int) (h1:1≤n) (h2:n≤6):se [.int n]=some (.val (.bl true)):=by
 apply Wr.eq
 unfold se
 (refine Dm.Wr.fn ?_ rfl rfl;dsimp only [List.map,List.replicate,List.cons_append,List.nil_append])
 ((with_reducible refine Dm.Ws.R ?_);(with_reducible refine Dm.We.F ?_);(with_reducible refine Dm.Was.cons ?_);((with_reducible apply Dm.We.v);(focus rfl));(with_reducible refine Dm.Was.cons ?_);(with_reducible refine Dm.We.c ?_);(with_reducible refine Dm.Was.cons ?_);(with_reducible refine Dm.We.c ?_);(with_reducible refine Dm.Was.nil ?_))
 refine WF.val (cB n 1 6 h1 h2) ?_ rfl rfl
 ((refine Dm.WR.val ?_))
 rfl
theorem wk (D:List Tie) (h:dJ D) (hl:D.length≤75):Bw [.lst ((D.map (·.m)).map Dat.int)]=some (.val (.bl true)):=by
 have sz:1000≤SZ:=by decide
 apply Wr.eq
 unfold Bw
 (refine Dm.Wr.fn ?_ rfl rfl;dsimp only [List.map,List.replicate,List.cons_append,List.nil_append])
 refine Ws.R (We.B (Was.cons ?_))
 have hit:iR2 (eC (.int 1)) (eB e_ [eV 0]) [.sh (.lst ((D.map (·.m)).map Dat.int))]=some ((List.range ((D.length:Int)-1).toNat).map (fun i:Nat=>Dat.int (1+(i:Int))),[.sh (.lst ((D.map (·.m)).map Dat.int))]):=by
  refine Wi.get ?_
  ((with_reducible refine Dm.Wi.R2 ?_);(with_reducible refine Dm.We.c ?_);(refine Dm.cy.mk ?_);(with_reducible refine Dm.We.B ?_);(with_reducible refine Dm.Was.cons ?_);((with_reducible apply Dm.We.v);(focus rfl));(with_reducible refine Dm.Was.nil ?_);(refine Dm.WB.yH (enc:=Dm.Dat.int) ?_ rfl);(refine Dm.cy.mk ?_))
  refine ⟨⟨?_,rfl⟩,?_⟩
  ·rw [uO,List.length_map]
  ·rw [List.length_map];unfold BIG;omega
 refine We.Map (fun i:Nat=>Dat.int (1+(i:Int))) (List.range ((D.length:Int)-1).toNat) (fun _=>true) Dat.bl ?_ hit rfl (by decide) (by simp;omega) (fun i hi=>?_)
 ·refine Was.nil (WB.all (fun b=>b) (xs:=(List.range ((D.length:Int)-1).toNat).map fun _=>true) ?_ rfl)
  exact WR.val (congrArg (fun b=>RV.val (Dat.bl b)) (by simp))
 ·have hi':=List.mem_range.mp hi
  ((with_reducible refine Dm.We.e2 ?_);(with_reducible refine Dm.We.e2 ?_);((with_reducible apply Dm.We.v);(focus rfl));(with_reducible refine Dm.We.e2 ?_);((with_reducible apply Dm.We.v);(focus rfl));(with_reducible refine Dm.We.c ?_);(refine Dm.Wg2.sub ?_ rfl rfl))
  refine Wg2.ixL (enc:=Dat.int) (xs:=D.map (·.m)) (i:=1+(i:Int)-1) (by omega) (by rw [List.length_map];omega) ?_ rfl rfl
  ((with_reducible refine Dm.We.e2 ?_);((with_reducible apply Dm.We.v);(focus rfl));((with_reducible apply Dm.We.v);(focus rfl)))
  refine Wg2.ixL (enc:=Dat.int) (xs:=D.map (·.m)) (i:=1+(i:Int)) (by omega) (by rw [List.length_map];omega) ?_ rfl rfl
  ((refine Dm.Wg2.lt ?_ rfl rfl);(refine Dm.Wk.val ?_))
  have lt:=List.pairwise_iff_getElem.mp h (1+(i:Int)-1).toNat (1+(i:Int)).toNat (by omega) (by omega) (by omega)
  refine ⟨congrArg Dat.bl (decide_eq_true ?_),rfl⟩
  rw [List.getElem_map,List.getElem_map]
  exact lt
structure Rcd (n:Nat) (r:List Tie):Prop where
 ok:∀ t∈r,0≤t.m∧t.m≤Z30∧0≤t.a∧t.a≤t.b∧t.b<n
 up:dJ r
 len:r.length≤60
theorem Rcd.sub {n:Nat} {r q:List Tie} (h:Rcd n r) (s:q.Sublist r):Rcd n q:=⟨fun t ht=>h.ok t (s.subset ht),h.up.sublist s,Nat.le_trans s.length_le h.len⟩
theorem Rcd.ends {n:Nat} {r:List Tie} (h:Rcd n r):Ends n r:=fun t ht=>by
 obtain ⟨h1,h2,h3,h4,h5⟩:=h.ok t ht
 exact ⟨h3,by omega,by omega,h5⟩
theorem Rcd.nodup {n:Nat} {r:List Tie} (h:Rcd n r):r.Nodup:=h.up.imp fun {t u} q e=>by rw [e] at q;omega
theorem nX (n:Nat) (n1:1≤n) (n10:n≤10) (r:List Tie) (h:Rcd n r):uB [.int (n:Nat),aC r]=some (.val (.bl true)):=by
 have sz:1000≤SZ:=by decide
 have hl:=h.len
 apply Wr.eq
 unfold uB
 (refine Dm.Wr.fn ?_ rfl rfl;dsimp only [List.map,List.replicate,List.cons_append,List.nil_append])
 ((with_reducible refine Dm.Ws.seq ?_);(with_reducible refine Dm.Ws.If ?_);(with_reducible refine Dm.Wt.Or ?_);(with_reducible refine Dm.Wt.Not ?_);(with_reducible refine Dm.Wt.V ?_);(with_reducible refine Dm.We.F ?_);(with_reducible refine Dm.Was.cons ?_);((with_reducible apply Dm.We.v);(focus rfl));(with_reducible refine Dm.Was.nil ?_))
 refine WF.val (nV n (by omega) (by omega)) ?_ rfl rfl
 ((refine Dm.Wb.mk ?_))
 refine Wif.no rfl ?_
 ((with_reducible refine Dm.Wt.Or ?_);(with_reducible refine Dm.Wt.Not ?_);(with_reducible refine Dm.Wt.V ?_);(with_reducible refine Dm.We.e1 ?_);((with_reducible apply Dm.We.v);(focus rfl));(refine Dm.Wg1.mk ?_ rfl rfl);(refine Dm.Wb.mk ?_))
 refine Wif.no rfl ?_
 ((with_reducible refine Dm.Wt.V ?_);(with_reducible refine Dm.We.e2 ?_);(with_reducible refine Dm.We.B ?_);(with_reducible refine Dm.Was.cons ?_);((with_reducible apply Dm.We.v);(focus rfl));(with_reducible refine Dm.Was.nil ?_);(refine Dm.WB.len ?_ rfl);(with_reducible refine Dm.We.c ?_);(refine Dm.Wg2.gt ?_ rfl rfl);(refine Dm.Wb.mk ?_))
 refine Wif.no (decide_eq_false (by rw [List.length_map];omega)) ?_
 ((with_reducible refine Dm.Ws.nx ?_);(with_reducible refine Dm.Ws.seq ?_);(with_reducible refine Dm.Ws.If ?_);(with_reducible refine Dm.Wt.Not ?_);(with_reducible refine Dm.Wt.V ?_);(with_reducible refine Dm.We.B ?_);(with_reducible refine Dm.Was.cons ?_))
 refine We.ET aK r (fun _=>true) Dat.bl ?_ rfl rfl rfl (by decide) (by omega) (fun t ht=>?_)
 rotate_left
 ·obtain ⟨h1,h2,h3,h4,h5⟩:=h.ok t ht
  ((with_reducible refine Dm.We.F ?_);(with_reducible refine Dm.Was.cons ?_);((with_reducible apply Dm.We.v);(focus rfl));(with_reducible refine Dm.Was.cons ?_);((with_reducible apply Dm.We.v);(focus rfl));(with_reducible refine Dm.Was.nil ?_))
  refine WF.val (we n t h1 h2 h3 h4 h5) ?_ rfl rfl
  ((refine Dm.Wk.val ?_))
  exact ⟨rfl,rfl⟩
 ((with_reducible refine Dm.Was.nil ?_))
 refine WB.all (fun b=>b) (xs:=r.map fun _=>true) ?_ rfl
 ((refine Dm.Wb.mk ?_))
 refine Wif.no (by simp) ?_
 ((with_reducible refine Dm.Ws.nx ?_);(with_reducible refine Dm.Ws.R ?_);(with_reducible refine Dm.We.F ?_);(with_reducible refine Dm.Was.cons ?_))
 refine We.ET aK r (·.m) Dat.int ?_ rfl rfl rfl (by decide) (by omega) (fun t ht=>?_)
 rotate_left
 ·((with_reducible refine Dm.We.e2 ?_);((with_reducible apply Dm.We.v);(focus rfl));(with_reducible refine Dm.We.c ?_);(refine Dm.Wg2.ix ?_ rfl rfl rfl);(refine Dm.Wk.val ?_))
  exact ⟨rfl,rfl⟩
 ((with_reducible refine Dm.Was.nil ?_))
 refine WF.val (wk r h.up (by omega)) ?_ rfl rfl
 ((refine Dm.WR.val ?_))
 rfl
structure Net (n k:Nat) (N:List Tie):Prop where
 rc:Rcd n N
 num:∃ ms,aP k N ms∧(0:Int)∉ms
theorem wm (n k:Nat) (n1:1≤n) (n10:n≤10) (k1:1≤k) (k6:k≤6) (N:List Tie) (h:Net n k N):uD [aO n k N]=some (.val (.bl true)):=by
 have hl:=h.rc.len
 obtain ⟨ms,el,al⟩:=jZ n k n10 k1 k6 N h.rc.ends (by omega)
 obtain ⟨ms',al',h0⟩:=h.num
 rw [al'.uniq al] at h0
 apply Wr.eq
 unfold uD aO
 (refine Dm.Wr.fn ?_ rfl rfl;dsimp only [List.map,List.replicate,List.cons_append,List.nil_append])
 ((with_reducible refine Dm.Ws.seq ?_);(with_reducible refine Dm.Ws.If ?_);(with_reducible refine Dm.Wt.Or ?_);(with_reducible refine Dm.Wt.Not ?_);(with_reducible refine Dm.Wt.V ?_);(with_reducible refine Dm.We.e1 ?_);((with_reducible apply Dm.We.v);(focus rfl));(refine Dm.Wg1.mk ?_ rfl rfl);(refine Dm.Wb.mk ?_))
 refine Wif.no rfl ?_
 ((with_reducible refine Dm.Wt.V ?_);(with_reducible refine Dm.We.e2 ?_);(with_reducible refine Dm.We.B ?_);(with_reducible refine Dm.Was.cons ?_);((with_reducible apply Dm.We.v);(focus rfl));(with_reducible refine Dm.Was.nil ?_);(refine Dm.WB.EV ?_ rfl);(with_reducible refine Dm.We.c ?_);(refine Dm.Wg2.ne ?_ rfl rfl);(refine Dm.Wb.mk ?_))
 refine Wif.no rfl ?_
 ((with_reducible refine Dm.Ws.nx ?_);(with_reducible refine Dm.Ws.seq ?_);(with_reducible refine Dm.Ws.If ?_);(with_reducible refine Dm.Wt.Or ?_);(with_reducible refine Dm.Wt.Not ?_);(with_reducible refine Dm.Wt.V ?_);(with_reducible refine Dm.We.F ?_);(with_reducible refine Dm.Was.cons ?_);(with_reducible refine Dm.We.e2 ?_);((with_reducible apply Dm.We.v);(focus rfl));(with_reducible refine Dm.We.c ?_);(refine Dm.Wg2.ix ?_ rfl rfl rfl);(with_reducible refine Dm.Was.nil ?_))
 refine WF.val (nW k (by omega) (by omega)) ?_ rfl rfl
 ((refine Dm.Wb.mk ?_))
 refine Wif.no rfl ?_
 ((with_reducible refine Dm.Wt.Not ?_);(with_reducible refine Dm.Wt.V ?_);(with_reducible refine Dm.We.F ?_);(with_reducible refine Dm.Was.cons ?_);(with_reducible refine Dm.We.e2 ?_);((with_reducible apply Dm.We.v);(focus rfl));(with_reducible refine Dm.We.c ?_);(refine Dm.Wg2.ix ?_ rfl rfl rfl);(with_reducible refine Dm.Was.cons ?_);(with_reducible refine Dm.We.e2 ?_);((with_reducible apply Dm.We.v);(focus rfl));(with_reducible refine Dm.We.c ?_);(refine Dm.Wg2.ix ?_ rfl rfl rfl);(with_reducible refine Dm.Was.nil ?_))
 refine WF.val (nX n n1 n10 N h.rc) ?_ rfl rfl
 ((refine Dm.Wb.mk ?_))
 refine Wif.no rfl ?_
 ((with_reducible refine Dm.Ws.nx ?_);(with_reducible refine Dm.Ws.R ?_);(with_reducible refine Dm.We.e2 ?_);(with_reducible refine Dm.We.c ?_);(with_reducible refine Dm.We.F ?_);(with_reducible refine Dm.Was.cons ?_);(with_reducible refine Dm.We.e2 ?_);((with_reducible apply Dm.We.v);(focus rfl));(with_reducible refine Dm.We.c ?_);(refine Dm.Wg2.ix ?_ rfl rfl rfl);(with_reducible refine Dm.Was.cons ?_);(with_reducible refine Dm.We.e2 ?_);((with_reducible apply Dm.We.v);(focus rfl));(with_reducible refine Dm.We.c ?_);(refine Dm.Wg2.ix ?_ rfl rfl rfl);(with_reducible refine Dm.Was.cons ?_);(with_reducible refine Dm.We.e2 ?_);((with_reducible apply Dm.We.v);(focus rfl));(with_reducible refine Dm.We.c ?_);(refine Dm.Wg2.ix ?_ rfl rfl rfl);(with_reducible refine Dm.Was.nil ?_))
 refine WF.box el ?_ rfl rfl rfl (by first | (dsimp only [List.set];first | done | rfl) | rfl)
 skip
 refine Wg2.J3 (xs:=ms) ?_ rfl rfl
 ((refine Dm.WR.val ?_))
 exact congrArg (fun b=>RV.val (Dat.bl b)) (by simp [h0])
noncomputable def BG (t:Tie):Tie:=⟨t.m,if t.b<t.a then t.b else t.a,if t.b>t.a then t.b else t.a⟩
theorem rT (t:Tie):uz [aK t]=some (.val (aK (BG t))):=by
 apply Wr.eq
 unfold uz
 (refine Dm.Wr.fn ?_ rfl rfl;dsimp only [List.map,List.replicate,List.cons_append,List.nil_append])
 ((with_reducible refine Dm.Ws.R ?_);(with_reducible refine Dm.We.T ?_);(with_reducible refine Dm.Was.cons ?_);(with_reducible refine Dm.We.e2 ?_);((with_reducible apply Dm.We.v);(focus rfl));(with_reducible refine Dm.We.c ?_);(refine Dm.Wg2.ix ?_ rfl rfl rfl);(with_reducible refine Dm.Was.cons ?_);(with_reducible refine Dm.We.B ?_);(with_reducible refine Dm.Was.cons ?_);(with_reducible refine Dm.We.e2 ?_);((with_reducible apply Dm.We.v);(focus rfl));(with_reducible refine Dm.We.c ?_);(refine Dm.Wg2.ix ?_ rfl rfl rfl);(with_reducible refine Dm.Was.cons ?_);(with_reducible refine Dm.We.e2 ?_);((with_reducible apply Dm.We.v);(focus rfl));(with_reducible refine Dm.We.c ?_);(refine Dm.Wg2.ix ?_ rfl rfl rfl);(with_reducible refine Dm.Was.nil ?_);(refine Dm.WB.min2 ?_ rfl);(with_reducible refine Dm.Was.cons ?_);(with_reducible refine Dm.We.B ?_);(with_reducible refine Dm.Was.cons ?_);(with_reducible refine Dm.We.e2 ?_);((with_reducible apply Dm.We.v);(focus rfl));(with_reducible refine Dm.We.c ?_);(refine Dm.Wg2.ix ?_ rfl rfl rfl);(with_reducible refine Dm.Was.cons ?_);(with_reducible refine Dm.We.e2 ?_);((with_reducible apply Dm.We.v);(focus rfl));(with_reducible refine Dm.We.c ?_);(refine Dm.Wg2.ix ?_ rfl rfl rfl);(with_reducible refine Dm.Was.nil ?_);(refine Dm.WB.max2 ?_ rfl);(with_reducible refine Dm.Was.nil ?_);(refine Dm.WT.mk ?_ rfl (by first | (dsimp only [List.set];first | done | rfl) | rfl) (by exact Nat.le_of_ble_eq_true rfl));(refine Dm.WR.val ?_))
 rfl
theorem sr (k:Nat):∀ r:List Tie,∃ (gs:List (Int→Int)) (ms:List Int),jY k gs r ms∧aP k r ms
 | []=>⟨_,[],EZ k,trivial⟩
 | t::r=>by
  obtain ⟨gs,ms,h1,h2⟩:=sr k r
  exact ⟨_,_,h1.step t,h2,h1.num t⟩
noncomputable def nums (k:Nat) (r:List Tie):List Int:=Classical.choose (Classical.choose_spec (sr k r))
theorem bH (k:Nat) (r:List Tie):aP k r (nums k r):=(Classical.choose_spec (Classical.choose_spec (sr k r))).2
noncomputable def NN (k:Nat) (r:List Tie):List Tie:=keep r (nums k r)
theorem uP {k:Nat} {r:List Tie} {ms:List Int} (h:aP k r ms):keep r ms=NN k r:=by
 unfold NN
 rw [h.uniq (bH k r)]
theorem bL (k:Nat) (r:List Tie):(NN k r).Sublist r:=cG _ _
theorem E7 {t:Tie} {m:Int} {r:List Tie} {ms:List Int}:t∈lay (t::r) (m::ms) m:=by
 rw [aY,if_pos rfl]
 exact List.mem_cons_self
theorem nY {t:Tie} {m:Int} {r:List Tie} {ms:List Int} {j:Int} {x y:Int} (c:Con (lay r ms j) x y):Con (lay (t::r) (m::ms) j) x y:=by
 rw [aY]
 split
 ·exact c.mono fun u h=>List.mem_cons_of_mem _ h
 ·exact c
inductive Cs (g:Tie→Tie):List Tie→List Tie→Prop
 | nil:Cs g [] []
 | skip {S R:List Tie} (t:Tie):Cs g S R→Cs g S (t::R)
 | both {S R:List Tie} (t:Tie):Cs g S R→Cs g (t::S) (g t::R)
noncomputable def su (f:Int→Int) (g:Tie→Tie):Prop:=∀ t,((g t).a=f t.a∧(g t).b=f t.b)∨((g t).a=f t.b∧(g t).b=f t.a)
theorem su.con {f:Int→Int} {g:Tie→Tie} (h:su f g) {L:List Tie} (t:Tie):Con L (g t).a (g t).b↔Con L (f t.a) (f t.b):=by
 rcases h t with ⟨e1,e2⟩ | ⟨e1,e2⟩
 ·rw [e1,e2]
 ·rw [e1,e2]
  exact ⟨.symm,.symm⟩
theorem BH {f:Int→Int} {L M:List Tie} (h:∀ u∈L,Con M (f u.a) (f u.b)) {x y:Int} (c:Con L x y):Con M (f x) (f y):=by
 induction c with
 | refl x=>exact .refl _
 | tie u m=>exact h u m
 | symm _ ih=>exact .symm ih
 | trans _ _ i1 i2=>exact .trans i1 i2
theorem E8 {k:Int} {f:Int→Int} {g:Tie→Tie} (hg:su f g) {S R:List Tie} (c:Cs g S R):∀ {ms ns:List Int},aP k S ms→aP k R ns→∀ j,1≤j→j≤k→∀ x y,Con (lay S ms j) x y→Con (lay R ns j) (f x) (f y):=by
 induction c with
 | nil=>
  intro ms ns h1 h2 j _ _ x y q
  cases ms with
  | nil=>rw [(q:Con [] x y).nil];exact .refl _
  | cons _ _=>exact h1.elim
 | @skip S R t _ ih=>
  intro ms ns h1 h2 j j1 jk x y q
  cases ns with
  | nil=>exact h2.elim
  | cons n0 ns=>exact nY (ih h1 h2.1 j j1 jk x y q)
 | @both S R t _ ih=>
  intro ms ns h1 h2 j j1 jk x y q
  cases ms with
  | nil=>exact h1.elim
  | cons m0 ms=>
   cases ns with
   | nil=>exact h2.elim
   | cons n0 ns=>
    have up:∀ {x y},Con (lay S ms j) x y→Con (lay (g t::R) (n0::ns) j) (f x) (f y):=fun q=>nY (ih h1.1 h2.1 j j1 jk _ _ q)
    rw [aY] at q
    split at q
    ·rename_i em
     refine BH (fun u hu=>?_) q
     rcases List.mem_cons.mp hu with rfl | hu
     ·refine (hg.con u).mp ?_
      rcases h2.2 with ⟨_,z⟩ | ⟨n1,nk,nc,z⟩
      ·exact nY (z j j1 jk)
      ·rcases Int.lt_trichotomy n0 j with l | l | l
       ·exfalso
        refine nc ((hg.con u).mpr (ih h1.1 h2.1 n0 n1 nk _ _ ?_))
        rcases h1.2 with ⟨m1,w⟩ | ⟨_,_,_,w⟩
        ·exact w n0 n1 nk
        ·exact w n0 n1 (by omega)
       ·subst l
        exact .tie _ E7
       ·exact nY (z j j1 l)
     ·exact up (.tie u hu)
    ·exact up q
theorem Cs.mem {g:Tie→Tie} {S R:List Tie} (c:Cs g S R):∀ t∈S,g t∈R:=by
 induction c with
 | nil=>intro t h;cases h
 | skip t _ ih=>exact fun u hu=>List.mem_cons_of_mem _ (ih u hu)
 | both t _ ih=>
  intro u hu
  rcases List.mem_cons.mp hu with rfl | hu
  ·exact List.mem_cons_self
  ·exact List.mem_cons_of_mem _ (ih u hu)
theorem j3 {k:Int} {f:Int→Int} {g:Tie→Tie} (hg:su f g) {S R:List Tie} (c:Cs g S R):R.Nodup→∀ {ms ns:List Int},aP k S ms→aP k R ns→∀ u∈keep R ns,u∈S.map g→u∈(keep S ms).map g:=by
 induction c with
 | nil=>
  intro _ ms ns h1 h2 u hu h
  cases h
 | @skip S R t c ih=>
  intro nd ms ns h1 h2 u hu h
  cases ns with
  | nil=>exact h2.elim
  | cons n0 ns=>
   obtain ⟨p1,p2⟩:=List.nodup_cons.mp nd
   have uR:u∈R:=by
    obtain ⟨v,hv,rfl⟩:=List.mem_map.mp h
    exact c.mem v hv
   rw [aQ] at hu
   split at hu
   ·rcases List.mem_cons.mp hu with rfl | hu
    ·exact absurd uR p1
    ·exact ih p2 h1 h2.1 u hu h
   ·exact ih p2 h1 h2.1 u hu h
 | @both S R t c ih=>
  intro nd ms ns h1 h2 u hu h
  cases ms with
  | nil=>exact h1.elim
  | cons m0 ms=>
   cases ns with
   | nil=>exact h2.elim
   | cons n0 ns=>
    obtain ⟨p1,p2⟩:=List.nodup_cons.mp nd
    have old:u∈keep R ns→u∈(keep (t::S) (m0::ms)).map g:=fun hu=>by
     have ug:u≠g t:=fun e=>p1 (e▸(cG _ _).subset hu)
     have hS:u∈S.map g:=by
      rcases List.mem_cons.mp (show u∈g t::S.map g from h) with e | h
      ·exact absurd e ug
      ·exact h
     have:=ih p2 h1.1 h2.1 u hu hS
     rw [aQ]
     split
     ·exact List.mem_cons_of_mem _ this
     ·exact this
    rw [aQ] at hu
    split at hu
    ·rename_i np
     rcases List.mem_cons.mp hu with rfl | hu
     ·have mp:0<m0:=by
       rcases h1.2 with ⟨rfl,w⟩ | ⟨m1,_⟩
       ·exfalso
        rcases h2.2 with ⟨z,_⟩ | ⟨n1,nk,nc,_⟩
        ·omega
        ·exact nc ((hg.con t).mpr (E8 hg c h1.1 h2.1 n0 n1 nk _ _ (w n0 n1 nk)))
       ·omega
      rw [aQ,if_pos mp]
      exact List.mem_cons_self
     ·exact old hu
    ·exact old hu
theorem E9 {S R:List Tie} (h:S.Sublist R):Cs (fun t=>t) S R:=by
 induction h with
 | slnil=>exact .nil
 | cons t _ ih=>exact .skip t ih
 | cons_cons t _ ih=>exact .both t ih
theorem zc (g:Tie→Tie):∀ r:List Tie,Cs g r (r.map g)
 | []=>.nil
 | t::r=>.both t (zc g r)
theorem BI:su (fun x=>x) fun t=>t:=fun t=>.inl ⟨rfl,rfl⟩
theorem uQ {k:Nat} {S r:List Tie} (h:S.Sublist r) (nd:r.Nodup) {t:Tie} (ht:t∈NN k r) (hs:t∈S):t∈NN k S:=by
 have:=j3 BI (E9 h) nd (bH k S) (bH k r) t ht (by simpa using hs)
 rw [List.map_id'] at this
 exact this
theorem E_ {k:Nat} {f:Int→Int} {g:Tie→Tie} (hg:su f g) {r:List Tie} (nd:(r.map g).Nodup) {u:Tie} (hu:u∈NN k (r.map g)):u∈(NN k r).map g:=
 j3 hg (zc g r) nd (bH k r) (bH k (r.map g)) u hu ((bL _ _).subset hu)
theorem fu.J6 {k:Int} {r S:List Tie} {ms ns:List Int} {t:Tie} {m:Int} (h:fu k r ms t m) (e:∀ j,1≤j→lay S ns j=lay r ms j):fu k S ns t m:=by
 rcases h with ⟨h1,h2⟩ | ⟨h1,h2,h3,h4⟩
 ·exact .inl ⟨h1,fun j j1 jk=>by rw [e j j1];exact h2 j j1 jk⟩
 ·exact .inr ⟨h1,h2,by rw [e m h1];exact h3,fun j j1 jm=>by rw [e j j1];exact h4 j j1 jm⟩
theorem less {k:Int} {S r:List Tie} (h:S.Sublist r):r.Nodup→∀ {ms:List Int},aP k r ms→(∀ t∈keep r ms,t∈S)→∃ ns,aP k S ns∧keep S ns=keep r ms∧∀ j,1≤j→lay S ns j=lay r ms j:=by
 induction h with
 | slnil=>intro _ ms h1 _;exact ⟨ms,h1,rfl,fun _ _=>rfl⟩
 | @cons S r t s ih=>
  intro nd ms h1 h2
  obtain ⟨p1,p2⟩:=List.nodup_cons.mp nd
  cases ms with
  | nil=>exact h1.elim
  | cons m0 ms=>
   have m00:¬ 0<m0:=fun q=>p1 (s.subset (h2 t (by rw [aQ,if_pos q];exact List.mem_cons_self)))
   have mz:m0=0:=by
    rcases h1.2 with ⟨e,_⟩ | ⟨e,_⟩<;>omega
   rw [aQ,if_neg m00] at h2 ⊢
   obtain ⟨ns,q1,q2,q3⟩:=ih p2 h1.1 h2
   refine ⟨ns,q1,q2,fun j j1=>?_⟩
   rw [aY,if_neg (by omega)]
   exact q3 j j1
 | @cons_cons S r t s ih=>
  intro nd ms h1 h2
  obtain ⟨p1,p2⟩:=List.nodup_cons.mp nd
  cases ms with
  | nil=>exact h1.elim
  | cons m0 ms=>
   obtain ⟨ns,q1,q2,q3⟩:=ih p2 h1.1 (fun u hu=>by
    have hm:u∈keep (t::r) (m0::ms):=by
     rw [aQ];split
     ·exact List.mem_cons_of_mem _ hu
     ·exact hu
    rcases List.mem_cons.mp (h2 u hm) with rfl | z
    ·exact absurd ((cG _ _).subset hu) p1
    ·exact z)
   refine ⟨m0::ns,⟨q1,h1.2.J6 q3⟩,?_,fun j j1=>?_⟩
   ·rw [aQ,aQ,q2]
   ·rw [aY,aY,q3 j j1]
theorem nZ {k:Nat} {S r:List Tie} (h:S.Sublist r) (nd:r.Nodup) (hs:∀ t∈NN k r,t∈S):NN k S=NN k r:=by
 obtain ⟨ns,h1,h2,_⟩:=less h nd (bH k r) hs
 rw [← uP h1,h2]
 rfl
theorem CK {k j:Int} (hj:j≤k) (j0:0≤j):∀ {r:List Tie} {ms:List Int},aP k r ms→aP j r (ms.map fun m=>if m≤j then m else 0)∧∀ i,1≤i→i≤j→lay r (ms.map fun m=>if m≤j then m else 0) i=lay r ms i
 | [],[],_=>⟨trivial,fun _ _ _=>rfl⟩
 | t::r,m::ms,h=>by
  obtain ⟨q1,q2⟩:=CK hj j0 h.1
  refine ⟨⟨q1,?_⟩,fun i i1 ij=>?_⟩
  ·show fu j r _ t (if m≤j then m else 0)
   rcases h.2 with ⟨rfl,w⟩ | ⟨m1,mk,mc,w⟩
   ·rw [if_pos j0]
    exact .inl ⟨rfl,fun i i1 ij=>by rw [q2 i i1 ij];exact w i i1 (by omega)⟩
   ·by_cases mj:m≤j
    ·rw [if_pos mj]
     exact .inr ⟨m1,mj,by rw [q2 m m1 mj];exact mc,fun i i1 im=>by rw [q2 i i1 (by omega)];exact w i i1 im⟩
    ·rw [if_neg mj]
     exact .inl ⟨rfl,fun i i1 ij=>by rw [q2 i i1 ij];exact w i i1 (by omega)⟩
  ·rw [List.map_cons,aY,aY,q2 i i1 ij]
   by_cases mj:m≤j
   ·rw [if_pos mj]
   ·rw [if_neg mj,if_neg (show ¬ (0:Int)=i by omega),if_neg (show ¬ m=i by omega)]
 | [],_::_,h=>h.elim
 | _::_,[],h=>h.elim
theorem g6 (j:Int):∀ (r:List Tie) (ms:List Int),∀ t∈keep r (ms.map fun m=>if m≤j then m else 0),t∈keep r ms
 | [],_=>fun t h=>by cases h
 | _::_,[]=>fun t h=>by cases h
 | u::r,m::ms=>fun t h=>by
  rw [List.map_cons,aQ] at h
  have ih:=g6 j r ms
  rw [aQ]
  generalize hv:(if m≤j then m else 0)=v at h
  have vm:0<v→0<m:=fun q=>by
   split at hv<;>omega
  by_cases q:0<v
  ·rw [if_pos q] at h
   rw [if_pos (vm q)]
   rcases List.mem_cons.mp h with rfl | h
   ·exact List.mem_cons_self
   ·exact List.mem_cons_of_mem _ (ih t h)
  ·rw [if_neg q] at h
   split
   ·exact List.mem_cons_of_mem _ (ih t h)
   ·exact ih t h
theorem Fb {k j:Nat} (hj:j≤k) {r:List Tie} (nd:r.Nodup):NN j (NN k r)=NN j r:=by
 obtain ⟨h1,_⟩:=CK (k:=k) (j:=j) (by omega) (by omega) (bH k r)
 refine nZ (bL k r) nd fun t ht=>?_
 rw [← uP h1] at ht
 exact g6 _ _ _ t ht
noncomputable def jb (r:List Tie) (t:Int):List Tie:=r.filter fun x=>decide (t≤x.m)
theorem j4 {k:Int} (t:Int):∀ {r:List Tie} {ms:List Int},dJ r→aP k r ms→∃ ns,aP k (jb r t) ns∧keep (jb r t) ns=jb (keep r ms) t
 | [],[],_,_=>⟨[],trivial,rfl⟩
 | u::r,m::ms,up,h=>by
  obtain ⟨p1,p2⟩:=List.pairwise_cons.mp up
  by_cases q:t≤u.m
  ·have all:∀ L:List Tie,(∀ x∈L,x∈u::r)→jb L t=L:=fun L hL=>List.filter_eq_self.mpr fun x hx=>by
    rcases List.mem_cons.mp (hL x hx) with rfl | z
    ·exact decide_eq_true q
    ·exact decide_eq_true (by have:=p1 x z;omega)
   rw [all _ fun _ h=>h,all (keep (u::r) (m::ms)) fun x hx=>(cG _ _).subset hx]
   exact ⟨_,h,rfl⟩
  ·obtain ⟨ns,h1,h2⟩:=j4 t p2 h.1
   have e:∀ L:List Tie,jb (u::L) t=jb L t:=fun L=>by
    unfold jb
    rw [List.filter_cons,if_neg (by simpa using q)]
   rw [e]
   refine ⟨ns,h1,h2.trans ?_⟩
   rw [aQ]
   split
   ·rw [e]
   ·rfl
 | [],_::_,_,h=>h.elim
 | _::_,[],_,h=>h.elim
theorem zd {k:Nat} {r:List Tie} (up:dJ r) (t:Int):NN k (jb r t)=jb (NN k r) t:=by
 obtain ⟨ns,h1,h2⟩:=j4 t up (bH k r)
 rw [← uP h1,h2]
 rfl
theorem Fc {k:Nat} {r P Q X Y:List Tie} (nd:r.Nodup) (hP:P.Sublist r) (hQ:Q.Sublist r) (x1:∀ t∈X,t∈P) (x2:∀ t∈NN k P,t∈X) (y1:∀ t∈Y,t∈Q) (y2:∀ t∈NN k Q,t∈Y)
  (S T:List Tie) (sS:S.Sublist r) (sT:T.Sublist r) (hS:∀ t,t∈S↔t∈X∨t∈Y) (hT:∀ t,t∈T↔t∈P∨t∈Q):NN k S=NN k T:=by
 have sub:∀ {A B:List Tie},A.Sublist r→B.Sublist r→(∀ t∈A,t∈B)→A.Sublist B:=fun {A B} hA hB h=>by
  rw [gY hA nd,gY hB nd]
  have:(r.filter fun t=>decide (t∈A))=(r.filter fun t=>decide (t∈B)).filter fun t=>decide (t∈A):=by
   rw [List.filter_filter]
   refine List.filter_congr fun t _=>?_
   by_cases q:t∈A
   ·simp [q,h t q]
   ·simp [q]
  rw [this]
  exact List.filter_sublist
 have ndT:=sT.nodup nd
 refine nZ (sub sS sT fun t ht=>(hT t).mpr (((hS t).mp ht).imp (x1 t) (y1 t))) ndT fun t ht=>(hS t).mpr ?_
 rcases (hT t).mp ((bL _ _).subset ht) with q | q
 ·exact .inl (x2 t (uQ (sub hP sT fun u hu=>(hT u).mpr (.inl hu)) ndT ht q))
 ·exact .inr (y2 t (uQ (sub hQ sT fun u hu=>(hT u).mpr (.inr hu)) ndT ht q))
theorem sy {n k:Nat} {r:List Tie} (h:Rcd n r):Net n k (NN k r):=⟨h.sub (bL k r),_,qc (bH k r),by simp⟩
theorem b5 (n k:Nat) (n1:1≤n) (n10:n≤10) (k1:1≤k) (k6:k≤6) (N:List Tie) (h:Net n k N):iY [aO n k N]=some (.val .non):=by
 apply Wr.eq
 unfold iY
 (refine Dm.Wr.fn ?_ rfl rfl;dsimp only [List.map,List.replicate,List.cons_append,List.nil_append])
 exact Ws.If (Wt.Not (Wt.V (We.F (Was.cons (We.v rfl (Was.nil (WF.val (wm n k n1 n10 k1 k6 N h) (Wb.mk (Wif.f (Ws.nx rfl))) rfl rfl)))))))
theorem Wg2.J7 {X Y:List Tie} {o p:Option Dat} {K:RV→Prop} (k:K (.new (aC (X++Y)))) (ho:o=some (aC X)) (hp:p=some (aC Y)) (h:X.length+Y.length≤1000):Wg2 bF o p K:=by
 refine Wg2.HV (xs:=X.map aK) (ys:=Y.map aK) ?_ ho hp (by rw [List.length_map,List.length_map];unfold SZ;omega)
 rw [← List.map_append]
 exact k
theorem g7 (n k:Nat) (n10:n≤10) (k1:1≤k) (k6:k≤6) (r:List Tie) (hr:Ends n r) (hl:r.length≤1000):iZ [.int (n:Nat),aC r,.int (k:Nat)]=some (.val (aO n k (NN k r))):=E5 n k n10 k1 k6 r _ hr hl (bH k r)
structure Sz (n k:Nat):Prop where
 n1:1≤n
 n10:n≤10
 k1:1≤k
 k6:k≤6
theorem BJ {n k:Nat} (z:Sz n k) {X Y D:List Tie} (hX:X.length≤100) (hY:Y.length≤100) (hD:dJ D) (lD:D.length≤63) (eD:Ends n D) (e:∀ t,t∈D↔t∈X++Y):uH [aO n k X,aC Y]=some (.val (aO n k (NN k D))):=by
 apply Wr.eq
 unfold uH
 (refine Dm.Wr.fn ?_ rfl rfl;dsimp only [List.map,List.replicate,List.cons_append,List.nil_append])
 refine Ws.seq (Ws.A (We.e1 (We.e2 (We.e2 (We.v rfl (We.c (Wg2.ix (v:=aC X) ?_ rfl rfl rfl)))))) (by decide))
 refine We.v rfl (Wg2.J7 (Wg1.za hD e lD ?_ rfl) rfl rfl (by omega))
 refine WA.new ?_ (by first | (dsimp only [List.set];first | done | rfl) | rfl)
 refine Ws.seq (Ws.E (We.F (Was.cons (We.w rfl (Was.nil (WF.val (zb D hD (by omega)) ?_ rfl rfl))))))
 refine Ws.R (We.F (Was.cons (We.e2 (We.v rfl (We.c (Wg2.ix (v:=.int (n:Nat)) ?_ rfl rfl rfl))))))
 refine Was.cons (We.w rfl (Was.cons (We.e2 (We.v rfl (We.c (Wg2.ix (v:=.int (k:Nat)) ?_ rfl rfl rfl))))))
 exact Was.nil (WF.box (g7 n k z.n10 z.k1 z.k6 D eD (by omega)) rfl rfl rfl rfl (by first | (dsimp only [List.set];first | done | rfl) | rfl))
theorem nN {n k:Nat} (z:Sz n k) {X Y D:List Tie} (hX:Net n k X) (hY:Net n k Y) (hD:dJ D) (lD:D.length≤63) (e:∀ t,t∈D↔t∈X++Y):gX [aO n k X,aO n k Y]=some (.val (aO n k (NN k D))):=by
 have eD:Ends n D:=fun t ht=>by
  rcases List.mem_append.mp ((e t).mp ht) with q | q
  ·exact hX.rc.ends t q
  ·exact hY.rc.ends t q
 have lX:=hX.rc.len
 have lY:=hY.rc.len
 apply Wr.eq
 unfold gX
 (refine Dm.Wr.fn ?_ rfl rfl;dsimp only [List.map,List.replicate,List.cons_append,List.nil_append])
 refine Ws.seq (Ws.E (We.F (Was.cons (We.v rfl (Was.nil (WF.val (b5 n k z.n1 z.n10 z.k1 z.k6 X hX) ?_ rfl rfl))))))
 refine Ws.seq (Ws.E (We.F (Was.cons (We.v rfl (Was.nil (WF.val (b5 n k z.n1 z.n10 z.k1 z.k6 Y hY) ?_ rfl rfl))))))
 refine Ws.seq (Ws.If (Wt.Or (Wt.V (We.e2 (We.e2 (We.v rfl (We.c (Wg2.ix (v:=.int (n:Nat)) ?_ rfl rfl rfl))))))))
 refine We.e2 (We.v rfl (We.c (Wg2.ix (v:=.int (n:Nat)) (Wg2.ne (Wb.mk (Wif.no (by simp) ?_)) rfl rfl) rfl rfl rfl)))
 refine Wt.V (We.e2 (We.e2 (We.v rfl (We.c (Wg2.ix (v:=.int (k:Nat)) ?_ rfl rfl rfl)))))
 refine We.e2 (We.v rfl (We.c (Wg2.ix (v:=.int (k:Nat)) (Wg2.ne (Wb.mk (Wif.no (by simp) (Ws.nx ?_))) rfl rfl) rfl rfl rfl)))
 refine Ws.R (We.F (Was.cons (We.v rfl (Was.cons (We.e2 (We.v rfl (We.c (Wg2.ix (v:=aC Y) ?_ rfl rfl rfl))))))))
 exact Was.nil (WF.box (BJ z (by omega) (by omega) hD lD eD e) rfl rfl rfl rfl rfl)
noncomputable def two (r P Q:List Tie):List Tie:=r.filter fun t=>decide (t∈P∨t∈Q)
theorem two_sub (r P Q:List Tie):(two r P Q).Sublist r:=List.filter_sublist
theorem two_mem {r P Q:List Tie} (hP:P.Sublist r) (hQ:Q.Sublist r) (t:Tie):t∈two r P Q↔t∈P∨t∈Q:=by
 unfold two
 rw [List.mem_filter,decide_eq_true_iff]
 exact ⟨fun h=>h.2,fun h=>⟨h.elim (fun q=>hP.subset q) fun q=>hQ.subset q,h⟩⟩
theorem two_all {r P Q:List Tie} (h:∀ t∈r,t∈P∨t∈Q):two r P Q=r:=List.filter_eq_self.mpr fun t ht=>decide_eq_true (h t ht)
theorem qd {n k:Nat} (z:Sz n k) {r P Q:List Tie} (hr:Rcd n r) (hP:P.Sublist r) (hQ:Q.Sublist r):gX [aO n k (NN k P),aO n k (NN k Q)]=some (.val (aO n k (NN k (two r P Q)))):=by
 have lr:=hr.len
 have sP:=(bL k P).trans hP
 have sQ:=(bL k Q).trans hQ
 have:=nN z (sy (k:=k) (hr.sub hP)) (sy (k:=k) (hr.sub hQ)) (hr.up.sublist (two_sub r (NN k P) (NN k Q))) (by have:=(two_sub r (NN k P) (NN k Q)).length_le;omega) (fun t=>by rw [two_mem sP sQ,List.mem_append])
 rw [this,Fc hr.nodup hP hQ (fun t h=>(bL k P).subset h) (fun _ h=>h) (fun t h=>(bL k Q).subset h) (fun _ h=>h) _ _ (two_sub r _ _) (two_sub r _ _) (two_mem sP sQ) (two_mem hP hQ)]
theorem ze (r:List Tie) (hl:r.length≤1000) (t:Int):uC [aC r,.int t]=some (.new (aC (jb r t))):=by
 apply Wr.eq
 unfold uC
 (refine Dm.Wr.fn ?_ rfl rfl;dsimp only [List.map,List.replicate,List.cons_append,List.nil_append])
 refine Ws.R ?_
 refine We.HU aK r (fun x=>decide (t≤x.m)) id aK (d:=aC r) ?_ rfl rfl rfl (by decide) (by unfold SZ;omega) (fun u _=>?_) fun u _ _=>?_
 ·rw [List.map_id];rfl
 ·exact Wt.V (We.e2 (We.e2 (We.v rfl (We.c (Wg2.ix (We.v rfl (Wg2.ge (Wb.mk ⟨rfl,rfl⟩) rfl rfl)) rfl rfl rfl)))))
 ·exact We.v rfl (Wk.val ⟨rfl,rfl⟩)
theorem BK (n a b:Int) (a0:0≤a) (a1:a<n) (b0:0≤b) (b1:b<n) (h:a≠b):Bx [.int n,.int a,.int b]=some (.val (.bl true)):=by
 apply Wr.eq
 unfold Bx
 (refine Dm.Wr.fn ?_ rfl rfl;dsimp only [List.map,List.replicate,List.cons_append,List.nil_append])
 refine Ws.R (We.And (We.F (Was.cons (We.v rfl (Was.cons (We.v rfl (Was.nil (WF.val (gZ n a a0 a1) ?_ rfl rfl))))))))
 refine Wb.mk (Wif.t (We.And (We.F (Was.cons (We.v rfl (Was.cons (We.v rfl (Was.nil (WF.val (gZ n b b0 b1) ?_ rfl rfl)))))))))
 refine Wb.mk (Wif.t (We.e2 (We.v rfl (We.v rfl (Wg2.ne ?_ rfl rfl)))))
 rw [decide_eq_false h]
 rfl
theorem n5 (n a b:Int) (a0:0≤a) (a1:a<n) (b0:0≤b) (b1:b<n) (h:a≠b):ux [.int n,.int a,.int b]=some (.val .non):=by
 apply Wr.eq
 unfold ux
 (refine Dm.Wr.fn ?_ rfl rfl;dsimp only [List.map,List.replicate,List.cons_append,List.nil_append])
 refine Ws.If (Wt.Not (Wt.V (We.F (Was.cons (We.v rfl (Was.cons (We.v rfl (Was.cons (We.v rfl (Was.nil (WF.val (BK n a b a0 a1 b0 b1 h) ?_ rfl rfl)))))))))))
 exact Wb.mk (Wif.f (Ws.nx rfl))
theorem wo {n k:Nat} (z:Sz n k) {N:List Tie} (h:Net n k N) (t:Int):uF [aO n k N,.int t]=some (.val (aO n k (jb N t))):=by
 have lN:=h.rc.len
 apply Wr.eq
 unfold uF
 (refine Dm.Wr.fn ?_ rfl rfl;dsimp only [List.map,List.replicate,List.cons_append,List.nil_append])
 refine Ws.seq (Ws.E (We.F (Was.cons (We.v rfl (Was.nil (WF.val (b5 n k z.n1 z.n10 z.k1 z.k6 N h) ?_ rfl rfl))))))
 refine Ws.R (We.T (Was.cons (We.e2 (We.v rfl (We.c (Wg2.ix (v:=.int (n:Nat)) ?_ rfl rfl rfl))))))
 refine Was.cons (We.e2 (We.v rfl (We.c (Wg2.ix (v:=.int (k:Nat)) ?_ rfl rfl rfl))))
 refine Was.cons (We.F (Was.cons (We.e2 (We.v rfl (We.c (Wg2.ix (v:=aC N) ?_ rfl rfl rfl))))))
 refine Was.cons (We.v rfl (Was.nil (WF.box (ze N (by omega) t) ?_ rfl rfl rfl rfl)))
 exact Was.nil (WT.mk rfl rfl rfl (Nat.le_of_ble_eq_true rfl))
theorem wu {n k j:Nat} (z:Sz n k) (j1:1≤j) (jk:j≤k) {N:List Tie} (h:Net n k N):uG [aO n k N,.int (j:Nat)]=some (.val (aO n j (NN j N))):=by
 have lN:=h.rc.len
 have k6:=z.k6
 have el:uE [aO n k N,.int (j:Nat)]=some (.val .non):=by
  apply Wr.eq
  unfold uE
  (refine Dm.Wr.fn ?_ rfl rfl;dsimp only [List.map,List.replicate,List.cons_append,List.nil_append])
  refine Ws.seq (Ws.E (We.F (Was.cons (We.v rfl (Was.nil (WF.val (b5 n k z.n1 z.n10 z.k1 z.k6 N h) ?_ rfl rfl))))))
  refine Ws.If (Wt.Not (Wt.V (We.F (Was.cons (We.v rfl (Was.cons (We.c (Was.cons (We.e2 (We.v rfl (We.c (Wg2.ix (v:=.int (k:Nat)) ?_ rfl rfl rfl))))))))))))
  exact Was.nil (WF.val (cB j 1 k (by omega) (by omega)) (Wb.mk (Wif.f (Ws.nx rfl))) rfl rfl)
 apply Wr.eq
 unfold uG
 (refine Dm.Wr.fn ?_ rfl rfl;dsimp only [List.map,List.replicate,List.cons_append,List.nil_append])
 refine Ws.seq (Ws.E (We.F (Was.cons (We.v rfl (Was.cons (We.v rfl (Was.nil (WF.val el ?_ rfl rfl))))))))
 refine Ws.R (We.F (Was.cons (We.e2 (We.v rfl (We.c (Wg2.ix (v:=.int (n:Nat)) ?_ rfl rfl rfl))))))
 refine Was.cons (We.e2 (We.v rfl (We.c (Wg2.ix (v:=aC N) ?_ rfl rfl rfl))))
 exact Was.cons (We.v rfl (Was.nil (WF.box (g7 n j z.n10 j1 (by omega) N h.rc.ends (by omega)) rfl rfl rfl rfl rfl)))
noncomputable def fM (a b x:Int):Int:=if x=b then a else x
noncomputable def gM (a b:Int) (t:Tie):Tie:=BG ⟨t.m,fM a b t.a,fM a b t.b⟩
theorem uS (a b:Int):su (fM a b) (gM a b):=fun t=>by
 unfold gM BG
 dsimp only
 by_cases h:fM a b t.b<fM a b t.a
 ·right
  rw [if_pos h,if_neg (by omega)]
  exact ⟨rfl,rfl⟩
 ·left
  rw [if_neg h]
  refine ⟨rfl,?_⟩
  split<;>omega
theorem CL {r:List Tie} (a b:Int) (h:dJ r):dJ (r.map (gM a b)):=by
 rw [dJ,List.pairwise_map]
 exact h
theorem uT {n:Nat} {r:List Tie} (h:Ends n r) {a b:Int} (a0:0≤a) (a1:a<n):Ends n (r.map (gM a b)):=fun t ht=>by
 obtain ⟨u,hu,rfl⟩:=List.mem_map.mp ht
 obtain ⟨h1,h2,h3,h4⟩:=h u hu
 have f1:∀ x:Int,0≤x→x<n→0≤fM a b x∧fM a b x<n:=fun x x0 x1=>by
  unfold fM
  split
  ·exact ⟨a0,a1⟩
  ·exact ⟨x0,x1⟩
 have p:=f1 u.a h1 h2
 have q:=f1 u.b h3 h4
 rcases uS a b u with ⟨e1,e2⟩ | ⟨e1,e2⟩<;>rw [e1,e2]
 ·exact ⟨p.1,p.2,q.1,q.2⟩
 ·exact ⟨q.1,q.2,p.1,p.2⟩
theorem BL {k:Nat} {r:List Tie} (h:dJ r) (a b:Int):NN k ((NN k r).map (gM a b))=NN k (r.map (gM a b)):=by
 have nd:(r.map (gM a b)).Nodup:=(CL a b h).imp fun {t u} q e=>by rw [e] at q;omega
 exact nZ ((bL k r).map _) nd fun t ht=>E_ (uS a b) nd ht
theorem zf (t:Tie) (a b:Int):uI [aK t,.int a,.int b]=some (.val (aK (gM a b t))):=by
 apply Wr.eq
 unfold uI
 (refine Dm.Wr.fn ?_ rfl rfl;dsimp only [List.map,List.replicate,List.cons_append,List.nil_append])
 have one:∀ (i:Int) (x:Int) {Q:Val→Env→Prop},gIx (aK t) (.int i)=some (.val (.int x))→Q (.val (.int (fM a b x))) [.sh (aK t),.sh (.int a),.sh (.int b)] →
   We (eIf (tV (e2 gEq (e2 gIx (eV 0) (eC (.int i))) (eV 2))) (eV 1) (e2 gIx (eV 0) (eC (.int i)))) [.sh (aK t),.sh (.int a),.sh (.int b)] Q:=fun i x Q hx q=>by
  refine We.If (Wt.V (We.e2 (We.e2 (We.v rfl (We.c (Wg2.ix (v:=.int x) (We.v rfl (Wg2.eq (Wb.mk (Wif.dec (fun e=>?_) fun e=>?_)) rfl rfl)) rfl rfl hx))))))
  ·refine We.v rfl ?_
   unfold fM at q
   rw [if_pos e] at q
   exact q
  ·refine We.e2 (We.v rfl (We.c (Wg2.ix (v:=.int x) ?_ rfl rfl hx)))
   unfold fM at q
   rw [if_neg e] at q
   exact q
 refine Ws.R (We.F (Was.cons (We.T (Was.cons (We.e2 (We.v rfl (We.c (Wg2.ix (v:=.int t.m) ?_ rfl rfl rfl))))))))
 refine Was.cons (one 1 t.a rfl (Was.cons (one 2 t.b rfl (Was.nil (WT.mk ?_ rfl rfl (Nat.le_of_ble_eq_true rfl))))))
 exact Was.nil (WF.box (rT ⟨t.m,fM a b t.a,fM a b t.b⟩) rfl rfl rfl rfl rfl)
theorem zg {n k:Nat} (z:Sz n k) {N:List Tie} (h:Net n k N) {a b:Int} (a0:0≤a) (a1:a<n) (b0:0≤b) (b1:b<n) (hab:a≠b):uJ [aO n k N,.int a,.int b]=some (.val (aO n k (NN k (N.map (gM a b))))):=by
 have lN:=h.rc.len
 apply Wr.eq
 unfold uJ
 (refine Dm.Wr.fn ?_ rfl rfl;dsimp only [List.map,List.replicate,List.cons_append,List.nil_append])
 refine Ws.seq (Ws.E (We.F (Was.cons (We.v rfl (Was.nil (WF.val (b5 n k z.n1 z.n10 z.k1 z.k6 N h) ?_ rfl rfl))))))
 refine Ws.seq (Ws.E (We.F (Was.cons (We.e2 (We.v rfl (We.c (Wg2.ix (v:=.int (n:Nat)) ?_ rfl rfl rfl)))))))
 refine Was.cons (We.v rfl (Was.cons (We.v rfl (Was.nil (WF.val (n5 n a b a0 a1 b0 b1 hab) ?_ rfl rfl)))))
 refine Ws.R (We.F (Was.cons (We.e2 (We.v rfl (We.c (Wg2.ix (v:=.int (n:Nat)) ?_ rfl rfl rfl))))))
 refine Was.cons (We.Map aK N (gM a b) aK (ρ1:=[.sh (aO n k N),.sh (.int a),.sh (.int b)]) ?_ ?_ rfl (by decide) (by unfold SZ;omega) fun u hu=>?_)
 ·refine Was.cons (We.e2 (We.v rfl (We.c (Wg2.ix (v:=.int (k:Nat)) ?_ rfl rfl rfl))))
  exact Was.nil (WF.box (g7 n k z.n10 z.k1 z.k6 (N.map (gM a b)) (uT h.rc.ends a0 a1) (by rw [List.length_map];omega)) rfl rfl rfl rfl rfl)
 ·exact Wi.get (Wi.S (We.e2 (We.v rfl (We.c (Wg2.ix (v:=aC N) (Wk.val ⟨_,rfl,rfl,rfl⟩) rfl rfl rfl)))))
 ·exact We.F (Was.cons (We.v rfl (Was.cons (We.v rfl (Was.cons (We.v rfl (Was.nil (WF.box (zf u a b) (Wk.val ⟨rfl,rfl⟩) rfl rfl rfl rfl))))))))
structure Thr (r A B C:List Tie):Prop where
 a:A.Sublist r
 b:B.Sublist r
 c:C.Sublist r
 all:∀ t∈r,t∈A∨t∈B∨t∈C
theorem Fd (n k:Nat) (r:List Tie):eqD (aO n k r) (aO n k r)=true:=by
 unfold aO
 simp only [eqD,lI,beq_self_eq_true,Bool.true_and,Bool.and_true]
 exact E2 r
theorem BN (r:List Tie):okD 7 (aC r)=true:=by
 unfold aC okD
 rw [List.all_eq_true]
 intro x hx
 obtain ⟨t,_,rfl⟩:=List.mem_map.mp hx
 rfl
theorem Fe (n k:Nat) (r:List Tie):okD 8 (aO n k r)=true:=by
 unfold aO okD
 simp only [List.all_cons,List.all_nil,Bool.and_true,BN]
 rfl
theorem Wg2.neN {n k:Nat} {r:List Tie} {o p:Option Dat} {Q:RV→Prop} (q:Q (.val (.bl false))) (ho:o=some (aO n k r)) (hp:p=some (aO n k r)):Wg2 gNe o p Q:=Wg2.E4 (Fe n k r) (Fd n k r) q ho hp
theorem Ff (r:List Tie) (i:Int) (h0:0≤i) (h1:i<r.length):gIx (aC r) (.int i)=some (.val (aK (r[i.toNat]'(by omega)))):=by
 unfold aC gIx
 dsimp only
 rw [Dm.gW aK r i h0 h1]
 rfl
theorem zh (r:List Tie) (t:Tie):gIx (aC (r++[t])) (.int (-1))=some (.val (aK t)):=by
 unfold aC gIx atI ixN
 dsimp only
 rw [List.length_map,List.length_append,List.length_singleton,if_neg (by decide),if_pos (by omega)]
 have:(-1+((r.length+1:Nat):Int)).toNat=r.length:=by omega
 rw [this]
 simp
theorem lQ (x:Int) (r:List Tie) (hr:∀ t∈r,0≤t.m) (hl:r.length≤1000):∃ (t x':Int),pZ [aJ x,aC r]=some (.val (.int t),aJ x')∧0≤t:=by
 suffices h:WrM (pZ [aJ x,aC r]) fun v d=>∃ t x':Int,v=.val (.int t)∧d=aJ x'∧0≤t by
  obtain ⟨v,d,h1,n,x',rfl,rfl,h2⟩:=h
  exact ⟨n,x',h1,h2⟩
 unfold pZ
 refine WrM.fn ?_ rfl rfl
 dsimp only [List.map,List.replicate,List.cons_append,List.nil_append]
 refine Ws.seq (Ws.If (Wt.V (We.e2 (We.v rfl (We.L (Was.nil (WT.mk ?_ rfl rfl (by decide))))))))
 refine Wg2.CH (xs:=r.map aK) (Wb.mk ?_) rfl rfl (E3 r)
 rcases List.eq_nil_or_concat r with e | ⟨r0,tl,e⟩
 ·subst e
  refine Wif.yes rfl ?_
  refine Ws.R ?_
  refine We.drw (m:=3) rfl (by decide) (by decide) rfl fun t x' h0 h1 ρ3 e=>?_
  subst e
  exact ⟨_,rfl,t,x',rfl,rfl,h0⟩
 ·rw [List.concat_eq_append] at e
  have hne:(r.map aK).isEmpty=false:=by rw [e];simp
  rw [hne]
  refine Wif.no rfl (Ws.nx ?_)
  have hlen:r.length=r0.length+1:=by rw [e];simp
  refine Ws.cut (fun ρ=>∃ (at_ x1:Int),0≤at_∧ρ=[.ow (aJ x1),.sh (aC r),.sh (.int at_)]) ?_ ?_
  ·refine Ws.A (We.e2 (We.e2 (We.v rfl ?_))) (by decide)
   refine We.take (We.B (Was.cons (We.v rfl (Was.nil (WB.yH (enc:=aK) (xs:=r) (cy.mk ?_) rfl))))) rfl
   refine uL ?_ rfl rfl (by omega) (by unfold dX;omega)
   have hi:=cM x r.length (by omega)
   refine Wg2.ix ?_ rfl rfl (Ff r _ hi.1 hi.2)
   refine We.c (Wg2.ix ?_ rfl rfl rfl)
   exact WA.val ⟨_,_,hr _ (List.getElem_mem _),rfl⟩ (by first | (dsimp only [List.set];first | done | rfl) | rfl)
  rintro ρ ⟨at_,x1,ha,rfl⟩
  refine Ws.R (We.e2 ?_)
  refine We.L (Was.cons (We.c (Was.cons (We.v rfl (Was.cons (We.e2 (We.v rfl (We.c (Wg2.add ?_ rfl rfl)))))))))
  refine Was.cons (We.B (Was.cons (We.c (Was.cons (We.e2 (We.v rfl (We.c (Wg2.sub ?_ rfl rfl))))))))
  refine Was.nil (WB.max2 ?_ rfl)
  refine Was.cons (We.e2 (We.e2 (We.e2 (We.v rfl (We.e1 (We.c (Wg1.mk ?_ rfl rfl)))))))
  refine Wg2.ix ?_ rfl rfl (by rw [e];exact zh r0 tl)
  refine We.c (Wg2.ix ?_ rfl rfl rfl)
  refine We.c (Wg2.add ?_ rfl rfl)
  refine Was.cons (We.v rfl (Was.nil (WT.mk ?_ rfl rfl (by exact Nat.le_of_ble_eq_true rfl))))
  refine We.drw (m:=6) rfl (by decide) (by decide) rfl fun t x' h0 h1 ρ3 e'=>?_
  subst e'
  have htl:0≤tl.m:=hr tl (by rw [e];simp)
  have:t=0∨t=1∨t=2∨t=3∨t=4∨t=5:=by omega
  rcases this with rfl | rfl | rfl | rfl | rfl | rfl
  ·exact Wg2.ix (⟨_,rfl,_,x',rfl,rfl,by decide⟩) rfl rfl rfl
  ·exact Wg2.ix (⟨_,rfl,_,x',rfl,rfl,ha⟩) rfl rfl rfl
  ·exact Wg2.ix (⟨_,rfl,_,x',rfl,rfl,by omega⟩) rfl rfl rfl
  ·exact Wg2.ix (⟨_,rfl,_,x',rfl,rfl,by split<;>omega⟩) rfl rfl rfl
  ·exact Wg2.ix (⟨_,rfl,_,x',rfl,rfl,by omega⟩) rfl rfl rfl
  ·exact Wg2.ix (⟨_,rfl,_,x',rfl,rfl,ha⟩) rfl rfl rfl
theorem step_at {gs:List (Int→Int)} {t:Tie} {i:Nat} {f:Int→Int} (hi:gs[i]?=some f) (hd:f t.a≠f t.b) (hb:∀ j f',j<i→gs[j]?=some f'→f' t.a=f' t.b):bx t.a t.b 0 gs=((i:Nat):Int)+1∧i6 gs t=gs.set i (mgf f t.a t.b):=by
 have e:bx t.a t.b 0 gs=((i:Nat):Int)+1:=by
  rcases b4 t.a t.b gs 0 with ⟨_,h2⟩ | ⟨j,f',h1,h2,h3,h4⟩
  ·exact absurd (h2 f (List.mem_of_getElem? hi)) hd
  ·rcases Nat.lt_trichotomy i j with q | q | q
   ·exact absurd (h4 i f q hi) hd
   ·subst q
    rw [h2,Nat.zero_add]
   ·exact absurd (hb j f' q h1) h3
 refine ⟨e,?_⟩
 unfold i6
 rw [e,if_pos (by omega)]
 have z:(((i:Nat):Int)+1-1).toNat=i:=by omega
 rw [z,List.getD_eq_getElem?_getD,hi]
 rfl
theorem BO {gs:List (Int→Int)} {t:Tie} (hb:∀ (j:Nat) f',gs[j]?=some f'→f' t.a=f' t.b):bx t.a t.b 0 gs=0∧i6 gs t=gs:=by
 have e:bx t.a t.b 0 gs=0:=by
  rcases b4 t.a t.b gs 0 with ⟨h1,_⟩ | ⟨j,f',h1,h2,h3,h4⟩
  ·exact h1
  ·exact absurd (hb j f' h1) h3
 refine ⟨e,?_⟩
 unfold i6
 rw [e,if_neg (by omega)]
theorem n6 (n:Nat):ups 0 n=(List.range n).map fun i:Nat=>Dat.int ((i:Nat):Int):=by
 unfold ups
 apply List.map_congr_left
 intro i _
 simp
theorem sC (n:Nat) (gs:List (Int→Int)) {i:Nat} {f:Int→Int} (h:gs[i]?=some f):gIx (.lst (gs.map (lab n))) (.int (i:Nat))=some (.val (lab n f)):=by
 have:=CJ n gs h
 rw [Int.zero_add] at this
 exact this
theorem BP {n k:Nat} (hn:n≤10) (hk:k≤6) {R:Dat} {gs:List (Int→Int)} (hg:gs.length=k) {K:List Tie} (hK:K.length<1000) {t:Tie} (a0:0≤t.a) (a1:t.a<n) (b0:0≤t.b) (b1:t.b<n) (c6 c7 c8:Cell) {N:Env→Prop} {Rt:RV→Env→Prop} {B C:Env→Prop}
  (nx:∀ c6 c7 c8,N [.sh (.int (n:Nat)),.sh R,.sh (.int (k:Nat)),.ow (.lst ((i6 gs t).map (lab n))),.ow (aC (if 0<bx t.a t.b 0 gs then K++[t] else K)),.sh (aK t),c6,c7,c8]) :
  Ws sj [.sh (.int (n:Nat)),.sh R,.sh (.int (k:Nat)),.ow (.lst (gs.map (lab n))),.ow (aC K),.sh (aK t),c6,c7,c8] N Rt B C:=by
 have sz:1000≤SZ:=by decide
 unfold sj
 refine Ws.For (Wi.R1 (We.v rfl (cy.mk ⟨?_,by unfold BIG;omega,by unfold BIG;omega⟩)))
 rw [Int.toNat_natCast,n6]
 refine Ws.inv (fun i:Nat=>Dat.int ((i:Nat):Int)) _ _ (List.range k) _ _ _ _ _ (fun p q ρ=>(∀ j f,j<p.length→gs[j]?=some f→f t.a=f t.b)∧∃ c6 c7 c8:Cell,ρ=[.sh (.int (n:Nat)),.sh R,.sh (.int (k:Nat)),.ow (.lst (gs.map (lab n))),.ow (aC K),.sh (aK t),c6,c7,c8]) ⟨fun j f h=>absurd h (Nat.not_lt_zero _),_,_,_,rfl⟩ ?_ ?_
 ·rintro p i q ρ e ⟨hb,c6,c7,c8,rfl⟩
  obtain ⟨ip,ik⟩:=jX e
  have ig:i<gs.length:=by omega
  have hi:gs[i]?=some gs[i]:=List.getElem?_eq_getElem ig
  generalize gs[i]=f at hi
  refine Dm.bY rfl (by first | (dsimp only [List.set];first | done | rfl) | rfl) ?_
  unfold yQ
  refine Ws.seq (Ws.A (We.e2 (We.e2 (We.w rfl (We.v rfl (Wg2.ix (v:=lab n f) ?_ rfl rfl (sC n gs hi)))))) (by decide))
  refine We.e2 (We.v rfl (We.c (Wg2.ix (v:=.int t.a) (Wg2.ix (v:=.int (f t.a)) (WA.val ?_ (by first | (dsimp only [List.set];first | done | rfl) | rfl)) rfl rfl (iJ n f t.a a0 a1)) rfl rfl rfl)))
  refine Ws.seq (Ws.A (We.e2 (We.e2 (We.w rfl (We.v rfl (Wg2.ix (v:=lab n f) ?_ rfl rfl (sC n gs hi)))))) (by decide))
  refine We.e2 (We.v rfl (We.c (Wg2.ix (v:=.int t.b) (Wg2.ix (v:=.int (f t.b)) (WA.val ?_ (by first | (dsimp only [List.set];first | done | rfl) | rfl)) rfl rfl (iJ n f t.b b0 b1)) rfl rfl rfl)))
  refine Ws.If (Wt.V (We.e2 (We.v rfl (We.v rfl (Wg2.ne (Wb.mk ⟨fun hq=>?_,fun hq=>Ws.nx ?_⟩) rfl rfl)))))
  ·have hd:=ndT hq
   obtain ⟨s1,s2⟩:=step_at hi hd fun j f' hj=>hb j f' (by omega)
   refine Ws.seq (Ws.Set (We.Map Dat.int ((List.range n).map fun (i:Nat)=>f i) (fun x=>if x=f t.b then f t.a else x) Dat.int (ρ1:=[.sh (.int (n:Nat)),.sh R,.sh (.int (k:Nat)),.ow (.lst (gs.map (lab n))),.ow (aC K),.sh (aK t),.sh (.int (i:Nat)),.sh (.int (f t.a)),.sh (.int (f t.b))]) ?_ ?_ rfl (by decide) (by rw [List.length_map,List.length_range];omega) fun x hx=>?_))
   ·refine Wk.new ⟨⟨_,rfl⟩,We.v rfl (cy.mk ⟨gs.map (lab n),i,_,rfl,?_,rfl,?_⟩)⟩
    ·unfold ixN
     rw [List.length_map,if_pos (by omega),if_pos (by omega),Int.toNat_natCast]
    have em:Dat.lst ((((List.range n).map fun (i:Nat)=>f i).map fun x=>if x=f t.b then f t.a else x).map Dat.int)=lab n (mgf f t.a t.b):=by
     unfold lab mgf
     rw [List.map_map,List.map_map]
     rfl
    rw [em,map_set,← s2]
    refine Ws.seq (Ws.App (We.v rfl (Wk.val (jV (ds:=K.map aK) (Ws.bk ?_) rfl rfl (by rw [List.length_map];omega)))) rfl)
    have:=nx (.sh (.int (i:Nat))) (.sh (.int (f t.a))) (.sh (.int (f t.b)))
    rw [s1,if_pos (by omega)] at this
    unfold aC at this
    rw [List.map_append] at this
    exact this
   ·exact Wi.get (Wi.S (We.e2 (We.w rfl (We.v rfl (Wg2.ix (v:=lab n f) (Wk.val ⟨_,rfl,by rw [List.map_map];rfl,rfl⟩) rfl rfl (sC n gs hi))))))
   ·refine We.If (Wt.V (We.e2 (We.v rfl (We.v rfl (Wg2.eq (Wb.mk (Wif.dec (fun e=>?_) fun e=>?_)) rfl rfl)))))
    ·refine We.v rfl (Wk.val ⟨?_,rfl⟩)
     rw [if_pos e]
    ·refine We.v rfl (Wk.val ⟨?_,rfl⟩)
     rw [if_neg e]
  ·refine ⟨fun j f' hj hf=>?_,_,_,_,rfl⟩
   rw [List.length_append] at hj
   by_cases ej:j<p.length
   ·exact hb j f' ej hf
   ·have:j=i:=by simp at hj;omega
    subst this
    rw [hi] at hf
    cases hf
    exact ndF hq
 ·rintro ρ ⟨hb,c6,c7,c8,rfl⟩
  have all:∀ (j:Nat) f',gs[j]?=some f'→f' t.a=f' t.b:=fun j f' hf=>hb j f' (by
   rw [List.length_range,← hg]
   exact (List.getElem?_eq_some_iff.mp hf).1) hf
  obtain ⟨s1,s2⟩:=BO all
  have:=nx c6 c7 c8
  rw [s1,s2,if_neg (by omega)] at this
  exact this
theorem zj {r:List Tie} (h:dJ r) (hl:r.length≤63) {o:Option (List Dat)} {K:RV→Prop} (k:K (.new (aC r))) (ho:o=some [aC r]):WB eT o K:=⟨_,_,ho,by
 rw [je]
 unfold eT
 dsimp only
 rw [iK _ fun ns hn=>by obtain ⟨t,_,rfl⟩:=List.mem_map.mp hn;exact List.cons_ne_nil _ _]
 dsimp only
 rw [if_pos (by rw [List.length_map];exact hl),uN (List.Perm.refl _) h.sorted,← je],k⟩
theorem mO {n k:Nat} (z:Sz n k) {r:List Tie} (hr:Rcd n r):p5 [.int (n:Nat),aC r,.int (k:Nat)]=some (.val (aO n k (NN k r))):=by
 have lr:=hr.len
 have n10:=z.n10
 have k6:=z.k6
 apply Wr.eq
 unfold p5
 (refine Dm.Wr.fn ?_ rfl rfl;dsimp only [List.map,List.replicate,List.cons_append,List.nil_append])
 refine Ws.seq (Ws.A (We.Map (fun i:Nat=>Dat.int ((i:Nat):Int)) (List.range k) (fun _=>(fun x:Int=>x)) (lab n) (ρ1:=[.sh (.int (n:Nat)),.sh (aC r),.sh (.int (k:Nat)),.un,.un,.un,.un,.un,.un]) ?_ ?_ rfl (by decide) (by rw [List.length_range];unfold SZ;omega) fun i _=>?_) (by decide))
 rotate_left
 ·exact Wi.get (Wi.R1 (We.v rfl (cy.mk ⟨⟨by rw [Int.toNat_natCast,n6],rfl⟩,by unfold BIG;omega,by unfold BIG;omega⟩)))
 ·refine We.B (Was.cons (We.v rfl (Was.nil (WB.HY (Wk.new ⟨?_,rfl⟩) rfl (by omega)))))
  rw [Int.toNat_natCast,yU]
 refine WA.new ?_ (by first | (dsimp only [List.set];first | done | rfl) | rfl)
 refine Ws.seq (Ws.A (We.L (Was.nil (WT.mk ?_ rfl rfl (by decide)))) (by decide))
 refine WA.new ?_ (by first | (dsimp only [List.set];first | done | rfl) | rfl)
 refine Ws.seq (Ws.For (Wi.S (We.e1 (We.B (Was.cons (We.v rfl (Was.nil (zj hr.up (by omega) ?_ rfl))))))))
 refine Wg1.EW (enc:=aK) (xs:=r) (Wk.new ⟨_,rfl,?_⟩) rfl
 refine Ws.inv aK _ _ r.reverse _ _ _ _ _ (fun p q ρ=>∃ (gs:List (Int→Int)) (ms:List Int) (c5 c6 c7 c8:Cell),ρ=[.sh (.int (n:Nat)),.sh (aC r),.sh (.int (k:Nat)),.ow (.lst (gs.map (lab n))),.ow (aC (keep p.reverse ms).reverse),c5,c6,c7,c8]∧jY k gs p.reverse ms∧aP k p.reverse ms) ⟨_,[],_,_,_,_,rfl,EZ k,trivial⟩ ?_ ?_
 ·rintro p t q ρ e ⟨gs,ms,c5,c6,c7,c8,rfl,hI,hA⟩
  have tr:t∈r:=List.mem_reverse.mp (e▸List.mem_append_right _ List.mem_cons_self)
  have lp:p.length<60:=by
   have:=congrArg List.length e
   simp at this
   omega
  obtain ⟨h1,h2,h3,h4⟩:=hr.ends t tr
  have lk:=(cG p.reverse ms).length_le
  refine Dm.bY rfl (by first | (dsimp only [List.set];first | done | rfl) | rfl) ?_
  refine BP n10 k6 hI.1 (by rw [List.length_reverse];rw [List.length_reverse] at lk;omega) h1 h2 h3 h4 _ _ _ fun c6 c7 c8=>?_
  refine ⟨i6 gs t,bx t.a t.b 0 gs::ms,.sh (aK t),c6,c7,c8,?_,?_,?_⟩
  ·rw [List.reverse_append,List.reverse_singleton,List.singleton_append,aQ]
   split
   ·rw [List.reverse_cons]
   ·rfl
  ·rw [List.reverse_append,List.reverse_singleton,List.singleton_append]
   exact hI.step t
  ·rw [List.reverse_append,List.reverse_singleton,List.singleton_append]
   exact ⟨hA,hI.num t⟩
 ·rintro ρ ⟨gs,ms,c5,c6,c7,c8,rfl,hI,hA⟩
  rw [List.reverse_reverse] at hA ⊢
  refine Ws.R (We.T (Was.cons (We.v rfl (Was.cons (We.v rfl (Was.cons (We.e1 (We.w rfl (Wg1.EW (enc:=aK) (xs:=(keep r ms).reverse) ?_ rfl)))))))))
  refine Was.nil (WT.mk ?_ rfl rfl (Nat.le_of_ble_eq_true rfl))
  rw [List.reverse_reverse,uP hA]
  rfl
structure Rws (p:List Tie) (rows:List (List Tie)):Prop where
 len:rows.length=3
 sub:∀ (j:Nat) A,rows[j]?=some A→A.Sublist p
 all:∀ t∈p,∃ (j:Nat) (A:List Tie),rows[j]?=some A∧t∈A
structure Rw1 (p:List Tie) (x:Tie) (i:Nat) (rows:List (List Tie)):Prop where
 len:rows.length=3
 sub:∀ (j:Nat) A,rows[j]?=some A→A.Sublist (p++[x])
 old:∀ (j:Nat) A,j≠i→rows[j]?=some A→A.Sublist p
 all:∀ t∈p++[x],∃ (j:Nat) (A:List Tie),rows[j]?=some A∧t∈A
theorem Rws.one {p:List Tie} {rows:List (List Tie)} (h:Rws p rows) (x:Tie) {i:Nat} {A:List Tie} (hA:rows[i]?=some A):Rw1 p x i (rows.set i (A++[x])) where
 len:=by rw [List.length_set];exact h.len
 sub:=fun j B hB=>by
  by_cases e:i=j
  ·subst e
   rw [List.getElem?_set_self (List.getElem?_eq_some_iff.mp hA).1] at hB
   cases hB
   exact List.Sublist.append (h.sub i A hA) (List.Sublist.refl _)
  ·rw [List.getElem?_set_ne e] at hB
   exact (h.sub j B hB).trans (List.sublist_append_left _ _)
 old:=fun j B hj hB=>by
  rw [List.getElem?_set_ne (Ne.symm hj)] at hB
  exact h.sub j B hB
 all:=fun t ht=>by
  rcases List.mem_append.mp ht with q | q
  ·obtain ⟨j,B,hB,hb⟩:=h.all t q
   by_cases e:i=j
   ·subst e
    rw [hA] at hB
    cases hB
    exact ⟨i,_,List.getElem?_set_self (List.getElem?_eq_some_iff.mp hA).1,List.mem_append_left _ hb⟩
   ·exact ⟨j,B,by rw [List.getElem?_set_ne e];exact hB,hb⟩
  ·exact ⟨i,_,List.getElem?_set_self (List.getElem?_eq_some_iff.mp hA).1,List.mem_append_right _ q⟩
theorem Rw1.done {p:List Tie} {x:Tie} {i:Nat} {rows:List (List Tie)} (h:Rw1 p x i rows):Rws (p++[x]) rows:=⟨h.len,h.sub,h.all⟩
theorem Rw1.two {p:List Tie} {x:Tie} {i:Nat} {rows:List (List Tie)} (h:Rw1 p x i rows) {j:Nat} {A:List Tie} (hj:j≠i) (hA:rows[j]?=some A):Rws (p++[x]) (rows.set j (A++[x])) where
 len:=by rw [List.length_set];exact h.len
 sub:=fun l B hB=>by
  by_cases e:j=l
  ·subst e
   rw [List.getElem?_set_self (List.getElem?_eq_some_iff.mp hA).1] at hB
   cases hB
   exact List.Sublist.append (h.old j A hj hA) (List.Sublist.refl _)
  ·rw [List.getElem?_set_ne e] at hB
   exact h.sub l B hB
 all:=fun t ht=>by
  obtain ⟨l,B,hB,hb⟩:=h.all t ht
  by_cases e:j=l
  ·subst e
   rw [hA] at hB
   cases hB
   exact ⟨j,_,List.getElem?_set_self (List.getElem?_eq_some_iff.mp hA).1,List.mem_append_left _ hb⟩
  ·exact ⟨l,B,by rw [List.getElem?_set_ne e];exact hB,hb⟩
theorem zk {rows:List (List Tie)} (hr:rows.length=3) {i:Nat} (hi:i<3) {k:Int} (hk:k=(i:Nat)) {A:List Tie} (hA:rows[i]?=some A) (lA:A.length<1000) {x:Tie} {f:FE} {ρ ρ1:Env} {s:Nat} (hx:ρ1[s]?=some (.sh (aK x))) (hf:f ρ=some (.val (.int k),ρ1)) {Q:Env→List (List Dat)→Prop}
  (q:Q ρ1 ((rows.set i (A++[x])).map fun A=>A.map aK)):Wn (o_ f (eV s)) ρ (rows.map fun A=>A.map aK) Q:=by
 have sz:1000≤SZ:=by decide
 refine Wn.App ⟨_,_,hf,cy.mk ⟨i,A.map aK,?_,?_,by rw [List.length_map];omega,We.v hx (Wk.val ?_)⟩⟩
 ·unfold ixN
  rw [List.length_map,hr,hk,if_pos (by omega),if_pos (by omega)]
  simp
 ·rw [List.getElem?_map,hA]
  rfl
 ·rw [List.map_set,List.map_append] at q
  exact q
theorem zl {r:List Tie} {rows:List (List Tie)} (h:Rws r rows):∃ A B C:List Tie,rows=[A,B,C]∧Thr r A B C:=by
 obtain ⟨l,s,a⟩:=h
 match rows,l with
 | [A,B,C],_=>
  refine ⟨A,B,C,rfl,s 0 A rfl,s 1 B rfl,s 2 C rfl,fun t ht=>?_⟩
  obtain ⟨j,D,hD,hd⟩:=a t ht
  match j,hD with
  | 0,hD=>cases hD;exact .inl hd
  | 1,hD=>cases hD;exact .inr (.inl hd)
  | 2,hD=>cases hD;exact .inr (.inr hd)
  | n+3,hD=>cases hD
theorem wz (x:Int) (r:List Tie) (hl:r.length≤60):∃ (A B C:List Tie) (x':Int),p6 [aJ x,aC r]=some (.new (.lst [aC A,aC B,aC C]),aJ x')∧Thr r A B C:=by
 suffices hh:WrM (p6 [aJ x,aC r]) fun v d'=>∃ (A B C:List Tie) (x':Int),v=.new (.lst [aC A,aC B,aC C])∧d'=aJ x'∧Thr r A B C by
  obtain ⟨v,d',h1,A,B,C,x',rfl,rfl,h2⟩:=hh
  exact ⟨A,B,C,x',h1,h2⟩
 unfold p6
 refine WrM.fn ?_ rfl rfl
 dsimp only [List.map,List.replicate,List.cons_append,List.nil_append]
 refine Ws.seq (Ws.HZ (Wn.For (Wi.S (We.v rfl (Wk.val ⟨_,rfl,?_⟩)))) (by decide) (by first | (dsimp only [List.set];first | done | rfl) | rfl))
 refine Wn.inv aK _ _ _ (fun p q ρ rw=>∃ (rows:List (List Tie)) (x:Int) (c3 c4:Cell),ρ=[.ow (aJ x),.sh (aC r),.un,c3,c4]∧rw=rows.map (fun A=>A.map aK)∧Rws p rows∧p++q=r) r [] _ _ ⟨[[],[],[]],x,_,_,rfl,rfl,⟨rfl,fun j A hA=>?_,fun t ht=>by cases ht⟩,rfl⟩ ?_ ?_
 ·have:=List.mem_of_getElem? hA
  simp at this
  subst this
  exact List.Sublist.refl _
 ·rintro p t q ρ rw ⟨rows,x,c3,c4,rfl,rfl,hR,e⟩
  have pl:p.length<60:=by
   have:=congrArg List.length e
   simp at this
   omega
  refine ⟨_,rfl,?_⟩
  unfold yR
  refine Wn.seq (Wn.A (by decide) ?_ (by decide))
  refine We.drw (m:=3) rfl (by decide) (by decide) rfl fun v x2 v0 v1 ρ3 e3=>?_
  subst e3
  refine WA.val ?_ (by first | (dsimp only [List.set];first | done | rfl) | rfl)
  have hi:v.toNat<rows.length:=by rw [hR.len];omega
  have hA:rows[v.toNat]?=some rows[v.toNat]:=List.getElem?_eq_getElem hi
  generalize rows[v.toNat]=A at hA
  have lA:=(hR.sub _ A hA).length_le
  refine Wn.seq (zk hR.len (by omega) (Int.toNat_of_nonneg v0).symm hA (by omega) rfl rfl ?_)
  have h1:=hR.one t hA
  generalize rows.set v.toNat (A++[t])=qe at h1
  refine Wn.If (Wt.V (We.e2 ?_))
  refine We.drw (m:=5) rfl (by decide) (by decide) rfl fun w x3 w0 w1 ρ3 e3=>?_
  subst e3
  refine We.c (Wg2.eq (Wb.mk (Wif.dec (fun _=>?_) fun _=>Wn.nx ⟨qe,x3,_,_,rfl,rfl,h1.done,by rw [List.append_assoc];exact e⟩)) rfl rfl)
  have em:(v+1) % 3=(((v+1) % 3).toNat:Nat):=(Int.toNat_of_nonneg (by omega)).symm
  have hj:((v+1) % 3).toNat<qe.length:=by rw [h1.len];omega
  have hB:qe[((v+1) % 3).toNat]?=some qe[((v+1) % 3).toNat]:=List.getElem?_eq_getElem hj
  generalize qe[((v+1) % 3).toNat]=B at hB
  have lB:=(h1.sub _ B hB).length_le
  rw [List.length_append] at lB
  simp at lB
  refine zk h1.len (by omega) em hB (by omega) (ρ1:=[.ow (aJ x3),.sh (aC r),.un,.sh (aK t),.sh (.int v)]) rfl ?_ ?_
  ·exact We.get (We.e2 (We.e2 (We.v rfl (We.c (Wg2.add (We.c (Wg2.mod ⟨rfl,rfl⟩ rfl rfl (by decide))) rfl rfl)))))
  ·exact ⟨_,x3,_,_,rfl,rfl,h1.two (by omega) hB,by rw [List.append_assoc];exact e⟩
 ·rintro p ρ rw ⟨rows,x,c3,c4,rfl,rfl,hR,e⟩
  rw [List.append_nil] at e
  subst e
  obtain ⟨A,B,C,rfl,hT⟩:=zl hR
  refine Ws.R (We.w rfl (WR.slot ?_ rfl))
  exact ⟨_,rfl,A,B,C,x,rfl,rfl,hT⟩
noncomputable def dQ (n k:Nat) (A B C:List Tie):Dat:=.lst [aO n k (NN k A),aO n k (NN k B),aO n k (NN k C)]
theorem Ia {r A B C:List Tie} (h:Thr r A B C) (n k:Nat) (v:Int) (v0:0≤v) (v1:v<3):∃ X Y Z:List Tie,gIx (dQ n k A B C) (.int v)=some (.val (aO n k (NN k X)))∧gIx (dQ n k A B C) (.int ((v+1) % 3))=some (.val (aO n k (NN k Y)))∧gIx (dQ n k A B C) (.int ((v+2) % 3))=some (.val (aO n k (NN k Z)))∧Thr r X Y Z:=by
 have:v=0∨v=1∨v=2:=by omega
 rcases this with rfl | rfl | rfl
 ·exact ⟨A,B,C,rfl,rfl,rfl,h⟩
 ·exact ⟨B,C,A,rfl,rfl,rfl,h.b,h.c,h.a,fun t ht=>by
   rcases h.all t ht with q | q | q
   ·exact .inr (.inr q)
   ·exact .inl q
   ·exact .inr (.inl q)⟩
 ·exact ⟨C,A,B,rfl,rfl,rfl,h.c,h.a,h.b,fun t ht=>by
   rcases h.all t ht with q | q | q
   ·exact .inr (.inl q)
   ·exact .inr (.inr q)
   ·exact .inl q⟩
theorem sD {n k:Nat} (z:Sz n k) {r A B C:List Tie} (hr:Rcd n r) (h:Thr r A B C) (x:Int):∃ x':Int,p7 [aJ x,dQ n k A B C]=some (.val (aO n k (NN k r)),aJ x'):=by
 suffices hh:WrM (p7 [aJ x,dQ n k A B C]) fun v d'=>∃ x':Int,v=.val (aO n k (NN k r))∧d'=aJ x' by
  obtain ⟨v,d',h1,x',rfl,rfl⟩:=hh
  exact ⟨x',h1⟩
 unfold p7
 refine WrM.fn ?_ rfl rfl
 dsimp only [List.map,List.replicate,List.cons_append,List.nil_append]
 refine Ws.seq (Ws.A ?_ (by decide))
 refine We.drw (m:=3) rfl (by decide) (by decide) rfl fun v x2 v0 v1 ρ3 e3=>?_
 subst e3
 refine WA.val ?_ (by first | (dsimp only [List.set];first | done | rfl) | rfl)
 obtain ⟨X,Y,Z,eX,eY,eZ,hT⟩:=Ia h n k v v0 v1
 refine Ws.seq (Ws.A (We.e2 (We.v rfl (We.v rfl (Wg2.ix (v:=aO n k (NN k X)) (WA.val ?_ (by first | (dsimp only [List.set];first | done | rfl) | rfl)) rfl rfl eX)))) (by decide))
 refine Ws.seq (Ws.A (We.e2 (We.v rfl (We.e2 (We.e2 (We.v rfl (We.c (Wg2.add (We.c (Wg2.mod ?_ rfl rfl (by decide))) rfl rfl))))))) (by decide))
 refine Wg2.ix (v:=aO n k (NN k Y)) (WA.val ?_ (by first | (dsimp only [List.set];first | done | rfl) | rfl)) rfl rfl eY
 refine Ws.seq (Ws.A (We.e2 (We.v rfl (We.e2 (We.e2 (We.v rfl (We.c (Wg2.add (We.c (Wg2.mod ?_ rfl rfl (by decide))) rfl rfl))))))) (by decide))
 refine Wg2.ix (v:=aO n k (NN k Z)) (WA.val ?_ (by first | (dsimp only [List.set];first | done | rfl) | rfl)) rfl rfl eZ
 have e1:two r (two r X Y) Z=r:=two_all fun t ht=>by
  rw [two_mem hT.a hT.b]
  rcases hT.all t ht with q | q | q
  ·exact .inl (.inl q)
  ·exact .inl (.inr q)
  ·exact .inr q
 have e2:two r X (two r Y Z)=r:=two_all fun t ht=>by
  rw [two_mem hT.b hT.c]
  exact hT.all t ht
 have e3:two r Z r=r:=two_all fun t ht=>.inr ht
 refine Ws.cut (fun ρ=>∃ x3:Int,ρ=[.ow (aJ x3),.sh (dQ n k A B C),.sh (.int v),.sh (aO n k (NN k X)),.sh (aO n k (NN k Y)),.sh (aO n k (NN k Z)),.sh (aO n k (NN k r))]) ?_ ?_
 ·refine Ws.If (Wt.V (We.e2 ?_))
  refine We.drw (m:=2) rfl (by decide) (by decide) rfl fun w x3 w0 w1 ρ3 e3=>?_
  subst e3
  refine We.c (Wg2.eq (Wb.mk (Wif.dec (fun _=>?_) fun _=>?_)) rfl rfl)
  ·refine Ws.A (We.F (Was.cons (We.v rfl (Was.cons (We.F ?_))))) (by decide)
   refine Was.cons (We.v rfl (Was.cons (We.v rfl (Was.nil (WF.box (qd z hr hT.b hT.c) ?_ rfl rfl rfl rfl)))))
   refine Was.nil (WF.box (qd z hr hT.a (two_sub r Y Z)) ?_ rfl rfl rfl rfl)
   rw [e2]
   exact WA.val ⟨x3,rfl⟩ (by first | (dsimp only [List.set];first | done | rfl) | rfl)
  ·refine Ws.A (We.F (Was.cons (We.F ?_))) (by decide)
   refine Was.cons (We.v rfl (Was.cons (We.v rfl (Was.nil (WF.box (qd z hr hT.a hT.b) ?_ rfl rfl rfl rfl)))))
   refine Was.cons (We.v rfl (Was.nil (WF.box (qd z hr (two_sub r X Y) hT.c) ?_ rfl rfl rfl rfl)))
   rw [e1]
   exact WA.val ⟨x3,rfl⟩ (by first | (dsimp only [List.set];first | done | rfl) | rfl)
 ·rintro ρ ⟨x3,rfl⟩
  refine Ws.R (We.F (Was.cons (We.v rfl (Was.cons (We.v rfl (Was.nil (WF.box (qd z hr hT.c (List.Sublist.refl r)) ?_ rfl rfl rfl rfl)))))))
  rw [e3]
  exact ⟨_,rfl,x3,rfl,rfl⟩
theorem zm (r:List Tie) (hl:r.length≤1000) (a b:Int):uK [aC r,.int a,.int b]=some (.new (aC (r.map (gM a b)))):=by
 have sz:1000≤SZ:=by decide
 apply Wr.eq
 unfold uK
 (refine Dm.Wr.fn ?_ rfl rfl;dsimp only [List.map,List.replicate,List.cons_append,List.nil_append])
 refine Ws.seq (Ws.A (We.L (Was.nil (WT.mk ?_ rfl rfl (by decide)))) (by decide))
 refine WA.new ?_ (by first | (dsimp only [List.set];first | done | rfl) | rfl)
 refine Ws.seq (Ws.For (Wi.S (We.v rfl (Wk.val ⟨_,rfl,?_⟩))))
 refine Ws.inv aK _ _ r _ _ _ _ _ (fun p q ρ=>∃ c4 c5 c6:Cell,ρ=[.sh (aC r),.sh (.int a),.sh (.int b),.ow (aC (p.map (gM a b))),c4,c5,c6]) ⟨_,_,_,rfl⟩ ?_ ?_
 ·rintro p t q ρ e ⟨c4,c5,c6,rfl⟩
  have pl:p.length<1000:=by
   have:=congrArg List.length e
   simp at this
   omega
  refine Dm.bY rfl (by first | (dsimp only [List.set];first | done | rfl) | rfl) ?_
  unfold yS
  have one:∀ (i:Nat) (x:Int) {ρ:Env} {Q:Val→Env→Prop},ρ[i]?=some (.sh (.int x))→ρ[1]?=some (.sh (.int a))→ρ[2]?=some (.sh (.int b))→Q (.val (.int (fM a b x))) ρ→We (eIf (tV (e2 gEq (eV i) (eV 2))) (eV 1) (eV i)) ρ Q:=fun i x ρ Q h1 h2 h3 q=>by
   refine We.If (Wt.V (We.e2 (We.v h1 (We.v h3 (Wg2.eq (Wb.mk (Wif.dec (fun e=>?_) fun e=>?_)) rfl rfl)))))
   ·refine We.v h2 ?_
    unfold fM at q
    rw [if_pos e] at q
    exact q
   ·refine We.v h1 ?_
    unfold fM at q
    rw [if_neg e] at q
    exact q
  refine Ws.seq (Ws.A (one 5 t.a rfl rfl rfl (WA.val ?_ (by first | (dsimp only [List.set];first | done | rfl) | rfl))) (by decide))
  refine Ws.seq (Ws.A (one 6 t.b rfl rfl rfl (WA.val ?_ (by first | (dsimp only [List.set];first | done | rfl) | rfl))) (by decide))
  refine Ws.App (We.T (Was.cons (We.v rfl (Was.cons (We.B (Was.cons (We.v rfl (Was.cons (We.v rfl (Was.nil (WB.min2 ?_ rfl))))))))))) rfl
  refine Was.cons (We.B (Was.cons (We.v rfl (Was.cons (We.v rfl (Was.nil (WB.max2 ?_ rfl)))))))
  refine Was.nil (WT.mk ?_ rfl rfl (Nat.le_of_ble_eq_true rfl))
  refine Wk.val (jV (ds:=(p.map (gM a b)).map aK) (ρ3:=[.sh (aC r),.sh (.int a),.sh (.int b),.ow (aC ((p++[t]).map (gM a b))),.sh (.int t.m),.sh (.int (fM a b t.a)),.sh (.int (fM a b t.b))]) ⟨_,_,_,rfl⟩ rfl ?_ (by rw [List.length_map,List.length_map];omega))
  unfold aC
  rw [List.map_append,List.map_append]
  rfl
 ·rintro ρ ⟨c4,c5,c6,rfl⟩
  exact Ws.R (We.w rfl (WR.slot rfl rfl))
theorem Fg {n:Nat} {r:List Tie} (h:Rcd n r) {a b:Int} (a0:0≤a) (a1:a<n):Rcd n (r.map (gM a b)):=⟨fun t ht=>by
 obtain ⟨h1,h2,h3,h4⟩:=uT (b:=b) h.ends a0 a1 t ht
 obtain ⟨u,hu,rfl⟩:=List.mem_map.mp ht
 obtain ⟨m0,m1,_⟩:=h.ok u hu
 refine ⟨m0,m1,h1,?_,h4⟩
 unfold gM BG
 dsimp only
 split<;>split<;>omega,CL a b h.up,by rw [List.length_map];exact h.len⟩
theorem BQ {n k:Nat} (z:Sz n k) {r:List Tie} (hr:Rcd n r) (way t:Int) {j:Nat} (j1:1≤j) {a b:Int} (a0:0≤a) (a1:a<n) (b0:0≤b) (b1:b<n) :
  ∃ (k':Nat) (r':List Tie),p8 [.int way,aO n k (NN k r),aC r,.int t,.int (j:Nat),.int a,.int b]=some (.val (.tup [aO n k' (NN k' r'),aC r']))∧Sz n k'∧Rcd n r':=by
 have lr:=hr.len
 have hN:=sy (k:=k) hr
 suffices hh:Wr (p8 [.int way,aO n k (NN k r),aC r,.int t,.int (j:Nat),.int a,.int b]) fun v=>∃ (k':Nat) (r':List Tie),v=.val (.tup [aO n k' (NN k' r'),aC r'])∧Sz n k'∧Rcd n r' by
  obtain ⟨v,h1,k',r',rfl,h2,h3⟩:=hh
  exact ⟨k',r',h1,h2,h3⟩
 unfold p8
 (refine Dm.Wr.fn ?_ rfl rfl;dsimp only [List.map,List.replicate,List.cons_append,List.nil_append])
 refine Ws.seq (Ws.If (Wt.V (We.e2 (We.v rfl (We.c (Wg2.eq (Wb.mk (Wif.dec (fun _=>?_) fun _=>Ws.nx ?_)) rfl rfl))))))
 ·refine Ws.R (We.T (Was.cons (We.F (Was.cons (We.v rfl (Was.cons (We.v rfl (Was.nil (WF.box (wo z hN t) ?_ rfl rfl rfl rfl)))))))))
  refine Was.cons (We.HU aK r (fun x=>decide (t≤x.m)) id aK (d:=aC r) ?_ rfl rfl rfl (by decide) (by unfold SZ;omega) (fun u _=>?_) fun u _ _=>?_)
  ·refine Was.nil (WT.mk ?_ rfl rfl (Nat.le_of_ble_eq_true rfl))
   rw [List.map_id]
   exact ⟨k,jb r t,by rw [zd hr.up];rfl,z,hr.sub List.filter_sublist⟩
  ·exact Wt.V (We.e2 (We.e2 (We.v rfl (We.c (Wg2.ix (We.v rfl (Wg2.ge (Wb.mk ⟨rfl,rfl⟩) rfl rfl)) rfl rfl rfl)))))
  ·exact We.v rfl (Wk.val ⟨rfl,rfl⟩)
 refine Ws.cut (fun ρ=>ρ=[.sh (.int way),.sh (aO n k (NN k r)),.sh (aC r),.sh (.int t),.sh (.int (j:Nat)),.sh (.int a),.sh (.int b)]) ?_ ?_
 ·refine Ws.If (Wt.And (Wt.V (We.e2 (We.v rfl (We.c (Wg2.eq (Wb.mk ⟨fun _=>?_,fun _=>Wif.f (Ws.nx rfl)⟩) rfl rfl))))))
  refine Wt.V (We.e2 (We.v rfl (We.e2 (We.v rfl (We.c (Wg2.ix (v:=.int (k:Nat)) (Wg2.le (Wb.mk (Wif.dec (fun jk=>?_) fun _=>Ws.nx rfl)) rfl rfl) rfl rfl rfl))))))
  refine Ws.R (We.T (Was.cons (We.F (Was.cons (We.v rfl (Was.cons (We.v rfl (Was.nil (WF.box (wu z j1 (by omega) hN) ?_ rfl rfl rfl rfl)))))))))
  refine Was.cons (We.v rfl (Was.nil (WT.mk ?_ rfl rfl (Nat.le_of_ble_eq_true rfl))))
  exact ⟨j,r,by rw [Fb (by omega) hr.nodup],⟨z.n1,z.n10,j1,by have:=z.k6;omega⟩,hr⟩
 rintro ρ rfl
 refine Ws.cut (fun ρ=>ρ=[.sh (.int way),.sh (aO n k (NN k r)),.sh (aC r),.sh (.int t),.sh (.int (j:Nat)),.sh (.int a),.sh (.int b)]) ?_ ?_
 ·refine Ws.If (Wt.And (Wt.V (We.e2 (We.v rfl (We.c (Wg2.eq (Wb.mk ⟨fun _=>?_,fun _=>Wif.f (Ws.nx rfl)⟩) rfl rfl))))))
  refine Wt.V (We.e2 (We.v rfl (We.v rfl (Wg2.ne (Wb.mk ⟨fun hq=>?_,fun _=>Ws.nx rfl⟩) rfl rfl))))
  have hab:=ndT hq
  refine Ws.R (We.T (Was.cons (We.F (Was.cons (We.v rfl (Was.cons (We.v rfl (Was.cons (We.v rfl (Was.nil (WF.box (zg z hN a0 a1 b0 b1 hab) ?_ rfl rfl rfl rfl)))))))))))
  refine Was.cons (We.F (Was.cons (We.v rfl (Was.cons (We.v rfl (Was.cons (We.v rfl (Was.nil (WF.box (zm r (by omega) a b) ?_ rfl rfl rfl rfl)))))))))
  refine Was.nil (WT.mk ?_ rfl rfl (Nat.le_of_ble_eq_true rfl))
  exact ⟨k,r.map (gM a b),by rw [BL hr.up],z,Fg hr a0 a1⟩
 rintro ρ rfl
 refine Ws.R (We.T (Was.cons (We.v rfl (Was.cons (We.v rfl (Was.nil (WT.mk ?_ rfl rfl (Nat.le_of_ble_eq_true rfl))))))))
 exact ⟨k,r,rfl,z,hr⟩
theorem j5 {n:Nat} {i:Int} (h:i.natAbs<10 ^ 100):fH n (.int i)=true:=by
 cases n<;>exact decide_eq_true h
theorem small (i:Int) (h0:0≤i) (h:i≤Z30):i.natAbs<10 ^ 100:=Nat.lt_of_le_of_lt (show i.natAbs≤1000000000000000000000000000000 by unfold Z30 at h;omega) (by decide)
theorem uU {n:Nat} (n10:n≤10) (d:Nat):∀ {r:List Tie},(∀ t∈r,0≤t.m∧t.m≤Z30∧0≤t.a∧t.a≤t.b∧t.b<n)→aU (d+1) (r.map aK)=true
 | [],_=>rfl
 | t::r,h=>by
  obtain ⟨h1,h2,h3,h4,h5⟩:=h t List.mem_cons_self
  have z:(10:Int)≤Z30:=by decide
  have a:aU d [.int t.m,.int t.a,.int t.b]=true:=by
   unfold aU aU aU aU
   rw [j5 (small _ h1 h2),j5 (small _ h3 (by omega)),j5 (small _ (by omega) (by omega))]
   rfl
  rw [List.map_cons]
  unfold aU
  rw [uU n10 d fun u hu=>h u (List.mem_cons_of_mem _ hu),Bool.and_true]
  exact a
theorem uV:∀ r:List Tie,iX (r.map aK)=4*r.length
 | []=>rfl
 | t::r=>by
  rw [List.map_cons]
  unfold iX
  rw [uV r,List.length_cons]
  show 4+_=_
  omega
theorem sF {n k:Nat} (z:Sz n k) {N:List Tie} (h:Rcd n N):fH 7 (aO n k N)=true:=by
 have h1:=z.n10
 have h2:=z.k6
 have y:(10:Int)≤Z30:=by decide
 show aU 6 [.int (n:Nat),.int (k:Nat),aC N]=true
 unfold aU aU aU aU
 rw [j5 (small _ (by omega) (by omega)),j5 (small _ (by omega) (by omega))]
 show (true&&(true&&(aU 5 (N.map aK)&&true)))=true
 rw [uU h1 4 h.ok]
 rfl
theorem sG (n k:Nat) (N:List Tie):iF (aO n k N)=4+4*N.length:=by
 show 1+(1+(1+((1+iX (N.map aK))+0)))=_
 rw [uV]
 omega
theorem BR {n k:Nat} (z:Sz n k) {r A B C:List Tie} (hr:Rcd n r) (h:Thr r A B C):fH 8 (dQ n k A B C)=true:=by
 show aU 7 [aO n k (NN k A),aO n k (NN k B),aO n k (NN k C)]=true
 unfold aU aU aU aU
 rw [sF z (hr.sub ((bL k A).trans h.a)),sF z (hr.sub ((bL k B).trans h.b)),sF z (hr.sub ((bL k C).trans h.c))]
 rfl
theorem BS {n k:Nat} {r A B C:List Tie} (hr:Rcd n r) (h:Thr r A B C):iF (dQ n k A B C)≤900:=by
 show 1+(iF (aO n k (NN k A))+(iF (aO n k (NN k B))+(iF (aO n k (NN k C))+0)))≤900
 rw [sG,sG,sG]
 have:=((bL k A).trans h.a).length_le
 have:=((bL k B).trans h.b).length_le
 have:=((bL k C).trans h.c).length_le
 have:=hr.len
 omega
theorem WFm.take {f:List Dat→Option (RV×Dat)} {j:Nat} {ρ1 ρ2 ρ3:Env} {xs:List Val} {d d1 d':Dat} {ds:List Dat} {v:RV} {Q:Val→Env→Prop} (h5:f (d::ds)=some (v,d')) (hf:(Dm.flat v.dat&&nB d')=false) (q:Q v.bz ρ3) (h2:ρ1[j]?=some (.ow d1)) (h3:tks ρ1 xs=some (ds,ρ2)) (h4:ρ2[j]?=some (.ow d)) (hn:ρ2.set j (.ow d')=ρ3):WFm f j ρ1 xs Q:=
 ⟨_,_,_,_,_,_,h2,h3,h4,h5,by rw [hf,if_neg Bool.false_ne_true,hn];exact q⟩
theorem Rcd.of {n:Nat} {r:List Tie} (g:Good n 0 r) (hl:r.length≤60) (hm:∀ t∈r,t.m≤Z30):Rcd n r:=⟨fun t ht=>by
 obtain ⟨h1,h2,h3⟩:=g.mem t ht
 exact ⟨g.lo t ht,hm t ht,h1,h2,h3⟩,by
 have go:∀ (r:List Tie) (lo:Int),Good n lo r→dJ r:=fun r=>by
  induction r with
  | nil=>exact fun _ _=>.nil
  | cons t r ih=>
   intro lo h
   obtain ⟨_,_,_,_,h5⟩:=h
   exact .cons (fun u hu=>by have:=h5.lo u hu;omega) (ih _ h5)
 exact go r 0 g,hl⟩
theorem BU (S:List Int) (at_:Int) (h0:0≤at_) (h1:at_<900) (c2 c3 c4 c5 c6 c7 c8 c9 c10 c11 c12 c13 c14 c15:Cell) {N:Env→Prop} {R:RV→Env→Prop} {B C:Env→Prop}
  (nx:∀ c1 c2 c3 c4 c5 c6 c7 c8 c9 c10 c11 c12 c13 c14 c15,N [.sh (.lst (S.map Dat.int)),c1,c2,c3,c4,c5,c6,c7,c8,c9,c10,c11,c12,c13,c14,c15]) :
  Ws sq [.sh (.lst (S.map Dat.int)),.sh (.int at_),c2,c3,c4,c5,c6,c7,c8,c9,c10,c11,c12,c13,c14,c15] N R B C:=by
 obtain ⟨x,ep⟩:=jd S at_ h0 (by omega)
 obtain ⟨n,x1,en,n1,n10⟩:=BC x
 obtain ⟨n,rfl⟩:∃ m:Nat,n=m:=⟨n.toNat,by omega⟩
 unfold sq
 refine Ws.seq (Ws.A (We.F (Was.cons (We.v rfl (Was.cons (We.v rfl (Was.nil (WF.box ep ?_ rfl rfl rfl (by first | (dsimp only [List.set];first | done | rfl) | rfl)))))))) (by decide))
 refine WA.new ?_ (by first | (dsimp only [List.set];first | done | rfl) | rfl)
 refine Ws.seq (Ws.A (We.Fm (Was.nil (WFm.any en ?_ rfl rfl (by first | (dsimp only [List.set];first | done | rfl) | rfl))) rfl) (by decide))
 refine WA.val ?_ (by first | (dsimp only [List.set];first | done | rfl) | rfl)
 refine Ws.cut (fun ρ=>∃ (k:Nat) (x2:Int),Sz n k∧ρ=[.sh (.lst (S.map Dat.int)),.sh (.int at_),.ow (aJ x2),.sh (.int (n:Nat)),.sh (.int (k:Nat)),c5,c6,c7,c8,c9,c10,c11,c12,c13,c14,c15]) ?_ ?_
 ·refine Ws.A (We.e2 (We.c ?_)) (by decide)
  refine We.drw (m:=4) rfl (by decide) (by decide) rfl fun t x2 t0 t1 ρ3 e=>?_
  subst e
  refine Wg2.add (WA.val ⟨(1+t).toNat,x2,⟨by omega,by omega,by omega,by omega⟩,?_⟩ rfl) rfl rfl
  rw [Int.toNat_of_nonneg (by omega)]
  rfl
 rintro ρ ⟨k,x2,z,rfl⟩
 obtain ⟨y,ey⟩:=jd S (at_+1) (by omega) (by omega)
 obtain ⟨r,y',er,gr,lr,mr⟩:=v8 y n 30 (by omega) (by omega) (by decide) (by decide)
 have hr:Rcd n r:=Rcd.of gr (by omega) mr
 refine Ws.seq (Ws.A (We.Fn (Was.cons ?_)) (by decide))
 refine We.F (Was.cons (We.v rfl (Was.cons ?_)))
 refine We.e2 (We.v rfl (We.c (Wg2.add ?_ rfl rfl)))
 refine Was.nil (WF.box ey ?_ rfl rfl rfl (by first | (dsimp only [List.set];first | done | rfl) | rfl))
 refine Was.cons (We.v rfl (Was.cons (We.c (Was.nil ⟨_,_,_,_,_,rfl,rfl,er,?_⟩))))
 refine WA.new ?_ (by first | (dsimp only [List.set];first | done | rfl) | rfl)
 obtain ⟨y2,ey2⟩:=jd S (at_+2) (by omega) (by omega)
 refine Ws.seq (Ws.A (We.F (Was.cons (We.v rfl (Was.cons (We.e2 (We.v rfl (We.c (Wg2.add ?_ rfl rfl)))))))) (by decide))
 refine Was.nil (WF.box ey2 (WA.new ?_ (by first | (dsimp only [List.set];first | done | rfl) | rfl)) rfl rfl rfl (by first | (dsimp only [List.set];first | done | rfl) | rfl))
 obtain ⟨A,B',C',y3,ea,hT⟩:=wz y2 r hr.len
 refine Ws.seq (Ws.A (We.Map aC [A,B',C'] (NN k) (aO n k) (ρ1:=[.sh (.lst (S.map Dat.int)),.sh (.int at_),.ow (aJ y3),.sh (.int (n:Nat)),.sh (.int (k:Nat)),.sh (aC r),c6,c7,c8,c9,c10,c11,c12,c13,c14,c15]) ?_ ?_ rfl (by decide) (Nat.le_of_ble_eq_true rfl) fun D hD=>?_) (by decide))
 rotate_left
 ·refine Wi.get (Wi.S (We.Fm (Was.cons (We.w rfl (Was.nil (WFm.take ea rfl ?_ rfl rfl rfl (by first | (dsimp only [List.set];first | done | rfl) | rfl))))) rfl))
  exact Wk.new ⟨_,rfl,rfl,rfl⟩
 ·have:D.Sublist r:=by
   simp only [List.mem_cons,List.not_mem_nil,or_false] at hD
   rcases hD with rfl | rfl | rfl
   ·exact hT.a
   ·exact hT.b
   ·exact hT.c
  exact We.F (Was.cons (We.v rfl (Was.cons (We.v rfl (Was.cons (We.v rfl (Was.nil (WF.box (g7 n k z.n10 z.k1 z.k6 D (hr.sub this).ends (by have:=this.length_le;have:=hr.len;omega)) (Wk.val ⟨rfl,rfl⟩) rfl rfl rfl rfl))))))))
 refine WA.new ?_ (by first | (dsimp only [List.set];first | done | rfl) | rfl)
 have sh:=BR z hr hT
 have wt:=BS (n:=n) (k:=k) hr hT
 refine Ws.seq (Ws.A (We.B (Was.cons (We.w rfl (Was.nil (WB.EX sh wt ?_ rfl))))) (by decide))
 refine WA.val ?_ (by first | (dsimp only [List.set];first | done | rfl) | rfl)
 obtain ⟨y4,ey4⟩:=jd S (at_+3) (by omega) (by omega)
 refine Ws.seq (Ws.A (We.F (Was.cons (We.v rfl (Was.cons (We.e2 (We.v rfl (We.c (Wg2.add ?_ rfl rfl)))))))) (by decide))
 refine Was.nil (WF.box ey4 (WA.new ?_ (by first | (dsimp only [List.set];first | done | rfl) | rfl)) rfl rfl rfl (by first | (dsimp only [List.set];first | done | rfl) | rfl))
 obtain ⟨y5,ey5⟩:=sD z hr hT y4
 refine Ws.seq (Ws.A (We.Fm (Was.cons (We.w rfl (Was.nil (WFm.take ey5 rfl ?_ rfl rfl rfl (by first | (dsimp only [List.set];first | done | rfl) | rfl))))) rfl) (by decide))
 refine WA.val ?_ (by first | (dsimp only [List.set];first | done | rfl) | rfl)
 refine Ws.seq (Ws.If (Wt.Or (Wt.V (We.e2 (We.v rfl (We.F ?_))))))
 refine Was.cons (We.v rfl (Was.cons (We.v rfl (Was.cons (We.v rfl (Was.nil (WF.box (mO z hr) ?_ rfl rfl rfl rfl)))))))
 refine Wg2.neN (Wb.mk (Wif.f ?_)) rfl rfl
 refine Wt.V (We.e2 (We.B (Was.cons (We.v rfl (Was.nil (WB.EX sh wt ?_ rfl))))))
 refine We.v rfl (Wg2.CI sh (Wb.mk (Wif.f (Ws.nx ?_))) rfl rfl)
 refine Ws.seq (Ws.A (We.v rfl (WA.val ?_ (by first | (dsimp only [List.set];first | done | rfl) | rfl))) (by decide))
 obtain ⟨t,y6,ey6,t0⟩:=lQ y5 r (fun t ht=>(hr.ok t ht).1) (by have:=hr.len;omega)
 refine Ws.seq (Ws.A (We.Fm (Was.cons (We.v rfl (Was.nil (WFm.any ey6 ?_ rfl rfl (by first | (dsimp only [List.set];first | done | rfl) | rfl))))) rfl) (by decide))
 refine WA.val ?_ (by first | (dsimp only [List.set];first | done | rfl) | rfl)
 have z1:=z.n1
 have z2:=z.n10
 have z3:=z.k1
 have z4:=z.k6
 refine Ws.cut (fun ρ=>∃ (j:Nat) (x:Int),1≤j∧ρ=[.sh (.lst (S.map Dat.int)),.sh (.int at_),.ow (aJ x),.sh (.int (n:Nat)),.sh (.int (k:Nat)),.sh (aC r),.sh (dQ n k A B' C'),.sh (.str (shw (dQ n k A B' C'))),.sh (aO n k (NN k r)),.sh (aC r),.sh (.int t),.sh (.int (j:Nat)),c12,c13,c14,c15]) ?_ ?_
 ·refine Ws.A (We.e2 (We.c ?_)) (by decide)
  refine We.drw (m:=(k:Nat)) rfl (by omega) (by unfold dX;omega) rfl fun v x2 v0 v1 ρ3 e=>?_
  subst e
  refine Wg2.add (WA.val ⟨(1+v).toNat,x2,by omega,?_⟩ rfl) rfl rfl
  rw [Int.toNat_of_nonneg (by omega)]
  rfl
 rintro ρ ⟨j,x3,j1,rfl⟩
 refine Ws.seq (Ws.A ?_ (by decide))
 refine We.drw (m:=(n:Nat)) rfl (by omega) (by unfold dX;omega) rfl fun a x4 a0 a1 ρ3 e=>?_
 subst e
 refine WA.val ?_ (by first | (dsimp only [List.set];first | done | rfl) | rfl)
 refine Ws.seq (Ws.A ?_ (by decide))
 refine We.drw (m:=(n:Nat)) rfl (by omega) (by unfold dX;omega) rfl fun b x5 b0 b1 ρ3 e=>?_
 subst e
 refine WA.val ?_ (by first | (dsimp only [List.set];first | done | rfl) | rfl)
 refine Ws.seq (Ws.A ?_ (by decide))
 refine We.drw (m:=3) rfl (by decide) (by decide) rfl fun fi x6 f0 f1 ρ3 e=>?_
 subst e
 refine WA.val ?_ (by first | (dsimp only [List.set];first | done | rfl) | rfl)
 refine Ws.For (Wi.R1 (We.c (cy.mk ⟨?_,by decide,by decide⟩)))
 rw [show (3:Int).toNat=3 from rfl,n6]
 refine Ws.inv (fun i:Nat=>Dat.int ((i:Nat):Int)) _ _ (List.range 3) _ _ _ _ _ (fun p q ρ=>∃ (k':Nat) (r':List Tie) (c15:Cell),ρ=[.sh (.lst (S.map Dat.int)),.sh (.int at_),.ow (aJ x6),.sh (.int (n:Nat)),.sh (.int (k:Nat)),.sh (aC r),.sh (dQ n k A B' C'),.sh (.str (shw (dQ n k A B' C'))),.sh (aO n k' (NN k' r')),.sh (aC r'),.sh (.int t),.sh (.int (j:Nat)),.sh (.int a),.sh (.int b),.sh (.int fi),c15]∧Sz n k'∧Rcd n r') ⟨k,r,_,rfl,z,hr⟩ ?_ ?_
 ·rintro p i q ρ e ⟨k',r',c15,rfl,z',hr'⟩
  refine Dm.bY rfl (by first | (dsimp only [List.set];first | done | rfl) | rfl) ?_
  unfold yT
  obtain ⟨k2,r2,ed,z2',hr2⟩:=BQ z' hr' ((fi+(i:Nat)) % 3) t j1 a0 a1 b0 b1
  refine Ws.seq (Ws.U (We.F (Was.cons (We.e2 (We.e2 (We.v rfl (We.v rfl (Wg2.add (We.c (Wg2.mod ?_ rfl rfl (by decide))) rfl rfl))))))))
  refine Was.cons (We.v rfl (Was.cons (We.v rfl (Was.cons (We.v rfl (Was.cons (We.v rfl (Was.cons (We.v rfl (Was.cons (We.v rfl (Was.nil ?_))))))))))))
  refine WF.box ed (Wk.val (yF ?_ rfl (by first | (dsimp only [List.set];first | done | rfl) | rfl))) rfl rfl rfl rfl
  refine Ws.If (Wt.Or (Wt.V (We.e2 (We.v rfl (We.F (Was.cons (We.v rfl (Was.cons (We.v rfl (Was.cons ?_))))))))))
  refine We.e2 (We.v rfl (We.c (Wg2.ix (v:=.int (k2:Nat)) (Was.nil (WF.box (mO z2' hr2) ?_ rfl rfl rfl rfl)) rfl rfl rfl)))
  refine Wg2.neN (Wb.mk (Wif.f ?_)) rfl rfl
  refine Wt.V (We.e2 (We.B (Was.cons (We.v rfl (Was.nil (WB.EX sh wt ?_ rfl))))))
  refine We.v rfl (Wg2.CI sh (Wb.mk (Wif.f (Ws.nx ?_))) rfl rfl)
  exact ⟨k2,r2,_,rfl,z2',hr2⟩
 ·rintro ρ ⟨k',r',c15,rfl,_,_⟩
  exact nx _ _ _ _ _ _ _ _ _ _ _ _ _ _ _
theorem math (ns:List Int) (h:ns.length≤63):jW [.lst (ns.map Dat.int)]=some (.val (.bl true)):=by
 apply Wr.eq
 unfold jW
 (refine Dm.Wr.fn ?_ rfl rfl;dsimp only [List.map,List.replicate,List.cons_append,List.nil_append])
 obtain ⟨top,et,t0,t1⟩:∃ top:Int,top=(if (if (12:Int)<((ns.length:Nat):Int) then 12 else ((ns.length:Nat):Int))>1 then (if (12:Int)<((ns.length:Nat):Int) then 12 else ((ns.length:Nat):Int)) else 1)∧1≤top∧top≤12:=⟨_,rfl,by split<;>omega,by split<;>split<;>omega⟩
 refine Ws.seq (Ws.For (Wi.Rs (i:=0) (j:=top) (k:=4) rfl ?_ rfl ⟨by decide,by unfold BIG;omega,by unfold BIG;omega,by decide,by decide⟩ ?_))
 ·rw [et]
  exact We.get (We.B (Was.cons (We.c (Was.cons (We.B (Was.cons (We.B (Was.cons (We.v rfl (Was.nil (WB.yH (enc:=Dat.int) (xs:=ns) (Was.cons (We.c (Was.nil (WB.min2 (Was.nil (WB.max2 ⟨rfl,rfl⟩ rfl)) rfl)))) rfl)))))))))))
 unfold fF
 refine Ws.inv (fun i:Nat=>Dat.int (0+(i:Nat)*4)) _ _ (List.range (bW 0 top 4)) _ _ _ _ _ (fun p q ρ=>∃ c1 c2 c3 c4 c5 c6 c7 c8 c9 c10 c11 c12 c13 c14 c15:Cell,ρ=[.sh (.lst (ns.map Dat.int)),c1,c2,c3,c4,c5,c6,c7,c8,c9,c10,c11,c12,c13,c14,c15]) ⟨_,_,_,_,_,_,_,_,_,_,_,_,_,_,_,rfl⟩ ?_ ?_
 ·rintro p i q ρ e ⟨c1,c2,c3,c4,c5,c6,c7,c8,c9,c10,c11,c12,c13,c14,c15,rfl⟩
  have hi:i<bW 0 top 4:=(jX e).2
  unfold bW at hi
  rw [if_pos (by omega)] at hi
  refine Dm.bY rfl (by first | (dsimp only [List.set];first | done | rfl) | rfl) ?_
  refine BU ns _ (by omega) (by omega) _ _ _ _ _ _ _ _ _ _ _ _ _ _ fun c1 c2 c3 c4 c5 c6 c7 c8 c9 c10 c11 c12 c13 c14 c15=>⟨_,_,_,_,_,_,_,_,_,_,_,_,_,_,_,rfl⟩
 ·rintro ρ ⟨c1,c2,c3,c4,c5,c6,c7,c8,c9,c10,c11,c12,c13,c14,c15,rfl⟩
  exact Ws.R (We.c rfl)
end P
set_option maxHeartbeats 4000000
namespace Q
open PySem L2 Br Dm P
noncomputable def top (i:Nat):Stmt:=PySem.Challenge.pw_sinceply_k67_whole_nets_in_pieces.main.body.getD i (.Pass ⟨0,0,0,0⟩)
structure Txt (mg:Str→Option Value) (K:PySem.W.Frag) (base:Heap) (sH sI sJ sL sM sN sO sV sW sX j6 j7 j8 j9 j_ kg kh ki kj ko kr ku kB kC kD kE kF kG kH kI kJ kK kL kM kN kO kP kQ kR kT:Addr) (kU kW kX kY kZ k7 k8 k9 k_ lg fL fN fO fP fQ fR fS fT fU fV fW fX fY fZ f6 f7 f9 f_ gb gf gg gh gj gk gm gn gp gq gu iN:FuncData):Prop where
 CM:mg "all" = none
 Fj:mg "bool" = none
 qf:mg "enumerate" = none
 CN:mg "int" = none
 bQ:mg "isinstance" = none
 i7:mg "len" = none
 n8:mg "list" = none
 qg:mg "max" = none
 qh:mg "min" = none
 bR:mg "range" = none
 lq:mg "reversed" = none
 Ib:mg "set" = none
 qi:mg "sorted" = none
 zo:mg "str" = none
 uW:mg "tuple" = none
 Ic:mg "zip" = none
 lu:∃ t,mg "MOST_TIES" = some (.int 60 t)
 J8:mg "is_whole" = some (.ref sH)
 zp:mg "is_within" = some (.ref sI)
 J9:mg "is_places" = some (.ref sJ)
 BV:mg "is_place" = some (.ref sL)
 Ie:mg "is_layers" = some (.ref sM)
 J_:mg "is_moment" = some (.ref sN)
 Ka:mg "is_tie_either_way" = some (.ref sO)
 Kc:mg "is_tie" = some (.ref sV)
 Kd:mg "is_rising" = some (.ref sW)
 Ke:mg "is_pair" = some (.ref sX)
 Ig:mg "look_at_layers" = some (.ref j6)
 Ih:mg "look_at_pair" = some (.ref j7)
 Ii:mg "merged" = some (.ref j8)
 Ij:mg "least_layer" = some (.ref j9)
 CO:mg "layered" = some (.ref j_)
 Ik:mg "put_in_order" = some (.ref kg)
 Il:mg "look_for_clash" = some (.ref kh)
 Im:mg "is_record" = some (.ref ki)
 Io:mg "since" = some (.ref kj)
 Ip:mg "is_net" = some (.ref ko)
 qj:mg "look_at_net" = some (.ref kr)
 Iq:mg "look_at_net_layers" = some (.ref ku)
 uX:mg "net_of" = some (.ref kB)
 Ir:mg "net_since" = some (.ref kC)
 Iu:mg "net_fewer" = some (.ref kD)
 Iv:mg "net_with" = some (.ref kE)
 qk:mg "laid" = some (.ref kF)
 Iw:mg "tie_melted" = some (.ref kG)
 Iz:mg "net_melted" = some (.ref kH)
 uY:mg "_law_pool" = some (.ref kI)
 bO:mg "_law_take" = some (.ref kJ)
 IA:mg "_law_many" = some (.ref kK)
 IB:mg "_law_record" = some (.ref kL)
 IC:mg "_law_moment" = some (.ref kM)
 CP:mg "_law_net" = some (.ref kN)
 ID:mg "_law_pieces" = some (.ref kO)
 IE:mg "_law_laid" = some (.ref kP)
 IF:mg "_law_melted" = some (.ref kQ)
 IG:mg "_law_deed" = some (.ref kR)
 Kh:mg "law" = some (.ref kT)
 II:Fun K "is_whole" "is_whole" (top 8) sH kU
 Fl:Binds K kU ["thing"] []
 wA:Fun K "is_within" "is_within" (top 9) sI kW
 sY:Binds K kW ["thing","low","high"] []
 IJ:Fun K "is_places" "is_places" (top 10) sJ kX
 zq:Fun K "is_place" "is_place" (top 11) sL kY
 Fo:Fun K "is_layers" "is_layers" (top 12) sM kZ
 IK:Fun K "is_moment" "is_moment" (top 13) sN k7
 wB:Binds K kY ["n","thing"] []
 Fp:Binds K k7 ["thing"] []
 IL:Fun K "is_tie_either_way" "is_tie_either_way" (top 14) sO k8
 Fq:Binds K k8 ["n","thing"] []
 IM:Fun K "is_tie" "is_tie" (top 15) sV k9
 IP:Fun K "is_rising" "is_rising" (top 16) sW k_
 IQ:Fun K "is_pair" "is_pair" (top 17) sX lg
 BW:Binds K kZ ["thing"] []
 CQ:Fun K "look_at_layers" "look_at_layers" (top 18) j6 fL
 Ft:Binds K lg ["n","a","b"] []
 CS:Fun K "look_at_pair" "look_at_pair" (top 19) j7 fN
 CT:Fun K "merged" "merged" (top 21) j8 fO
 CU:Fun K "least_layer" "least_layer" (top 24) j9 fP
 zu:Binds K fL ["k"] []
 zv:Binds K fO ["groups","a","b"] []
 zw:Binds K fP ["layers","a","b"] []
 zx:Fun K "layered" "layered" (top 23) j_ fQ
 CV:Fun K "put_in_order" "put_in_order" (top 27) kg fR
 CW:Fun K "look_for_clash" "look_for_clash" (top 28) kh fS
 Fv:Binds K kX ["thing"] []
 Fw:Binds K k9 ["n","thing"] []
 Fx:Binds K k_ ["things"] []
 CY:Fun K "is_record" "is_record" (top 29) ki fT
 CZ:Fun K "since" "since" (top 30) kj fU
 uZ:Binds K fQ ["n","record","k"] []
 zy:Binds K fT ["n","thing"] []
 C0:Fun K "is_net" "is_net" (top 32) ko fV
 zz:Binds K fV ["thing"] []
 mP:Fun K "look_at_net" "look_at_net" (top 33) kr fW
 ly:Binds K fW ["thing"] []
 C1:Fun K "look_at_net_layers" "look_at_net_layers" (top 34) ku fX
 ql:Fun K "net_of" "net_of" (top 35) kB fY
 zA:Binds K fU ["record","t"] []
 C2:Fun K "net_since" "net_since" (top 36) kC fZ
 zB:Binds K fX ["net","j"] []
 mQ:Binds K fY ["n","record","k"] []
 C3:Fun K "net_fewer" "net_fewer" (top 37) kD f6
 zC:Binds K fS ["ties"] []
 C4:Fun K "net_with" "net_with" (top 40) kE f7
 zD:Binds K f7 ["net","more"] []
 mR:Fun K "laid" "laid" (top 39) kF f9
 zF:Binds K fR ["thing"] []
 C5:Fun K "tie_melted" "tie_melted" (top 42) kG f_
 zG:Binds K fN ["n","a","b"] []
 zH:Binds K f_ ["tie","a","b"] []
 C6:Fun K "net_melted" "net_melted" (top 41) kH gb
 qm:Fun K "_law_pool" "_law_pool" (top 44) kI gf
 bI:Fun K "_law_take" "_law_take" (top 45) kJ gg
 bD:Binds K gg ["pool","many"] []
 C7:Fun K "_law_many" "_law_many" (top 46) kK gh
 C8:Fun K "_law_record" "_law_record" (top 47) kL gj
 C9:Fun K "_law_moment" "_law_moment" (top 48) kM gk
 zI:Fun K "_law_net" "_law_net" (top 50) kN gm
 C_:Fun K "_law_pieces" "_law_pieces" (top 51) kO gn
 lz:Binds K f9 ["net","other"] []
 Dc:Fun K "_law_laid" "_law_laid" (top 52) kP gp
 Dd:Fun K "_law_melted" "_law_melted" (top 53) kQ gq
 zJ:Binds K fZ ["net","t"] []
 zK:Binds K f6 ["net","j"] []
 zL:Binds K gb ["net","a","b"] []
 zM:Binds K gq ["ties","a","b"] []
 De:Fun K "_law_deed" "_law_deed" (top 54) kR gu
 mS:Binds K gf ["script","k"] []
 zN:Binds K gh ["pool"] []
 zO:Binds K gj ["pool","n","most"] []
 zP:Binds K gk ["pool","record"] []
 u0:Binds K gm ["n","ties","k"] []
 zQ:Binds K gn ["pool","record"] []
 zR:Binds K gp ["pool","nets"] []
 zS:Binds K gu ["way","net","ties","t","j","a","b"] []
 IS:Fun K "law" "law" (top 55) kT iN
section
variable {P':Program} {w:World} {K:PySem.W.Frag} {mg:Str→Option Value} {base:Heap} {sH sI sJ sL sM sN sO sV sW sX j6 j7 j8 j9 j_ kg kh ki kj ko kr ku kB kC kD kE kF kG kH kI kJ kK kL kM kN kO kP kQ kR kT:Addr}
variable {kU kW kX kY kZ k7 k8 k9 k_ lg fL fN fO fP fQ fR fS fT fU fV fW fX fY fZ f6 f7 f9 f_ gb gf gg gh gj gk gm gn gp gq gu iN:FuncData}
theorem IT:au ["thing"] ["thing"] (ah (top 8)):=fsc rfl rfl rfl rfl (by decide +kernel)
theorem IU:au ["thing","low","high"] ["thing","low","high"] (ah (top 9)):=fsc rfl rfl rfl rfl (by decide +kernel)
theorem IV:au ["thing"] ["thing"] (ah (top 10)):=fsc rfl rfl rfl rfl (by decide +kernel)
theorem IW:au ["n","thing"] ["n","thing"] (ah (top 11)):=fsc rfl rfl rfl rfl (by decide +kernel)
theorem IX:au ["thing"] ["thing"] (ah (top 12)):=fsc rfl rfl rfl rfl (by decide +kernel)
theorem IY:au ["thing"] ["thing"] (ah (top 13)):=fsc rfl rfl rfl rfl (by decide +kernel)
theorem IZ:au ["n","thing"] ["n","thing"] (ah (top 14)):=fsc rfl rfl rfl rfl (by decide +kernel)
theorem I0:au ["n","thing"] ["n","thing"] (ah (top 15)):=fsc rfl rfl rfl rfl (by decide +kernel)
theorem I_:au ["things"] ["things"] (ah (top 16)):=fsc rfl rfl rfl rfl (by decide +kernel)
theorem Fy:(["things","at"]:List Str).Nodup:=by decide +kernel
theorem Ja:au ["n","a","b"] ["n","a","b"] (ah (top 17)):=fsc rfl rfl rfl rfl (by decide +kernel)
theorem Fz:au ["k"] ["k"] (ah (top 18)):=fsc rfl rfl rfl rfl (by decide +kernel)
theorem FA:au ["n","a","b"] ["n","a","b"] (ah (top 19)):=fsc rfl rfl rfl rfl (by decide +kernel)
theorem FD:au ["groups","a","b"] ["groups","a","b"] (ah (top 21)):=fsc rfl rfl rfl rfl (by decide +kernel)
theorem BX:(["groups","a","b","group"]:List Str).Nodup:=by decide +kernel
theorem sZ:au ["layers","a","b","at","groups"] ["layers","a","b"] (ah (top 24)):=fsc rfl rfl rfl rfl (by decide +kernel)
theorem gv:au ["n","record","k","layers","numbers","moment","a","b","number"] ["n","record","k"] (ah (top 23)):=fsc rfl rfl rfl rfl (by decide +kernel)
theorem BY:(["n","record","k","layers","numbers","moment","a","b","number","layer"]:List Str).Nodup:=by decide +kernel
theorem FF:au ["thing"] ["thing"] (ah (top 27)):=fsc rfl rfl rfl rfl (by decide +kernel)
theorem zT:au ["ties","at"] ["ties"] (ah (top 28)):=fsc rfl rfl rfl rfl (by decide +kernel)
theorem FG:au ["n","thing"] ["n","thing"] (ah (top 29)):=fsc rfl rfl rfl rfl (by decide +kernel)
theorem BZ:(["n","thing","tie"]:List Str).Nodup:=by decide +kernel
theorem B0:(["n","thing","tie"]:List Str).Nodup:=by decide +kernel
theorem FH:au ["record","t"] ["record","t"] (ah (top 30)):=fsc rfl rfl rfl rfl (by decide +kernel)
theorem B3:(["record","t","tie"]:List Str).Nodup:=by decide +kernel
theorem FJ:au ["thing"] ["thing"] (ah (top 32)):=fsc rfl rfl rfl rfl (by decide +kernel)
theorem FL:au ["thing"] ["thing"] (ah (top 33)):=fsc rfl rfl rfl rfl (by decide +kernel)
theorem FO:au ["net","j"] ["net","j"] (ah (top 34)):=fsc rfl rfl rfl rfl (by decide +kernel)
theorem zU:au ["n","record","k","numbers"] ["n","record","k"] (ah (top 35)):=fsc rfl rfl rfl rfl (by decide +kernel)
theorem u5:(["n","record","k","numbers","tie","number"]:List Str).Nodup:=by decide +kernel
theorem FP:au ["net","t"] ["net","t"] (ah (top 36)):=fsc rfl rfl rfl rfl (by decide +kernel)
theorem FQ:au ["net","j"] ["net","j"] (ah (top 37)):=fsc rfl rfl rfl rfl (by decide +kernel)
theorem zV:au ["net","more","ties"] ["net","more"] (ah (top 40)):=fsc rfl rfl rfl rfl (by decide +kernel)
theorem FU:au ["net","other"] ["net","other"] (ah (top 39)):=fsc rfl rfl rfl rfl (by decide +kernel)
theorem FW:au ["tie","a","b"] ["tie","a","b"] (ah (top 42)):=fsc rfl rfl rfl rfl (by decide +kernel)
theorem FY:au ["net","a","b"] ["net","a","b"] (ah (top 41)):=fsc rfl rfl rfl rfl (by decide +kernel)
theorem B4:(["net","a","b","tie"]:List Str).Nodup:=by decide +kernel
theorem dM:au ["script","k","cell","number","found","turn"] ["script","k"] (ah (top 44)):=fsc rfl rfl rfl rfl (by decide +kernel)
theorem zW:au ["pool","many","digit"] ["pool","many"] (ah (top 45)):=fsc rfl rfl rfl rfl (by decide +kernel)
theorem FZ:au ["pool"] ["pool"] (ah (top 46)):=fsc rfl rfl rfl rfl (by decide +kernel)
theorem bS:au ["pool","n","most","many","kind","step","times","way","moment","found","k","one","other"] ["pool","n","most"] (ah (top 47)):=fsc rfl rfl rfl rfl (by decide +kernel)
theorem zX:au ["pool","record","at"] ["pool","record"] (ah (top 48)):=fsc rfl rfl rfl rfl (by decide +kernel)
theorem gx:au ["n","ties","k","marks","kept","tie","at","one","other"] ["n","ties","k"] (ah (top 50)):=fsc rfl rfl rfl rfl (by decide +kernel)
theorem B5:(["n","ties","k","marks","kept","tie","at","one","other","layer"]:List Str).Nodup:=by decide +kernel
theorem B6:(["n","ties","k","marks","kept","tie","at","one","other","mark"]:List Str).Nodup:=by decide +kernel
theorem n9:au ["pool","record","pieces","tie","at"] ["pool","record"] (ah (top 51)):=fsc rfl rfl rfl rfl (by decide +kernel)
theorem gy:au ["pool","nets","first","one","other","third","found"] ["pool","nets"] (ah (top 52)):=fsc rfl rfl rfl rfl (by decide +kernel)
theorem gA:au ["ties","a","b","found","moment","one","other"] ["ties","a","b"] (ah (top 53)):=fsc rfl rfl rfl rfl (by decide +kernel)
theorem F0:au ["way","net","ties","t","j","a","b"] ["way","net","ties","t","j","a","b"] (ah (top 54)):=fsc rfl rfl rfl rfl (by decide +kernel)
theorem B7:(["way","net","ties","t","j","a","b","tie"]:List Str).Nodup:=by decide +kernel
theorem bf:au ["script","at","pool","n","k","record","nets","kept","net","ties","t","j","a","b","first","way"] ["script"] (ah (top 55)):=fsc rfl rfl rfl rfl (by decide +kernel)
theorem B8:(["script","at","pool","n","k","record","nets","kept","net","ties","t","j","a","b","first","way","piece"]:List Str).Nodup:=by decide +kernel
variable (T:Txt mg K base sH sI sJ sL sM sN sO sV sW sX j6 j7 j8 j9 j_ kg kh ki kj ko kr ku kB kC kD kE kF kG kH kI kJ kK kL kM kN kO kP kQ kR kT kU kW kX kY kZ k7 k8 k9 k_ lg fL fN fO fP fQ fR fS fT fU fV fW fX fY fZ f6 f7 f9 f_ gb gf gg gh gj gk gm gn gp gq gu iN)
include T
theorem Jb :
  aR P' w K mg base CX0 1 sH kU ["thing"] (spD Bq):=by
 refine T.II.ok IT (fun vs H Q E h=>aI h) (fun cdv A outer s H vs Q E hr h=>?_)
 exact ⟨_,(aq (s_r (jA (oW AS (by rfl) rfl T.CN rfl T.bQ (d_v 0)) (oV (Hl (oW xG (by rfl) rfl T.Fj rfl T.bQ (d_v 0))))))),bC (n:=1) (m:=0) rfl h⟩
theorem qo :
  aR P' w K mg base CX0 2 sI kW ["thing","low","high"] (spD pW):=by
 refine T.wA.ok IU (fun vs H Q E h=>aI h) (fun cdv A outer s H vs Q E hr h=>?_)
 exact ⟨_,(aq (s_r (jA (ao (Jb T) (Br.hm hr) rfl T.J8 T.II.kp T.Fl (aa (d_v 0) af)) (oV (AV tN tY tN tY (d_v 1) (d_v 0) (d_v 2)))))),bC (n:=3) (m:=0) rfl h⟩
theorem Jc :
  aR P' w K mg base CX0 3 sJ kX ["thing"] (spD Bs):=by
 refine T.IJ.ok IV (fun vs H Q E h=>aI h) (fun cdv A outer s H vs Q E hr h=>?_)
 exact ⟨_,(aq (s_r (ao (qo T) (Br.hm hr) rfl T.zp T.wA.kp T.sY (aa (d_v 0) (aa d_i (aa d_i af)))))),bC (n:=1) (m:=0) rfl h⟩
theorem u6 :
  aR P' w K mg base CX0 3 sL kY ["n","thing"] (spD sd):=by
 refine T.zq.ok IW (fun vs H Q E h=>aI h) (fun cdv A outer s H vs Q E hr h=>?_)
 exact ⟨_,(aq (s_r (ao (qo T) (Br.hm hr) rfl T.zp T.wA.kp T.sY (aa (d_v 1) (aa d_i (aa (l8 (d_v 0) d_i) af)))))),bC (n:=2) (m:=0) rfl h⟩
theorem Df :
  aR P' w K mg base CX0 3 sM kZ ["thing"] (spD se):=by
 refine T.Fo.ok IX (fun vs H Q E h=>aI h) (fun cdv A outer s H vs Q E hr h=>?_)
 exact ⟨_,(aq (s_r (ao (qo T) (Br.hm hr) rfl T.zp T.wA.kp T.sY (aa (d_v 0) (aa d_i (aa d_i af)))))),bC (n:=1) (m:=0) rfl h⟩
theorem Jd :
  aR P' w K mg base CX0 3 sN k7 ["thing"] (spD Bt):=by
 refine T.IK.ok IY (fun vs H Q E h=>aI h) (fun cdv A outer s H vs Q E hr h=>?_)
 exact ⟨_,(aq (s_r (ao (qo T) (Br.hm hr) rfl T.zp T.wA.kp T.sY (aa (d_v 0) (aa d_i (aa (gP d_i d_i) af)))))),bC (n:=1) (m:=0) rfl h⟩
theorem Je :
  aR P' w K mg base CX0 4 sO k8 ["n","thing"] (spD Bu):=by
 refine T.IL.ok IZ (fun vs H Q E h=>aI h) (fun cdv A outer s H vs Q E hr h=>?_)
 exact ⟨_,(ai (b8 (t_w (w_or (d9 (d_ (oW kit_tuple (by rfl) rfl T.uW rfl T.bQ (d_v 1)))) (jB (jx hr (iP rfl T.i7 (aa (d_v 1) af)) d_i)))) (aq (s_r d_b)) bA)
  (aq (s_r (jA (ao (Jd T) (Br.hm hr) rfl T.J_ T.IK.kp T.Fp (aa (aG (d_v 1) d_i) af)) (jA (ao (u6 T) (Br.hm hr) rfl T.BV T.zq.kp T.wB (aa (d_v 0) (aa (aG (d_v 1) d_i) af))) (oV (ao (u6 T) (Br.hm hr) rfl T.BV T.zq.kp T.wB (aa (d_v 0) (aa (aG (d_v 1) d_i) af))))))))),bC (n:=2) (m:=0) rfl h⟩
theorem Jf :
  aR P' w K mg base CX0 5 sV k9 ["n","thing"] (spD Bv):=by
 refine T.IM.ok I0 (fun vs H Q E h=>aI h) (fun cdv A outer s H vs Q E hr h=>?_)
 exact ⟨_,(aq (s_r (jA (ao (Je T) (Br.hm hr) rfl T.Ka T.IL.kp T.Fq (aa (d_v 0) (aa (d_v 1) af))) (oV (JK (aG (d_v 1) d_i) (aG (d_v 1) d_i)))))),bC (n:=2) (m:=0) rfl h⟩
theorem Jg :
  aR P' w K mg base CX0 1 sW k_ ["things"] (spD Bw):=by
 refine T.IP.ok I_ (fun vs H Q E h=>aI h) (fun cdv A outer s H vs Q E hr h=>?_)
 exact ⟨_,(aq (s_r (Cu rfl rfl T.CM (aa (AW ["things"] ["at"] (c_n 1 Fy rfl rfl) (Ho rfl T.bR (aa d_i (aa (iP rfl T.i7 (aa (d_v 0) af)) af))) (fun _ _ _ _ _=>di) (fun _ _ _ _ _=>(JJ (aG (d_v 0) (l8 (d_v 1) d_i)) (aG (d_v 0) (d_v 1))))) af)))),bC (n:=1) (m:=0) rfl h⟩
theorem Jh :
  aR P' w K mg base CX0 4 sX lg ["n","a","b"] (spD Bx):=by
 refine T.IQ.ok Ja (fun vs H Q E h=>aI h) (fun cdv A outer s H vs Q E hr h=>?_)
 exact ⟨_,(aq (s_r (jA (ao (u6 T) (Br.hm hr) rfl T.BV T.zq.kp T.wB (aa (d_v 0) (aa (d_v 1) af))) (jA (ao (u6 T) (Br.hm hr) rfl T.BV T.zq.kp T.wB (aa (d_v 0) (aa (d_v 2) af))) (oV (JI hr (d_v 1) (d_v 2))))))),bC (n:=3) (m:=0) rfl h⟩
theorem F1 :
  aR P' w K mg base CX0 4 j6 fL ["k"] (spD uw):=by
 refine T.CQ.ok Fz (fun vs H Q E h=>aI h) (fun cdv A outer s H vs Q E hr h=>?_)
 exact ⟨_,(aq (b8 (d9 (d_ (ao (Df T) (Br.hm hr) rfl T.Ie T.Fo.kp T.BW (aa (d_v 0) af)))) (aq eN) bA)),bC (n:=1) (m:=0) rfl h⟩
theorem F2 :
  aR P' w K mg base CX0 5 j7 fN ["n","a","b"] (spD ux):=by
 refine T.CS.ok FA (fun vs H Q E h=>aI h) (fun cdv A outer s H vs Q E hr h=>?_)
 exact ⟨_,(aq (b8 (d9 (d_ (ao (Jh T) (Br.hm hr) rfl T.Ke T.IQ.kp T.Ft (aa (d_v 0) (aa (d_v 1) (aa (d_v 2) af)))))) (aq eN) bA)),bC (n:=3) (m:=0) rfl h⟩
theorem F3 :
  aR P' w K mg base CX0 1 j8 fO ["groups","a","b"] (spD uy):=by
 refine T.CT.ok FD (fun vs H Q E h=>aI h) (fun cdv A outer s H vs Q E hr h=>?_)
 exact ⟨_,(aq (s_r (o6 0 ["groups","a","b"] ["group"] (c_n 3 BX rfl rfl) (d_v 0) (fun _ _ _ _ _=>di) (fun _ _ _ _ _=>(vG (fE hr (d_v 3) (aG (d_v 0) (d_v 2))) (aG (d_v 0) (d_v 1)) (d_v 3)))))),bC (n:=3) (m:=0) rfl h⟩
theorem F4 :
  aR P' w K mg base CX0 1 j9 fP ["layers","a","b"] (spD pX):=by
 refine T.CU.ok sZ (fun vs H Q E h=>aI h) (fun cdv A outer s H vs Q E hr h=>?_)
 exact ⟨_,(ai (fq PassesOwn.never rfl (JP rfl T.qf (d_v 0)) (g_t rfl (bJ 3 sZ.nd (bJ 4 sZ.nd jC)))
  (aq (b8 (jx hr (aG (d_v 4) (d_v 1)) (aG (d_v 4) (d_v 2))) (aq (s_r (bq (d_v 3) d_i))) bA)))
  (aq (s_r d_i))),bC (n:=3) (m:=2) rfl h⟩
theorem zY :
  aR P' w K mg base CX0 5 j_ fQ ["n","record","k"] (spD mK):=by
 refine T.zx.ok gv (fun vs H Q E h=>aI h) (fun cdv A outer s H vs Q E hr h=>?_)
 exact ⟨_,(ai (s_e (ao (F1 T) (Br.hm hr) rfl T.Ig T.CQ.kp T.zu (aa (d_v 2) af)))
  (ai (Ex 3 ["n","record","k","layers","numbers","moment","a","b","number"] ["layer"] gv.nd (c_n 9 BY rfl rfl) (vH rfl T.bR (aa (d_v 2) af)) (fun _ _ _ _ _=>di) (fun _ _ _ _ _=>(xW rfl rfl T.n8 rfl T.bR (aa (d_v 0) af))))
  (ai (s_a 4 gv.nd (d8 af))
  (ai (fq PassesOwn.never rfl (HA rfl T.lq (d_v 1)) (g_t rfl (bJ 5 gv.nd (bJ 6 gv.nd (bJ 7 gv.nd jC))))
  (ai (s_a 8 gv.nd (ao (F4 T) (Br.hm hr) rfl T.Ij T.CU.kp T.zw (aa (d_v 3) (aa (d_v 6) (aa (d_v 7) af)))))
  (ai (b8 (Eo (d_v 8) d_i) (aq (xF 3 (l8 (d_v 8) d_i) (ao (F3 T) (Br.hm hr) rfl T.Ii T.CT.kp T.zv (aa (aG (d_v 3) (l8 (d_v 8) d_i)) (aa (d_v 6) (aa (d_v 7) af)))))) bA)
  (aq (t7 4 (d_v 8))))))
  (aq (s_r (A1 rfl rfl T.n8 rfl T.lq (d_v 4)))))))),bC (n:=3) (m:=6) rfl h⟩
theorem F5 :
  aR P' w K mg base CX0 1 kg fR ["thing"] (spD uz):=by
 refine T.CV.ok FF (fun vs H Q E h=>aI h) (fun cdv A outer s H vs Q E hr h=>?_)
 exact ⟨_,(aq (s_r (d7 (aa (aG (d_v 0) d_i) (aa (jy rfl rfl T.qh (aa (aG (d_v 0) d_i) (aa (aG (d_v 0) d_i) af))) (aa (jz rfl rfl T.qg (aa (aG (d_v 0) d_i) (aa (aG (d_v 0) d_i) af))) af)))))),bC (n:=1) (m:=0) rfl h⟩
theorem F6 :
  aR P' w K mg base CX0 1 kh fS ["ties"] (spD uA):=by
 refine T.CW.ok zT (fun vs H Q E h=>aI h) (fun cdv A outer s H vs Q E hr h=>?_)
 exact ⟨_,(aq (fq PassesOwn.never rfl (Ho rfl T.bR (aa d_i (aa (iP rfl T.i7 (aa (d_v 0) af)) af))) (g_n 1 zT.nd)
  (aq (b8 (fE hr (aG (aG (d_v 0) (l8 (d_v 1) d_i)) d_i) (aG (aG (d_v 0) (d_v 1)) d_i)) (aq eN) bA)))),bC (n:=1) (m:=1) rfl h⟩
theorem F7 :
  aR P' w K mg base CX0 6 ki fT ["n","thing"] (spD uB):=by
 refine T.CY.ok FG (fun vs H Q E h=>aI h) (fun cdv A outer s H vs Q E hr h=>?_)
 obtain ⟨g8,qq⟩:=T.lu
 exact ⟨_,(ai (b8 (t_w (w_or (d9 (d_ (ao (Jc T) (Br.hm hr) rfl T.J9 T.IJ.kp T.Fv (aa (d_v 0) af)))) (w_or (d9 (d_ (oW xH (by rfl) rfl T.n8 rfl T.bQ (d_v 1)))) (jB (Eo (iP rfl T.i7 (aa (d_v 1) af)) (d_g rfl qq)))))) (aq (s_r d_b)) bA)
  (ai (b8 (d9 (d_ (Cu rfl rfl T.CM (aa (o6 1 ["n","thing"] ["tie"] (c_n 2 BZ rfl rfl) (d_v 1) (fun _ _ _ _ _=>di) (fun _ _ _ _ _=>(ao (Jf T) (Br.hm hr) rfl T.Kc T.IM.kp T.Fw (aa (d_v 0) (aa (d_v 2) af))))) af)))) (aq (s_r d_b)) bA)
  (aq (s_r (ao (Jg T) (Br.hm hr) rfl T.Kd T.IP.kp T.Fx (aa (o6 1 ["n","thing"] ["tie"] (c_n 2 B0 rfl rfl) (d_v 1) (fun _ _ _ _ _=>di) (fun _ _ _ _ _=>(aG (d_v 2) d_i))) af)))))),bC (n:=2) (m:=0) rfl h⟩
theorem F8 :
  aR P' w K mg base CX0 1 kj fU ["record","t"] (spD uC):=by
 refine T.CZ.ok FH (fun vs H Q E h=>aI h) (fun cdv A outer s H vs Q E hr h=>?_)
 exact ⟨_,(aq (s_r (o6 0 ["record","t"] ["tie"] (c_n 2 B3 rfl rfl) (d_v 0) (fun _ _ _ _ _=>rJ (Ep (aG (d_v 2) d_i) (d_v 1))) (fun _ _ _ _ _=>(d_v 2))))),bC (n:=2) (m:=0) rfl h⟩
theorem F9 :
  aR P' w K mg base CX0 7 ko fV ["thing"] (spD uD):=by
 refine T.C0.ok FJ (fun vs H Q E h=>aI h) (fun cdv A outer s H vs Q E hr h=>?_)
 exact ⟨_,(ai (b8 (t_w (w_or (d9 (d_ (oW kit_tuple (by rfl) rfl T.uW rfl T.bQ (d_v 0)))) (jB (jx hr (iP rfl T.i7 (aa (d_v 0) af)) d_i)))) (aq (s_r d_b)) bA)
  (ai (b8 (t_w (w_or (d9 (d_ (ao (Df T) (Br.hm hr) rfl T.Ie T.Fo.kp T.BW (aa (aG (d_v 0) d_i) af)))) (jB (d9 (d_ (ao (F7 T) (Br.hm hr) rfl T.Im T.CY.kp T.zy (aa (aG (d_v 0) d_i) (aa (aG (d_v 0) d_i) af)))))))) (aq (s_r d_b)) bA)
  (aq (s_r (Hi hr d_i (ao (zY T) (Br.hm hr) rfl T.CO T.zx.kp T.uZ (aa (aG (d_v 0) d_i) (aa (aG (d_v 0) d_i) (aa (aG (d_v 0) d_i) af))))))))),bC (n:=1) (m:=0) rfl h⟩
theorem lC :
  aR P' w K mg base CX0 8 kr fW ["thing"] (spD iY):=by
 refine T.mP.ok FL (fun vs H Q E h=>aI h) (fun cdv A outer s H vs Q E hr h=>?_)
 exact ⟨_,(aq (b8 (d9 (d_ (ao (F9 T) (Br.hm hr) rfl T.Ip T.C0.kp T.zz (aa (d_v 0) af)))) (aq eN) bA)),bC (n:=1) (m:=0) rfl h⟩
theorem F_ :
  aR P' w K mg base CX0 9 ku fX ["net","j"] (spD uE):=by
 refine T.C1.ok FO (fun vs H Q E h=>aI h) (fun cdv A outer s H vs Q E hr h=>?_)
 exact ⟨_,(ai (s_e (ao (lC T) (Br.hm hr) rfl T.qj T.mP.kp T.ly (aa (d_v 0) af)))
  (aq (b8 (d9 (d_ (ao (qo T) (Br.hm hr) rfl T.zp T.wA.kp T.sY (aa (d_v 1) (aa d_i (aa (aG (d_v 0) d_i) af)))))) (aq eN) bA))),bC (n:=2) (m:=0) rfl h⟩
theorem n_ :
  aR P' w K mg base CX0 6 kB fY ["n","record","k"] (spD iZ):=by
 refine T.ql.ok zU (fun vs H Q E h=>aI h) (fun cdv A outer s H vs Q E hr h=>?_)
 exact ⟨_,(ai (s_a 3 zU.nd (ao (zY T) (Br.hm hr) rfl T.CO T.zx.kp T.uZ (aa (d_v 0) (aa (d_v 1) (aa (d_v 2) af)))))
  (aq (s_r (d7 (aa (d_v 0) (aa (d_v 2) (aa (AW ["n","record","k","numbers"] ["tie","number"] (c_t rfl (fun _ _ _ _ _=>(bJ 4 u5 (bJ 5 u5 jC)))) (HB rfl T.Ic (aa (d_v 1) (aa (d_v 3) af))) (fun _ _ _ _ _=>rJ (Eo (d_v 5) d_i)) (fun _ _ _ _ _=>(d_v 4))) af))))))),bC (n:=3) (m:=1) rfl h⟩
theorem Ga :
  aR P' w K mg base CX0 9 kC fZ ["net","t"] (spD uF):=by
 refine T.C2.ok FP (fun vs H Q E h=>aI h) (fun cdv A outer s H vs Q E hr h=>?_)
 exact ⟨_,(ai (s_e (ao (lC T) (Br.hm hr) rfl T.qj T.mP.kp T.ly (aa (d_v 0) af)))
  (aq (s_r (d7 (aa (aG (d_v 0) d_i) (aa (aG (d_v 0) d_i) (aa (ao (F8 T) (Br.hm hr) rfl T.Io T.CZ.kp T.zA (aa (aG (d_v 0) d_i) (aa (d_v 1) af))) af))))))),bC (n:=2) (m:=0) rfl h⟩
theorem Gb :
  aR P' w K mg base CX0 10 kD f6 ["net","j"] (spD uG):=by
 refine T.C3.ok FQ (fun vs H Q E h=>aI h) (fun cdv A outer s H vs Q E hr h=>?_)
 exact ⟨_,(ai (s_e (ao (F_ T) (Br.hm hr) rfl T.Iq T.C1.kp T.zB (aa (d_v 0) (aa (d_v 1) af))))
  (aq (s_r (ao (n_ T) (Br.hm hr) rfl T.uX T.ql.kp T.mQ (aa (aG (d_v 0) d_i) (aa (aG (d_v 0) d_i) (aa (d_v 1) af))))))),bC (n:=2) (m:=0) rfl h⟩
theorem Gd :
  aR P' w K mg base CX0 7 kE f7 ["net","more"] (spD uH):=by
 refine T.C4.ok zV (fun vs H Q E h=>aI h) (fun cdv A outer s H vs Q E hr h=>?_)
 exact ⟨_,(ai (s_a 2 zV.nd (r9 hr rfl rfl T.qi rfl T.Ib (bq (aG (d_v 0) d_i) (d_v 1))))
  (ai (s_e (ao (F6 T) (Br.hm hr) rfl T.Il T.CW.kp T.zC (aa (d_v 2) af)))
  (aq (s_r (ao (n_ T) (Br.hm hr) rfl T.uX T.ql.kp T.mQ (aa (aG (d_v 0) d_i) (aa (d_v 2) (aa (aG (d_v 0) d_i) af)))))))),bC (n:=2) (m:=1) rfl h⟩
theorem lE :
  aR P' w K mg base CX0 9 kF f9 ["net","other"] (spD gX):=by
 refine T.mR.ok FU (fun vs H Q E h=>aI h) (fun cdv A outer s H vs Q E hr h=>?_)
 exact ⟨_,(ai (s_e (ao (lC T) (Br.hm hr) rfl T.qj T.mP.kp T.ly (aa (d_v 0) af)))
  (ai (s_e (ao (lC T) (Br.hm hr) rfl T.qj T.mP.kp T.ly (aa (d_v 1) af)))
  (ai (b8 (t_w (w_or (jx hr (aG (d_v 0) d_i) (aG (d_v 1) d_i)) (jB (jx hr (aG (d_v 0) d_i) (aG (d_v 1) d_i))))) (aq eN) bA)
  (aq (s_r (ao (Gd T) (Br.hm hr) rfl T.Iv T.C4.kp T.zD (aa (d_v 0) (aa (aG (d_v 1) d_i) af)))))))),bC (n:=2) (m:=0) rfl h⟩
theorem Ge :
  aR P' w K mg base CX0 2 kG f_ ["tie","a","b"] (spD uI):=by
 refine T.C5.ok FW (fun vs H Q E h=>aI h) (fun cdv A outer s H vs Q E hr h=>?_)
 exact ⟨_,(aq (s_r (ao (F5 T) (Br.hm hr) rfl T.Ik T.CV.kp T.zF (aa (d7 (aa (aG (d_v 0) d_i) (aa (vG (fE hr (aG (d_v 0) d_i) (d_v 2)) (d_v 1) (aG (d_v 0) d_i)) (aa (vG (fE hr (aG (d_v 0) d_i) (d_v 2)) (d_v 1) (aG (d_v 0) d_i)) af)))) af)))),bC (n:=3) (m:=0) rfl h⟩
theorem Gf :
  aR P' w K mg base CX0 9 kH gb ["net","a","b"] (spD uJ):=by
 refine T.C6.ok FY (fun vs H Q E h=>aI h) (fun cdv A outer s H vs Q E hr h=>?_)
 exact ⟨_,(ai (s_e (ao (lC T) (Br.hm hr) rfl T.qj T.mP.kp T.ly (aa (d_v 0) af)))
  (ai (s_e (ao (F2 T) (Br.hm hr) rfl T.Ih T.CS.kp T.zG (aa (aG (d_v 0) d_i) (aa (d_v 1) (aa (d_v 2) af)))))
  (aq (s_r (ao (n_ T) (Br.hm hr) rfl T.uX T.ql.kp T.mQ (aa (aG (d_v 0) d_i) (aa (AW ["net","a","b"] ["tie"] (c_n 3 B4 rfl rfl) (i_S (aG (d_v 0) d_i)) (fun _ _ _ _ _=>di) (fun _ _ _ _ _=>(ao (Ge T) (Br.hm hr) rfl T.Iw T.C5.kp T.zH (aa (d_v 3) (aa (d_v 1) (aa (d_v 2) af)))))) (aa (aG (d_v 0) d_i) af)))))))),bC (n:=3) (m:=0) rfl h⟩
theorem oh :
  aR P' w K mg base CX0 1 kI gf ["script","k"] (spD i0):=by
 refine T.qm.ok dM (fun vs H Q E h=>aI h) (fun cdv A outer s H vs Q E hr h=>?_)
 exact ⟨_,(ai (s_a 2 dM.nd d_i)
  (ai (b8 (JL (d_v 1) (iP rfl T.i7 (aa (d_v 0) af))) (aq (s_a 2 dM.nd (aG (d_v 0) (d_v 1)))) bA)
  (ai (b8 (Ep (d_v 2) (gP d_i d_i)) (aq (s_r (d8 (aa (cJ (d_v 2) (nI (nI (nI (nI (gP d_i d_i) (gP d_i d_i)) (gP d_i d_i)) (gP d_i d_i)) (gP d_i d_i))) af)))) bA)
  (ai (s_a 3 dM.nd (cJ (bq (bq (bq (d_v 2) (fm (fm d_i (d_v 1)) (d_v 1))) (fm d_i (d_v 1))) d_i) d_i))
  (ai (s_a 4 dM.nd d_i)
  (ai (fq PassesOwn.never rfl (vH rfl T.bR (aa d_i af)) (g_n 5 dM.nd)
  (ai (s_a 3 dM.nd (cJ (bq (bq (fm (d_v 3) d_i) (fm d_i (d_v 5))) d_i) d_i))
  (ai (s_a 3 dM.nd (cJ (fm (d_v 3) (d_v 3)) d_i))
  (aq (s_a 4 dM.nd (bq (fm (d_v 4) d_i) (cJ (bq (fm (d_v 3) d_i) (d_v 1)) d_i)))))))
  (aq (s_r (d8 (aa (d_v 4) af)))))))))),bC (n:=2) (m:=4) rfl h⟩
theorem bg :
  aR P' w K mg base CX0 1 kJ gg ["pool","many"] (spM bu):=by
 refine T.bI.ok zW (fun vs H Q E h=>dj h) (fun cdv A outer s H vs Q E hr h=>?_)
 exact ⟨_,(ai (s_a 2 zW.nd (cJ (aG (d_v 0) d_i) (d_v 1)))
  (ai (xF 0 d_i (Hg (aG (d_v 0) d_i) (d_v 1)))
  (aq (s_r (d_v 2))))),mh (n:=2) (m:=1) rfl h⟩
theorem Gg :
  aR P' w K mg base CX0 2 kK gh ["pool"] (spM pY):=by
 refine T.C7.ok FZ (fun vs H Q E h=>dj h) (fun cdv A outer s H vs Q E hr h=>?_)
 exact ⟨_,(aq (s_r (aG (d8 (@aa _ _ _ _ _ d_i (@aa _ _ _ _ _ d_i (@aa _ _ _ _ _ d_i (@aa _ _ _ _ _ d_i (@aa _ _ _ _ _ d_i (@aa _ _ _ _ _ d_i (@aa _ _ _ _ _ d_i (@aa _ _ _ _ _ d_i af rfl) rfl) rfl) rfl) rfl) rfl) rfl) rfl)) (aN (bg T) (Br.hm hr) rfl T.bO T.bI.kp T.bD (aa (d_v 0) (aa d_i af)))))),mh (n:=1) (m:=0) rfl h⟩
theorem Gh :
  aR P' w K mg base CX0 2 kL gj ["pool","n","most"] (spM mL):=by
 refine T.C8.ok bS (fun vs H Q E h=>dj h) (fun cdv A outer s H vs Q E hr h=>?_)
 exact ⟨_,(ai (s_a 3 bS.nd (aN (bg T) (Br.hm hr) rfl T.bO T.bI.kp T.bD (aa (d_v 0) (aa (bq (d_v 2) d_i) af))))
  (ai (s_a 4 bS.nd (aN (bg T) (Br.hm hr) rfl T.bO T.bI.kp T.bD (aa (d_v 0) (aa d_i af))))
  (ai (s_a 5 bS.nd (aG (d8 (aa d_i (aa d_i (aa (gP d_i d_i) (aa d_i af))))) (d_v 4)))
  (ai (s_a 6 bS.nd (aG (d8 (aa d_i (aa (gP d_i d_i) af))) (Ht rfl T.CN (aa (JH hr (d_v 4) d_i) af))))
  (ai (s_a 7 bS.nd (aN (bg T) (Br.hm hr) rfl T.bO T.bI.kp T.bD (aa (d_v 0) (aa d_i af))))
  (ai (s_a 8 bS.nd (fm (aN (bg T) (Br.hm hr) rfl T.bO T.bI.kp T.bD (aa (d_v 0) (aa (d_v 5) af))) (d_v 6)))
  (ai (s_a 9 bS.nd (d8 af))
  (ai (fq PassesOwn.never rfl (vH rfl T.bR (aa (d_v 3) af)) (g_n 10 bS.nd)
  (ai (s_a 11 bS.nd (aN (bg T) (Br.hm hr) rfl T.bO T.bI.kp T.bD (aa (d_v 0) (aa (d_v 1) af))))
  (ai (s_a 12 bS.nd (aN (bg T) (Br.hm hr) rfl T.bO T.bI.kp T.bD (aa (d_v 0) (aa (d_v 1) af))))
  (ai (b8 (fE hr (d_v 7) d_i) (aq (s_a 12 bS.nd (cJ (bq (d_v 11) d_i) (d_v 1)))) bA)
  (ai (b8 (fE hr (d_v 7) d_i) (aq (s_a 12 bS.nd (cJ (cJ (bq (bq (d_v 11) (cJ (d_v 12) d_i)) d_i) (jy rfl rfl T.qh (aa (d_v 1) (aa d_i af)))) (d_v 1)))) bA)
  (ai (t7 9 (d7 (aa (d_v 8) (aa (jy rfl rfl T.qh (aa (d_v 11) (aa (d_v 12) af))) (aa (jz rfl rfl T.qg (aa (d_v 11) (aa (d_v 12) af))) af)))))
  (aq (s_a 8 bS.nd (bq (bq (d_v 8) d_i) (fm (aN (bg T) (Br.hm hr) rfl T.bO T.bI.kp T.bD (aa (d_v 0) (aa (d_v 5) af))) (d_v 6)))))))))))
  (aq (s_r (d_v 9))))))))))),mh (n:=3) (m:=10) rfl h⟩
theorem Gi :
  aR P' w K mg base CX0 2 kM gk ["pool","record"] (spM pZ):=by
 refine T.C9.ok zX (fun vs H Q E h=>dj h) (fun cdv A outer s H vs Q E hr h=>?_)
 exact ⟨_,(ai (b8 (fE hr (d_v 1) (d8 af)) (aq (s_r (aN (bg T) (Br.hm hr) rfl T.bO T.bI.kp T.bD (aa (d_v 0) (aa d_i af))))) bA)
  (ai (s_a 2 zX.nd (aG (aG (d_v 1) (aN (bg T) (Br.hm hr) rfl T.bO T.bI.kp T.bD (aa (d_v 0) (aa (iP rfl T.i7 (aa (d_v 1) af)) af)))) d_i))
  (aq (s_r (aG (d8 (@aa _ _ _ _ _ d_i (@aa _ _ _ _ _ (d_v 2) (@aa _ _ _ _ _ (bq (d_v 2) d_i) (@aa _ _ _ _ _ (jz rfl rfl T.qg (aa d_i (aa (l8 (d_v 2) d_i) af))) (@aa _ _ _ _ _ (bq (aG (aG (d_v 1) (Hh d_i)) d_i) d_i) (@aa _ _ _ _ _ (d_v 2) af rfl) rfl) rfl) rfl) rfl) rfl)) (aN (bg T) (Br.hm hr) rfl T.bO T.bI.kp T.bD (aa (d_v 0) (aa d_i af)))))))),mh (n:=2) (m:=1) rfl h⟩
theorem zZ :
  aR P' w K mg base CX0 1 kN gm ["n","ties","k"] (spD p5):=by
 refine T.zI.ok gx (fun vs H Q E h=>aI h) (fun cdv A outer s H vs Q E hr h=>?_)
 exact ⟨_,(ai (Ex 3 ["n","ties","k","marks","kept","tie","at","one","other"] ["layer"] gx.nd (c_n 9 B5 rfl rfl) (vH rfl T.bR (aa (d_v 2) af)) (fun _ _ _ _ _=>di) (fun _ _ _ _ _=>(xW rfl rfl T.n8 rfl T.bR (aa (d_v 0) af))))
  (ai (s_a 4 gx.nd (d8 af))
  (ai (fq PassesOwn.never rfl (i_S (Cv (yE rfl T.qi (aa (d_v 1) af)))) (g_n 5 gx.nd)
  (aq (fq PassesOwn.never rfl (vH rfl T.bR (aa (d_v 2) af)) (g_n 6 gx.nd)
  (ai (s_a 7 gx.nd (aG (aG (d_v 3) (d_v 6)) (aG (d_v 5) d_i)))
  (ai (s_a 8 gx.nd (aG (aG (d_v 3) (d_v 6)) (aG (d_v 5) d_i)))
  (aq (b8 (jx hr (d_v 7) (d_v 8)) (ai (xF 3 (d_v 6) (AW ["n","ties","k","marks","kept","tie","at","one","other"] ["mark"] (c_n 9 B6 rfl rfl) (i_S (aG (d_v 3) (d_v 6))) (fun _ _ _ _ _=>di) (fun _ _ _ _ _=>(vG (fE hr (d_v 9) (d_v 8)) (d_v 7) (d_v 9)))))
  (ai (t7 4 (d_v 5))
  (aq JN))) bA)))))))
  (aq (s_r (d7 (aa (d_v 0) (aa (d_v 2) (aa (Cv (d_v 4)) af))))))))),bC (n:=3) (m:=6) rfl h⟩
theorem Gj :
  aR P' w K mg base CX0 2 kO gn ["pool","record"] (spM p6):=by
 refine T.C_.ok n9 (fun vs H Q E h=>dj h) (fun cdv A outer s H vs Q E hr h=>?_)
 exact ⟨_,(Bh 2 3 n9.nd (jS (jS (jS yz))) (HH PassesOwn.never rfl (i_S (d_v 1)) (g_n 3 n9.nd)
  (yb (n_a 4 n9.nd (aN (bg T) (Br.hm hr) rfl T.bO T.bI.kp T.bD (aa (d_v 0) (aa d_i af))))
  (yb (CB (d_v 4) (d_v 3))
  (CA (JR (fE hr (aN (bg T) (Br.hm hr) rfl T.bO T.bI.kp T.bD (aa (d_v 0) (aa d_i af))) d_i) (CA (CB (cJ (bq (d_v 4) d_i) d_i) (d_v 3))) HG)))))
  (aq (s_r (d_v 2)))),mh (n:=2) (m:=3) rfl h⟩
theorem Gk :
  aR P' w K mg base CX0 10 kP gp ["pool","nets"] (spM p7):=by
 refine T.Dc.ok gy (fun vs H Q E h=>dj h) (fun cdv A outer s H vs Q E hr h=>?_)
 exact ⟨_,(ai (s_a 2 gy.nd (aN (bg T) (Br.hm hr) rfl T.bO T.bI.kp T.bD (aa (d_v 0) (aa d_i af))))
  (ai (s_a 3 gy.nd (aG (d_v 1) (d_v 2)))
  (ai (s_a 4 gy.nd (aG (d_v 1) (cJ (bq (d_v 2) d_i) d_i)))
  (ai (s_a 5 gy.nd (aG (d_v 1) (cJ (bq (d_v 2) d_i) d_i)))
  (ai (b8 (fE hr (aN (bg T) (Br.hm hr) rfl T.bO T.bI.kp T.bD (aa (d_v 0) (aa d_i af))) d_i) (aq (s_a 6 gy.nd (ao (lE T) (Br.hm hr) rfl T.qk T.mR.kp T.lz (aa (d_v 3) (aa (ao (lE T) (Br.hm hr) rfl T.qk T.mR.kp T.lz (aa (d_v 4) (aa (d_v 5) af))) af))))) (aq (s_a 6 gy.nd (ao (lE T) (Br.hm hr) rfl T.qk T.mR.kp T.lz (aa (ao (lE T) (Br.hm hr) rfl T.qk T.mR.kp T.lz (aa (d_v 3) (aa (d_v 4) af))) (aa (d_v 5) af))))))
  (aq (s_r (ao (lE T) (Br.hm hr) rfl T.qk T.mR.kp T.lz (aa (d_v 5) (aa (d_v 6) af)))))))))),mh (n:=2) (m:=5) rfl h⟩
theorem Gm :
  aR P' w K mg base CX0 1 kQ gq ["ties","a","b"] (spD uK):=by
 refine T.Dd.ok gA (fun vs H Q E h=>aI h) (fun cdv A outer s H vs Q E hr h=>?_)
 exact ⟨_,(ai (s_a 3 gA.nd (d8 af))
  (ai (fq PassesOwn.never rfl (i_S (d_v 0)) (g_t rfl (bJ 4 gA.nd (bJ 5 gA.nd (bJ 6 gA.nd jC))))
  (ai (s_a 5 gA.nd (vG (fE hr (d_v 5) (d_v 2)) (d_v 1) (d_v 5)))
  (ai (s_a 6 gA.nd (vG (fE hr (d_v 6) (d_v 2)) (d_v 1) (d_v 6)))
  (aq (t7 3 (d7 (aa (d_v 4) (aa (jy rfl rfl T.qh (aa (d_v 5) (aa (d_v 6) af))) (aa (jz rfl rfl T.qg (aa (d_v 5) (aa (d_v 6) af))) af)))))))))
  (aq (s_r (d_v 3))))),bC (n:=3) (m:=4) rfl h⟩
theorem Gn :
  aR P' w K mg base CX0 11 kR gu ["way","net","ties","t","j","a","b"] (spD p8):=by
 refine T.De.ok F0 (fun vs H Q E h=>aI h) (fun cdv A outer s H vs Q E hr h=>?_)
 exact ⟨_,(ai (b8 (fE hr (d_v 0) d_i) (aq (s_r (d7 (aa (ao (Ga T) (Br.hm hr) rfl T.Ir T.C2.kp T.zJ (aa (d_v 1) (aa (d_v 3) af))) (aa (o6 2 ["way","net","ties","t","j","a","b"] ["tie"] (c_n 7 B7 rfl rfl) (d_v 2) (fun _ _ _ _ _=>rJ (Ep (aG (d_v 7) d_i) (d_v 3))) (fun _ _ _ _ _=>(d_v 7))) af))))) bA)
  (ai (b8 (t_w (w_and (fE hr (d_v 0) d_i) (xE (JM (d_v 4) (aG (d_v 1) d_i))))) (aq (s_r (d7 (aa (ao (Gb T) (Br.hm hr) rfl T.Iu T.C3.kp T.zK (aa (d_v 1) (aa (d_v 4) af))) (aa (d_v 2) af))))) bA)
  (ai (b8 (t_w (w_and (fE hr (d_v 0) d_i) (xE (jx hr (d_v 5) (d_v 6))))) (aq (s_r (d7 (aa (ao (Gf T) (Br.hm hr) rfl T.Iz T.C6.kp T.zL (aa (d_v 1) (aa (d_v 5) (aa (d_v 6) af)))) (aa (ao (Gm T) (Br.hm hr) rfl T.IF T.Dd.kp T.zM (aa (d_v 2) (aa (d_v 5) (aa (d_v 6) af)))) af))))) bA)
  (aq (s_r (d7 (aa (d_v 1) (aa (d_v 2) af)))))))),bC (n:=7) (m:=0) rfl h⟩
theorem Gp :
  aR P' w K mg base CX0 12 kT iN ["script"] (spD jW):=by
 refine T.IS.ok bf (fun vs H Q E h=>aI h) (fun cdv A outer s H vs Q E hr h=>?_)
 exact ⟨_,(ai (fq PassesOwn.never rfl (JS rfl T.bR (aa d_i (aa (jz rfl rfl T.qg (aa d_i (aa (jy rfl rfl T.qh (aa (iP rfl T.i7 (aa (d_v 0) af)) (aa d_i af))) af))) (aa d_i af)))) (g_n 1 bf.nd)
  (ai (s_a 2 bf.nd (ao (oh T) (Br.hm hr) rfl T.uY T.qm.kp T.mS (aa (d_v 0) (aa (d_v 1) af))))
  (ai (s_a 3 bf.nd (aN (Gg T) (Br.hm hr) rfl T.IA T.C7.kp T.zN (aa (d_v 2) af)))
  (ai (s_a 4 bf.nd (bq d_i (aN (bg T) (Br.hm hr) rfl T.bO T.bI.kp T.bD (aa (d_v 2) (aa d_i af)))))
  (ai (s_a 5 bf.nd (Ba (Gh T) (Br.hm hr) rfl T.IB T.C8.kp T.zO (aa (ao (oh T) (Br.hm hr) rfl T.uY T.qm.kp T.mS (aa (d_v 0) (aa (bq (d_v 1) d_i) af))) (aa (d_v 3) (aa d_i af)))))
  (ai (s_a 2 bf.nd (ao (oh T) (Br.hm hr) rfl T.uY T.qm.kp T.mS (aa (d_v 0) (aa (bq (d_v 1) d_i) af))))
  (ai (Ex 6 ["script","at","pool","n","k","record","nets","kept","net","ties","t","j","a","b","first","way"] ["piece"] bf.nd (c_n 16 B8 rfl rfl) (i_S (aN (Gj T) (Br.hm hr) rfl T.ID T.C_.kp T.zQ (aa (d_v 2) (aa (d_v 5) af)))) (fun _ _ _ _ _=>di) (fun _ _ _ _ _=>(ao (n_ T) (Br.hm hr) rfl T.uX T.ql.kp T.mQ (aa (d_v 3) (aa (d_v 16) (aa (d_v 4) af))))))
  (ai (s_a 7 bf.nd (yD hr rfl T.zo (aa (d_v 6) af)))
  (ai (s_a 2 bf.nd (ao (oh T) (Br.hm hr) rfl T.uY T.qm.kp T.mS (aa (d_v 0) (aa (bq (d_v 1) d_i) af))))
  (ai (s_a 8 bf.nd (aN (Gk T) (Br.hm hr) rfl T.IE T.Dc.kp T.zR (aa (d_v 2) (aa (d_v 6) af))))
  (ai (b8 (t_w (w_or (jx hr (d_v 8) (ao (zZ T) (Br.hm hr) rfl T.CP T.zI.kp T.u0 (aa (d_v 3) (aa (d_v 5) (aa (d_v 4) af))))) (jB (jx hr (yD hr rfl T.zo (aa (d_v 6) af)) (d_v 7))))) (aq (s_r d_b)) bA)
  (ai (s_a 9 bf.nd (d_v 5))
  (ai (s_a 10 bf.nd (aN (Gi T) (Br.hm hr) rfl T.IC T.C9.kp T.zP (aa (d_v 2) (aa (d_v 5) af))))
  (ai (s_a 11 bf.nd (bq d_i (aN (bg T) (Br.hm hr) rfl T.bO T.bI.kp T.bD (aa (d_v 2) (aa (d_v 4) af)))))
  (ai (s_a 12 bf.nd (aN (bg T) (Br.hm hr) rfl T.bO T.bI.kp T.bD (aa (d_v 2) (aa (d_v 3) af))))
  (ai (s_a 13 bf.nd (aN (bg T) (Br.hm hr) rfl T.bO T.bI.kp T.bD (aa (d_v 2) (aa (d_v 3) af))))
  (ai (s_a 14 bf.nd (aN (bg T) (Br.hm hr) rfl T.bO T.bI.kp T.bD (aa (d_v 2) (aa d_i af))))
  (aq (fq PassesOwn.never rfl (vH rfl T.bR (aa d_i af)) (g_n 15 bf.nd)
  (ai (s_u rfl (bJ 8 bf.nd (bJ 9 bf.nd jC)) (ao (Gn T) (Br.hm hr) rfl T.IG T.De.kp T.zS (@aa _ _ _ _ _ (cJ (bq (d_v 14) (d_v 15)) d_i) (@aa _ _ _ _ _ (d_v 8) (@aa _ _ _ _ _ (d_v 9) (@aa _ _ _ _ _ (d_v 10) (@aa _ _ _ _ _ (d_v 11) (@aa _ _ _ _ _ (d_v 12) (@aa _ _ _ _ _ (d_v 13) af rfl) rfl) rfl) rfl) rfl) rfl) rfl)))
  (aq (b8 (t_w (w_or (jx hr (d_v 8) (ao (zZ T) (Br.hm hr) rfl T.CP T.zI.kp T.u0 (aa (d_v 3) (aa (d_v 9) (aa (aG (d_v 8) d_i) af))))) (jB (jx hr (yD hr rfl T.zo (aa (d_v 6) af)) (d_v 7))))) (aq (s_r d_b)) bA))))))))))))))))))))))
  (aq (s_r d_b))),bC (n:=1) (m:=15) rfl h⟩
end
theorem all_mk {l:PySem.W.OpenLaw} {w:World} {K:PySem.W.Frag} {h:Heap} {mg:Str→Option Value} {fa sH sI sJ sL sM sN sO sV sW sX j6 j7 j8 j9 j_ kg kh ki kj ko kr ku kB kC kD kE kF kG kH kI kJ kK kL kM kN kO kP kQ kR kT:Addr} {kU kW kX kY kZ k7 k8 k9 k_ lg fL fN fO fP fQ fR fS fT fU fV fW fX fY fZ f6 f7 f9 f_ gb gf gg gh gj gk gm gn gp gq gu iN:FuncData} (X:K.In h) (G:h.Ns mainGlobals mg) (hfa:mg "law" = some (.ref fa))
  {g8:Tok}
  (z0:aV K "is_whole" (top 8) sH kU)
  (z5:aV K "is_within" (top 9) sI kW)
  (z6:aV K "is_places" (top 10) sJ kX)
  (z7:aV K "is_place" (top 11) sL kY)
  (z8:aV K "is_layers" (top 12) sM kZ)
  (z9:aV K "is_moment" (top 13) sN k7)
  (z_:aV K "is_tie_either_way" (top 14) sO k8)
  (Aa:aV K "is_tie" (top 15) sV k9)
  (Ab:aV K "is_rising" (top 16) sW k_)
  (Ac:aV K "is_pair" (top 17) sX lg)
  (qt:aV K "look_at_layers" (top 18) j6 fL)
  (qu:aV K "look_at_pair" (top 19) j7 fN)
  (qv:aV K "merged" (top 21) j8 fO)
  (qw:aV K "least_layer" (top 24) j9 fP)
  (qx:aV K "layered" (top 23) j_ fQ)
  (qy:aV K "put_in_order" (top 27) kg fR)
  (qz:aV K "look_for_clash" (top 28) kh fS)
  (qA:aV K "is_record" (top 29) ki fT)
  (qB:aV K "since" (top 30) kj fU)
  (qC:aV K "is_net" (top 32) ko fV)
  (qD:aV K "look_at_net" (top 33) kr fW)
  (qE:aV K "look_at_net_layers" (top 34) ku fX)
  (qF:aV K "net_of" (top 35) kB fY)
  (qG:aV K "net_since" (top 36) kC fZ)
  (qH:aV K "net_fewer" (top 37) kD f6)
  (qI:aV K "net_with" (top 40) kE f7)
  (qJ:aV K "laid" (top 39) kF f9)
  (qK:aV K "tie_melted" (top 42) kG f_)
  (qL:aV K "net_melted" (top 41) kH gb)
  (qM:aV K "_law_pool" (top 44) kI gf)
  (qN:aV K "_law_take" (top 45) kJ gg)
  (qO:aV K "_law_many" (top 46) kK gh)
  (qP:aV K "_law_record" (top 47) kL gj)
  (qQ:aV K "_law_moment" (top 48) kM gk)
  (qR:aV K "_law_net" (top 50) kN gm)
  (qS:aV K "_law_pieces" (top 51) kO gn)
  (qT:aV K "_law_laid" (top 52) kP gp)
  (qU:aV K "_law_melted" (top 53) kQ gq)
  (qV:aV K "_law_deed" (top 54) kR gu)
  (mT:aV K "law" (top 55) kT iN)
  (Ad:PySem.W.nsIn K mainGlobals "all" = some none)
  (s_:PySem.W.nsIn K mainGlobals "bool" = some none)
  (eH:PySem.W.nsIn K mainGlobals "enumerate" = some none)
  (Ae:PySem.W.nsIn K mainGlobals "int" = some none)
  (dN:PySem.W.nsIn K mainGlobals "isinstance" = some none)
  (Af:PySem.W.nsIn K mainGlobals "len" = some none)
  (tu:PySem.W.nsIn K mainGlobals "list" = some none)
  (Ag:PySem.W.nsIn K mainGlobals "max" = some none)
  (Ah:PySem.W.nsIn K mainGlobals "min" = some none)
  (oj:PySem.W.nsIn K mainGlobals "range" = some none)
  (gB:PySem.W.nsIn K mainGlobals "reversed" = some none)
  (Ai:PySem.W.nsIn K mainGlobals "set" = some none)
  (lF:PySem.W.nsIn K mainGlobals "sorted" = some none)
  (Aj:PySem.W.nsIn K mainGlobals "str" = some none)
  (oq:PySem.W.nsIn K mainGlobals "tuple" = some none)
  (Ak:PySem.W.nsIn K mainGlobals "zip" = some none)
  (eK:PySem.W.nsIn K mainGlobals "MOST_TIES" = some (some (.int 60 g8))) :
  ∃ fd:FuncData,(∀ (s:Shared) (v:Value),BindsTo s fd ⟨[v],[]⟩ [("script",v)])∧∀ base:Heap,K.In base→base.Ns mainGlobals mg→aR l.prog w K mg base CX0 12 fa fd ["script"] (spD jW):=by
 have e:=hfa.symm.trans (mT.m X G)
 cases e
 have Fl:=z0.F.cE (ps:=["thing"]) rfl fun _ _ _ _ _ _ _=>rfl
 have sY:=z5.F.b_ (ps:=["thing","low","high"]) rfl fun _ _ _ _ _ _ _ _ _=>rfl
 have Fv:=z6.F.cE (ps:=["thing"]) rfl fun _ _ _ _ _ _ _=>rfl
 have wB:=z7.F.bK (ps:=["n","thing"]) rfl fun _ _ _ _ _ _ _ _=>rfl
 have BW:=z8.F.cE (ps:=["thing"]) rfl fun _ _ _ _ _ _ _=>rfl
 have Fp:=z9.F.cE (ps:=["thing"]) rfl fun _ _ _ _ _ _ _=>rfl
 have Fq:=z_.F.bK (ps:=["n","thing"]) rfl fun _ _ _ _ _ _ _ _=>rfl
 have Fw:=Aa.F.bK (ps:=["n","thing"]) rfl fun _ _ _ _ _ _ _ _=>rfl
 have Fx:=Ab.F.cE (ps:=["things"]) rfl fun _ _ _ _ _ _ _=>rfl
 have Ft:=Ac.F.b_ (ps:=["n","a","b"]) rfl fun _ _ _ _ _ _ _ _ _=>rfl
 have zu:=qt.F.cE (ps:=["k"]) rfl fun _ _ _ _ _ _ _=>rfl
 have zG:=qu.F.b_ (ps:=["n","a","b"]) rfl fun _ _ _ _ _ _ _ _ _=>rfl
 have zv:=qv.F.b_ (ps:=["groups","a","b"]) rfl fun _ _ _ _ _ _ _ _ _=>rfl
 have zw:=qw.F.b_ (ps:=["layers","a","b"]) rfl fun _ _ _ _ _ _ _ _ _=>rfl
 have uZ:=qx.F.b_ (ps:=["n","record","k"]) rfl fun _ _ _ _ _ _ _ _ _=>rfl
 have zF:=qy.F.cE (ps:=["thing"]) rfl fun _ _ _ _ _ _ _=>rfl
 have zC:=qz.F.cE (ps:=["ties"]) rfl fun _ _ _ _ _ _ _=>rfl
 have zy:=qA.F.bK (ps:=["n","thing"]) rfl fun _ _ _ _ _ _ _ _=>rfl
 have zA:=qB.F.bK (ps:=["record","t"]) rfl fun _ _ _ _ _ _ _ _=>rfl
 have zz:=qC.F.cE (ps:=["thing"]) rfl fun _ _ _ _ _ _ _=>rfl
 have ly:=qD.F.cE (ps:=["thing"]) rfl fun _ _ _ _ _ _ _=>rfl
 have zB:=qE.F.bK (ps:=["net","j"]) rfl fun _ _ _ _ _ _ _ _=>rfl
 have mQ:=qF.F.b_ (ps:=["n","record","k"]) rfl fun _ _ _ _ _ _ _ _ _=>rfl
 have zJ:=qG.F.bK (ps:=["net","t"]) rfl fun _ _ _ _ _ _ _ _=>rfl
 have zK:=qH.F.bK (ps:=["net","j"]) rfl fun _ _ _ _ _ _ _ _=>rfl
 have zD:=qI.F.bK (ps:=["net","more"]) rfl fun _ _ _ _ _ _ _ _=>rfl
 have lz:=qJ.F.bK (ps:=["net","other"]) rfl fun _ _ _ _ _ _ _ _=>rfl
 have zH:=qK.F.b_ (ps:=["tie","a","b"]) rfl fun _ _ _ _ _ _ _ _ _=>rfl
 have zL:=qL.F.b_ (ps:=["net","a","b"]) rfl fun _ _ _ _ _ _ _ _ _=>rfl
 have mS:=qM.F.bK (ps:=["script","k"]) rfl fun _ _ _ _ _ _ _ _=>rfl
 have bD:=qN.F.bK (ps:=["pool","many"]) rfl fun _ _ _ _ _ _ _ _=>rfl
 have zN:=qO.F.cE (ps:=["pool"]) rfl fun _ _ _ _ _ _ _=>rfl
 have zO:=qP.F.b_ (ps:=["pool","n","most"]) rfl fun _ _ _ _ _ _ _ _ _=>rfl
 have zP:=qQ.F.bK (ps:=["pool","record"]) rfl fun _ _ _ _ _ _ _ _=>rfl
 have u0:=qR.F.b_ (ps:=["n","ties","k"]) rfl fun _ _ _ _ _ _ _ _ _=>rfl
 have zQ:=qS.F.bK (ps:=["pool","record"]) rfl fun _ _ _ _ _ _ _ _=>rfl
 have zR:=qT.F.bK (ps:=["pool","nets"]) rfl fun _ _ _ _ _ _ _ _=>rfl
 have zM:=qU.F.b_ (ps:=["ties","a","b"]) rfl fun _ _ _ _ _ _ _ _ _=>rfl
 have zS:=qV.F.EL (ps:=["way","net","ties","t","j","a","b"]) rfl fun _ _ _ _ _ _ _ _ _ _ _ _ _=>rfl
 refine ⟨_,fun s v=>mT.J2 (fun _ _ _ _ _ _ _=>rfl) s v,fun base Xb _=>?_⟩
 have T:Txt mg K base _ _ _ _ _ _ _ _ _ _ _ _ _ _ _ _ _ _ _ _ _ _ _ _ _ _ _ _ _ _ _ _ _ _ _ _ _ _ _ _ _ _ _ _ _ _ _ _ _ _ _ _ _ _ _ _ _ _ _ _ _ _ _ _ _ _ _ _ _ _ _ _ _ _ _ _ _ _ _ _:=⟨mno X G Ad,mno X G s_,mno X G eH,mno X G Ae,mno X G dN,mno X G Af,mno X G tu,mno X G Ag,mno X G Ah,mno X G oj,mno X G gB,mno X G Ai,mno X G lF,mno X G Aj,mno X G oq,mno X G Ak,⟨_,mgo X G eK⟩,z0.m X G,z5.m X G,z6.m X G,z7.m X G,z8.m X G,z9.m X G,z_.m X G,Aa.m X G,Ab.m X G,Ac.m X G,qt.m X G,qu.m X G,qv.m X G,qw.m X G,qx.m X G,qy.m X G,qz.m X G,qA.m X G,qB.m X G,qC.m X G,qD.m X G,qE.m X G,qF.m X G,qG.m X G,qH.m X G,qI.m X G,qJ.m X G,qK.m X G,qL.m X G,qM.m X G,qN.m X G,qO.m X G,qP.m X G,qQ.m X G,qR.m X G,qS.m X G,qT.m X G,qU.m X G,qV.m X G,mT.m X G,z0.F,Fl,z5.F,sY,z6.F,z7.F,z8.F,z9.F,wB,Fp,z_.F,Fq,Aa.F,Ab.F,Ac.F,BW,qt.F,Ft,qu.F,qv.F,qw.F,zu,zv,zw,qx.F,qy.F,qz.F,Fv,Fw,Fx,qA.F,qB.F,uZ,zy,qC.F,zz,qD.F,ly,qE.F,qF.F,zA,qG.F,zB,mQ,qH.F,zC,qI.F,zD,qJ.F,zF,qK.F,zG,zH,qL.F,qM.F,qN.F,bD,qO.F,qP.F,qQ.F,qR.F,qS.F,lz,qT.F,qU.F,zJ,zK,zL,zM,qV.F,mS,zN,zO,zP,u0,zQ,zR,zS,mT.F⟩
 exact Gp T
theorem walk {l:PySem.W.OpenLaw} {q:Program} {loose:List Str} {XP:(Str→Option Value)→Heap→Prop} {YP:World→Heap→Prop} {d:DefRec} {K:Params→PySem.W.Frag} (hn:l.most=some 63) (hdf:d.params.defaults=[])
  (hY:∀ (w:World) (h:Heap),YP w h→(K w.params).In h) (M:∀ ns:List Int,ns.length≤63→jW [.lst (ns.map Dat.int)]=some (.val (.bl true))) (hK:∀ w:World,xN (K w.params)=true)
  (F:∀ (w:World) (mg:Str→Option Value) (fa:Addr) (h:Heap),(K w.params).In h→h.Ns mainGlobals mg→mg d.name=some (.ref fa) →
   ∃ fd:FuncData,(∀ (s:Shared) (u:Value),BindsTo s fd ⟨[u],[]⟩ [("script",u)])∧∀ base:Heap,(K w.params).In base→base.Ns mainGlobals mg→aR l.prog w (K w.params) mg base CX0 12 fa fd ["script"] (spD jW)) :
  PySem.W.WalkO q loose XP YP l.row.toRowW d [] (fun f vs=>PySem.call f vs):=
 L2.AA (n:=63) (k:=12) (x := "script") (CX:=fun _=>CX0) (sp:=fun _=>spD jW) hn (by decide) hdf ⟨rfl,by decide,by decide,rfl⟩ hY F
  (fun w H a ns hl hO hS=>Ey (M ns hl) (hK w) hS) fun _ _ _ _ _ z=>z
open PySem PySem.W PySem.W.X
theorem Al {q:Program} {loose:List Str} {XP:(Str→Option Value)→Heap→Prop} {r:RowW} {d:DefRec} {kwd:List (Str×Expr)} {run:Value→List Value→Sem Value} {K:Params→Frag} {as:List Addr} {n t:Nat} (e:∀ P,as=(K P).map (·.1))
  (W:WalkO q loose XP (fun w h=>(K w.params).In h) r d kwd run):WalkX q loose XP (obsZ as) (valZ K n t) r d kwd run:=
 fun w s₀ s₁ mg mb G y a o pm cd doc dV kV ho hd hcd hD hmg hg args vals as' L=>W w s₀ s₁ mg mb G (InK.keeps w _ _ (z_facts e y).2.1 L.keeps) a o pm cd doc dV kV ho hd hcd hD hmg hg args vals as'
end Q
noncomputable def PySem.W.Fast.tw10367433561759011750:PySem.Program:=PySem.Challenge.pw_sinceply_k67_whole_nets_in_pieces
theorem PySem.W.Fast.te10367433561759011750:PySem.Challenge.pw_sinceply_k67_whole_nets_in_pieces=PySem.W.Fast.tw10367433561759011750:=rfl
namespace PySem.W.Fast
def tw5330960599332854194:=0
def tw8857437184221605949:=0
def tw11510142856285498168:=0
def tw12181436814326906668:=0
def tw12487250892879150346:=0
def tw1175649191075642403:=0
def tw1621250740275103287:=0
def tw3126159032180295819:=0
def tw16933323327135543338:=0
def tw16700832481098444191:=0
def tw4301302536438315880:=0
def tw7542842437926323197:=0
def tw4055571625538801474:=0
def tw15394717921138760087:=0
def tw17797223637538290494:=0
def tw15205038872555570404:=0
def tw14410014201814031106:=0
def tw13446238902549548620:=0
def tw8717279533500254296:=0
def tw9502547830208502614:=0
def tw15651514321209244829:=0
def tw11494011345774772210:=0
def tw13925982979523444080:=0
def tw16528974374680055886:=0
def tw13575057245733649089:=0
def tw16997928559553981417:=0
def tw10803073118642030959:=0
def tw17257947776811308474:=0
def tw13355743798092822861:=0
def tw13676305226831193820:=0
def tw7437932308746173959:=0
def tw11157163684417920031:=0
def tw688215424297083563:=0
def tw7969832294886560041:=0
def tw4901530843667457587:=0
def tw9610714248200943243:=0
def tw17858640389397278241:=0
def tw11270445613899609284:=0
def tw13636249833752718391:=0
def tw13438451864868853076:=0
def tw17445653062974086284:=0
def tw18181411585785774738:=0
def tw10072248171211331354:=0
def tw6435879660409361782:=0
def tw4553071620853063853:=0
def tw17966888520478134537:=0
def tw1070845843255025966:=0
def tw7294019734042450070:=0
def tw5194606347069583996:=0
def tw7422563040615678573:=0
def tw5749052900888707370:=0
def tw5427044524929897258:=0
def tw1082397728548981989:=0
def tw13602111547492760695:=0
def tw11030770727608804048:=0
def tw17947915696727898018:=0
def tw1235014001544590852:=0
def tw11311754163959542315:=0
def tw11677690312146940984:=0
def tw13420628996724766250:=0
def tw15497122156001211777:=0
def tw13143875790654656823:=0
def tw6731522272835521663:=0
def tw1705648717588873961:=0
def tw5077537935141334386:=0
def tw8064490039481771336:=0
def tw13958050976310672058:=0
def tw12221849292185219518:=0
def tw8292246705970636472:=0
def tw14399883229831135666:=0
def tw17739683688702863162:=0
def tw13818242153512059431:=0
def tw12982961254980706560:=0
def tw12107655387467783811:=0
def tw2854627576758349411:=0
def tw14680209164920606854:=0
def tw2128878465216027583:=0
def tw15921473246248163846:=0
def tw12334950926896749376:=0
def tw708852815213786074:=0
def tw3594434861863567331:=0
def tw11591632935070300428:=0
def tw13378706500090835517:=0
def tw12111097984041479077:=0
def tw17510055559204276181:=0
def tw4243118514469056387:=0
def tw11411587553970894127:=0
def tw15630254884663713082:=0
def tw17644530543898124414:=0
def tw4734647921556287581:=0
def tw5564986924040039880:=0
def tw10413025611221337549:=0
def tw16255319859865750032:=0
def tw11672724242240855563:=0
def tw2287740024409059326:=0
def tw7195442572977000340:=0
def tw5281091784126125818:=0
def tw15273945683292377189:=0
def tw2340769586019136858:=0
def tw15423507023875664451:=0
def tw7293988585377626454:=0
def tw10809756168614714458:=0
def tw2052377021288661392:=0
def tw3773376220865009350:=0
def tw13224119251113167387:=0
def tw4915680714015891605:=0
def tw10382748989127093063:=0
def tw3193490988491125083:=0
def tw16960825055193507296:=0
def tw7185352379276732880:=0
def tw10591584581622721057:=0
def tw6085212149381400783:=0
def tw4497104332904527149:=0
def tw6101059958085527387:=0
def tw2779131857667079192:=0
def tw4146698988993469299:=0
def tw16633786066694684949:=0
def tw8283513079064317061:=0
def tw3343074269127550703:=0
def tw17088346404503549961:=0
def tw6918996893275754121:=0
def tw14189673319239706825:=0
def tw15325937937266109754:=0
def tw7479493317486314276:=0
def tw9215790791800178986:=0
def tw1932031141609986104:=0
def tw12634036549209004134:=0
def tw11089297706537142638:=0
def tw14225629608527632431:=0
def tw9759236489460053331:=0
def tw3011232245950442413:=0
def tw17178268626458935371:=0
def tw6622250403989170079:=0
def tw5121553490083194210:=0
def tw7699453870635769001:=0
def tw4802606186490378205:=0
def tw12715224637166811813:=0
def tw11963400197984051961:=0
def tw11366528031204888833:=0
def tw15164216661083634630:=0
def tw12665299176531335312:=0
def tw10553883622886507671:=0
def tw9840717813998544683:=0
def tw919366498060106643:=0
def tw5733878957920372695:=0
def tw9986284486406212862:=0
def tw6954225770450161954:=0
def tw7204500093317582563:=0
def tw467229303843914689:=0
def tw9798527108462494440:=0
def tw11501785259655994684:=0
def tw6235925948096294524:=0
def tw10683589536016923136:=0
def tw10864004465449867037:=0
def tw6931051891946453219:=0
def tw1631906210845132668:=0
def tw17777505732187966015:=0
def tw16766737166008359979:=0
def tw9422838935538904731:=0
def tw171849992480433731:=0
def tw18139822910042894206:=0
def tw7960743416698810627:=0
def tw17110729251671530509:=0
def tw14468542741344637157:=0
def tw15459033111029946065:=0
def tw8318713323906393240:=0
def tw13360878716618974743:=0
def tw7345183935001668776:=0
def tw14436297083579044411:=0
def tw5852531787162444088:=0
def tw8970881766690124121:=0
def tw18372935882894827017:=0
def tw1527458492344650252:=0
def tw12159717254693980143:=0
def tw2227253357687989079:=0
def tw5558084344708555741:=0
def tw13201457396174413158:=0
def tw11345492464612002389:=0
def tw13861225326126640677:=0
def tw15805285506969759488:=0
def tw6835420209119150867:=0
def tw16492698585968594502:=0
def tw18176244137507896482:=0
def tw7636674016005319832:=0
def tw12895021821669081495:=0
def tw6688682245340063734:=0
def tw17446985543345992275:=0
def tw7458069368472662122:=0
def tw11796365993948392984:=0
def tw8702033422003612251:=0
def tw17112845936625000563:=0
def tw5657860946785322059:=0
def tw17886297349555314630:=0
def tw10664775886327417217:=0
def tw11003844636198722402:=0
def tw11144168238463200983:=0
def tw10451591859342106239:=0
def tw12935881476551626466:=0
def tw11861802651820334283:=0
def tw5746528044892316312:=0
def tw15942517070420507135:=0
def tw18426053675398534459:=0
def tw8195506303359093001:=0
def tw15632392491592338476:=0
def tw13809304267227549835:=0
def tw3664239323719998349:=0
def tw7582154685971889642:=0
def tw3918620446044195707:=0
def tw18131004632866426019:=0
def tw13873540684698237471:=0
def tw13634045825649846396:=0
def tw6891831868658433547:=0
def tw13377802964452419816:=0
def tw17879151221647818303:=0
def tw5987703484344302163:=0
def tw7051007040477218894:=0
def tw4623118727139220964:=0
def tw3357832337150225335:=0
def tw9777965940238444456:=0
def tw1673212422374079293:=0
def tw6983738235385497708:=0
def tw1581172019660151042:=0
def tw9210166506659625374:=0
def tw11402372032625093752:=0
def tw14985735125761356702:=0
def tw18159808419826627166:=0
def tw12869898745726265963:=0
def tw8048261347247498570:=0
def tw5687277906701915890:=0
def tw6160401301661029686:=0
def tw6390265763629214723:=0
def tw16612050018604938873:=0
def tw481195971428658574:=0
def tw9180004194782834327:=0
def tw8661189103872912791:=0
def tw14674176999796668137:=0
def tw3745756881488514314:=0
def tw4581867540446656844:=0
def tw17897007262838729868:=0
def tw7203759336484707832:=0
def tw6422203850458857633:=0
def tw14039897570587918996:=0
def tw13664882956013863934:=0
def tw3724982866439711667:=0
def tw2727870383805176922:=0
def tw3913651065990985973:=0
def tw9981089997400354047:=0
def tw10988375572423471847:=0
def tw8422910489775648765:=0
def tw6747487314106918489:=0
def tw13463438424364368564:=0
def tw12638714423403454508:=0
def tw17370830932363359312:=0
def tw854097847082335375:=0
def tw14339462088615240958:=0
def tw3167373161209296694:=0
def tw3309846560154024756:=0
def tw15500788520426938644:=0
def tw10561923188869782571:=0
def tw9498394265606714143:=0
def tw15252397085412716550:=0
def tw9350626413294750275:=0
def tw14003181037667357930:=0
def tw8003438729476984572:=0
def tw1980281020666318959:=0
def tw17463664731172257623:=0
def tw9633486355152498957:=0
def tw4406176204291783295:=0
def tw2793257663587347226:=0
def tw12920094089709112641:=0
def tw11279616638722302477:=0
def tw8216467580184354496:=0
def tw14052581590086371785:=0
def tw302208800663666663:=0
def tw18284201388375631796:=0
def tw7480615628358014475:=0
def tw9235038398363089848:=0
def tw518932160445755442:=0
def tw10653414093725497843:=0
def tw17220983744741596270:=0
def tw9567186324032807986:=0
def tw4547662377461184331:=0
def tw17439657325280887442:=0
def tw2518145538963329645:=0
def tw1405154459550604604:=0
def tw11399525604475570588:=0
def tw16856964926815376697:=0
def tw16388100458463054664:=0
def tw16815817441661793997:=0
def tw6772578251059453982:=0
def tw12995036572209158138:=0
def tw16043715810982818551:=0
def tw3192883809109646967:=0
def tw16830052827430207083:=0
def tw4505866444858685441:=0
def tw10796117317199330282:=0
def tw9425978212779158853:=0
def tw4328201477969559549:=0
def tw7195207636321139268:=0
def tw15261249711740008290:=0
def tw5383447305909316282:=0
def tw6118588017272677446:=0
def tw1435010661132736331:=0
def tw2453627028662329330:=0
def tw402563556474185322:=0
def tw8185037244425136105:=0
def tw14397501420605481210:=0
def tw5164875905537106759:=0
def tw120540822436845918:=0
def tw5549535458452478414:=0
def tw17154939433489219154:=0
def tw3721543495204953054:=0
def tw627653759584144834:=0
def tw10029235451600146908:=0
def tw15591078517189064312:=0
def tw15370349045394545251:=0
def tw12088565967252393741:=0
def tw8171352175510422465:=0
def tw17181084216028143077:=0
def tw7017669818243154868:=0
def tw11495391226478177006:=0
def tw8530797579106142060:=0
def tw10552385986450224173:=0
def tw15970792373989071599:=0
def tw12667229705174060546:=0
def tw4581189119741599308:=0
def tw13410546670647508433:=0
def tw998758953012913117:=0
def tw16767442827763845244:=0
def tw5425968275041177204:=0
def tw15525267549540545179:=0
def tw14893800175000662948:=0
def tw4221461159615459306:=0
def tw9800644067746614466:=0
def tw13081896266502292175:=0
def tw6627596024547160713:=0
def tw17275203086681966159:=0
def tw9919259094785753153:=0
end PySem.W.Fast
open PySem PySem.W PyProof.Rows
set_option maxRecDepth 100000 in
set_option maxHeartbeats 0 in
theorem PySem.Challenge.cw_sinceply_k67_whole_nets_in_pieces_holds : PySem.Challenge.rw_sinceply_k67_whole_nets_in_pieces.Holds := by
 w_on;o_law;z_head;(case hw=>w_witness2)
 k_fill
 refine' Q.Al (fun _=>rfl) (Q.walk (l:=PySem.Challenge.rw_sinceply_k67_whole_nets_in_pieces) rfl rfl (fun w h Y=>Y) P.math ?noL ?fnS)
 case noL=>intro w;rfl
 case fnS=>
  intro w mg fa h KX G hmg
  refine' Q.all_mk KX G hmg ?z0 ?z5 ?z6 ?z7 ?z8 ?z9 ?z_ ?Aa ?Ab ?Ac ?qt ?qu ?qv ?qw ?qx ?qy ?qz ?qA ?qB ?qC ?qD ?qE ?qF ?qG ?qH ?qI ?qJ ?qK ?qL ?qM ?qN ?qO ?qP ?qQ ?qR ?qS ?qT ?qU ?qV ?mT ?Ad ?s_ ?eH ?Ae ?dN ?Af ?tu ?Ag ?Ah ?oj ?gB ?Ai ?lF ?Aj ?oq ?Ak ?eK
  (case z0=>refine' Br.aE ?e ?l ?c ?k;(case e=>k_is);(case l=>k_is);(case c=>k_is);(case k=>k_is))
  (case z5=>refine' Br.aE ?e ?l ?c ?k;(case e=>k_is);(case l=>k_is);(case c=>k_is);(case k=>k_is))
  (case z6=>refine' Br.aE ?e ?l ?c ?k;(case e=>k_is);(case l=>k_is);(case c=>k_is);(case k=>k_is))
  (case z7=>refine' Br.aE ?e ?l ?c ?k;(case e=>k_is);(case l=>k_is);(case c=>k_is);(case k=>k_is))
  (case z8=>refine' Br.aE ?e ?l ?c ?k;(case e=>k_is);(case l=>k_is);(case c=>k_is);(case k=>k_is))
  (case z9=>refine' Br.aE ?e ?l ?c ?k;(case e=>k_is);(case l=>k_is);(case c=>k_is);(case k=>k_is))
  (case z_=>refine' Br.aE ?e ?l ?c ?k;(case e=>k_is);(case l=>k_is);(case c=>k_is);(case k=>k_is))
  (case Aa=>refine' Br.aE ?e ?l ?c ?k;(case e=>k_is);(case l=>k_is);(case c=>k_is);(case k=>k_is))
  (case Ab=>refine' Br.aE ?e ?l ?c ?k;(case e=>k_is);(case l=>k_is);(case c=>k_is);(case k=>k_is))
  (case Ac=>refine' Br.aE ?e ?l ?c ?k;(case e=>k_is);(case l=>k_is);(case c=>k_is);(case k=>k_is))
  (case qt=>refine' Br.aE ?e ?l ?c ?k;(case e=>k_is);(case l=>k_is);(case c=>k_is);(case k=>k_is))
  (case qu=>refine' Br.aE ?e ?l ?c ?k;(case e=>k_is);(case l=>k_is);(case c=>k_is);(case k=>k_is))
  (case qv=>refine' Br.aE ?e ?l ?c ?k;(case e=>k_is);(case l=>k_is);(case c=>k_is);(case k=>k_is))
  (case qw=>refine' Br.aE ?e ?l ?c ?k;(case e=>k_is);(case l=>k_is);(case c=>k_is);(case k=>k_is))
  (case qx=>refine' Br.aE ?e ?l ?c ?k;(case e=>k_is);(case l=>k_is);(case c=>k_is);(case k=>k_is))
  (case qy=>refine' Br.aE ?e ?l ?c ?k;(case e=>k_is);(case l=>k_is);(case c=>k_is);(case k=>k_is))
  (case qz=>refine' Br.aE ?e ?l ?c ?k;(case e=>k_is);(case l=>k_is);(case c=>k_is);(case k=>k_is))
  (case qA=>refine' Br.aE ?e ?l ?c ?k;(case e=>k_is);(case l=>k_is);(case c=>k_is);(case k=>k_is))
  (case qB=>refine' Br.aE ?e ?l ?c ?k;(case e=>k_is);(case l=>k_is);(case c=>k_is);(case k=>k_is))
  (case qC=>refine' Br.aE ?e ?l ?c ?k;(case e=>k_is);(case l=>k_is);(case c=>k_is);(case k=>k_is))
  (case qD=>refine' Br.aE ?e ?l ?c ?k;(case e=>k_is);(case l=>k_is);(case c=>k_is);(case k=>k_is))
  (case qE=>refine' Br.aE ?e ?l ?c ?k;(case e=>k_is);(case l=>k_is);(case c=>k_is);(case k=>k_is))
  (case qF=>refine' Br.aE ?e ?l ?c ?k;(case e=>k_is);(case l=>k_is);(case c=>k_is);(case k=>k_is))
  (case qG=>refine' Br.aE ?e ?l ?c ?k;(case e=>k_is);(case l=>k_is);(case c=>k_is);(case k=>k_is))
  (case qH=>refine' Br.aE ?e ?l ?c ?k;(case e=>k_is);(case l=>k_is);(case c=>k_is);(case k=>k_is))
  (case qI=>refine' Br.aE ?e ?l ?c ?k;(case e=>k_is);(case l=>k_is);(case c=>k_is);(case k=>k_is))
  (case qJ=>refine' Br.aE ?e ?l ?c ?k;(case e=>k_is);(case l=>k_is);(case c=>k_is);(case k=>k_is))
  (case qK=>refine' Br.aE ?e ?l ?c ?k;(case e=>k_is);(case l=>k_is);(case c=>k_is);(case k=>k_is))
  (case qL=>refine' Br.aE ?e ?l ?c ?k;(case e=>k_is);(case l=>k_is);(case c=>k_is);(case k=>k_is))
  (case qM=>refine' Br.aE ?e ?l ?c ?k;(case e=>k_is);(case l=>k_is);(case c=>k_is);(case k=>k_is))
  (case qN=>refine' Br.aE ?e ?l ?c ?k;(case e=>k_is);(case l=>k_is);(case c=>k_is);(case k=>k_is))
  (case qO=>refine' Br.aE ?e ?l ?c ?k;(case e=>k_is);(case l=>k_is);(case c=>k_is);(case k=>k_is))
  (case qP=>refine' Br.aE ?e ?l ?c ?k;(case e=>k_is);(case l=>k_is);(case c=>k_is);(case k=>k_is))
  (case qQ=>refine' Br.aE ?e ?l ?c ?k;(case e=>k_is);(case l=>k_is);(case c=>k_is);(case k=>k_is))
  (case qR=>refine' Br.aE ?e ?l ?c ?k;(case e=>k_is);(case l=>k_is);(case c=>k_is);(case k=>k_is))
  (case qS=>refine' Br.aE ?e ?l ?c ?k;(case e=>k_is);(case l=>k_is);(case c=>k_is);(case k=>k_is))
  (case qT=>refine' Br.aE ?e ?l ?c ?k;(case e=>k_is);(case l=>k_is);(case c=>k_is);(case k=>k_is))
  (case qU=>refine' Br.aE ?e ?l ?c ?k;(case e=>k_is);(case l=>k_is);(case c=>k_is);(case k=>k_is))
  (case qV=>refine' Br.aE ?e ?l ?c ?k;(case e=>k_is);(case l=>k_is);(case c=>k_is);(case k=>k_is))
  (case mT=>refine' Br.aE ?e ?l ?c ?k;(case e=>k_is);(case l=>k_is);(case c=>k_is);(case k=>k_is))
  (case Ad=>k_is)
  (case s_=>k_is)
  (case eH=>k_is)
  (case Ae=>k_is)
  (case dN=>k_is)
  (case Af=>k_is)
  (case tu=>k_is)
  (case Ag=>k_is)
  (case Ah=>k_is)
  (case oj=>k_is)
  (case gB=>k_is)
  (case Ai=>k_is)
  (case lF=>k_is)
  (case Aj=>k_is)
  (case oq=>k_is)
  (case Ak=>k_is)
  (case eK=>k_is)
end
