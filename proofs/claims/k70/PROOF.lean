import PyProof.Rows.All
import Wide.All
import OpenK.AllK
import Wide.FinOn
import Lean
import PyProof.EqAt
import PyProof.EqKinds
import PyProof.TupleCall
import KE.KRevIter
import PyProof.EnumMake
import PyProof.EnumFor
import PyProof.ListRange
import PyProof.Rows.Range3
import PyProof.ZipIter
import PyProof.SumWalk
import PyProof.WalksMore
import PyProof.Rows.SetFrom
import PyProof.SetRoads
import PyProof.Rows.SortRunsK
import PyProof.Rows.SortWalk
import KE.KSortTup
import PyProof.Rows.Own
import PyProof.StationsW
import OpenK.KRaise
import KE.KIsAll
import PyProof.ExcArgsOwn
import PyProof.RulesAs
import PyProof.Ns1
import PyProof.Rows.Catch
import OpenK.KOwn
import PyProof.ExcBaseAll.ValueError
import KE.KDictSum
import PyProof.AttrMiss
import PyProof.IsiH_list
import KE.KDictOf
import PyProof.DictList
import KE.KDictList
import PyProof.FactsAll.set
import PyProof.Rows.TupAdd
import KE.KDictMeth
import PyProof.DictWalks
import PyProof.TupleKey
import PyProof.DictStraight
import PyProof.IsRules
import KE.KRevSl
import PySem.Challenge.RW_sinceply_k70_whole_often_four_ways
noncomputable section
set_option Elab.async false
set_option linter.all false

set_option maxRecDepth 100000
namespace L2
open PySem PySem.Spec PyProof.Rows
noncomputable abbrev Key:=Sum Int Str
noncomputable def mR:Key→Value→Bool
 | .inl k,v=>Value.isInt k v
 | .inr x,v=>Value.isStrOf x v
noncomputable def Lr (w:World):Key→Int
 | .inl k=>hashInt k
 | .inr x=>hashStr w x
theorem a_:∀ {k:Key} {v:Value},mR k v=true→(∃ i t,k=Sum.inl i∧v=Value.int i t)∨(∃ x t,k=Sum.inr x∧v=Value.str x t)
 | .inl i,v,h=>by
  obtain ⟨t,e⟩:=Value.isInt_shape (k:=i) (v:=v) h
  exact .inl ⟨i,t,rfl,e⟩
 | .inr x,v,h=>by
  obtain ⟨t,e⟩:=Value.isStrOf_shape (x:=x) (v:=v) h
  exact .inr ⟨x,t,rfl,e⟩
theorem vU (i:Int) (t:Tok):mR (.inl i) (.int i t)=true:=by simp [mR,Value.isInt]
theorem vV (x:Str) (t:Tok):mR (.inr x) (.str x t)=true:=by simp [mR,Value.isStrOf]
theorem EW (a b:Int):decide ((Sum.inl a:Key)=Sum.inl b)=(a == b):=by
 by_cases e:a=b
 ·subst e;simp
 ·have h:¬ (Sum.inl a:Key)=Sum.inl b:=fun q=>e (Sum.inl.inj q)
  rw [decide_eq_false h]
  exact (beq_eq_false_iff_ne.mpr e).symm
theorem EX (a b:Str):decide ((Sum.inr a:Key)=Sum.inr b)=decide (a=b):=by
 by_cases e:a=b
 ·subst e;simp
 ·have h:¬ (Sum.inr a:Key)=Sum.inr b:=fun q=>e (Sum.inr.inj q)
  rw [decide_eq_false h,decide_eq_false e]
theorem EY (a:Int) (b:Str):decide ((Sum.inl a:Key)=Sum.inr b)=false:=decide_eq_false (fun q=>nomatch q)
theorem EZ (a:Str) (b:Int):decide ((Sum.inr a:Key)=Sum.inl b)=false:=decide_eq_false (fun q=>nomatch q)
noncomputable def aT (prog:Program) (w:World):PySem.KeyKind prog w Key where
 is:=mR
 hash:=Lr w
 inj:=fun v a b ha hb=>by
  rcases a_ ha with ⟨i,t,rfl,rfl⟩ | ⟨x,t,rfl,rfl⟩
  ·rcases a_ hb with ⟨j,u,rfl,e⟩ | ⟨y,u,rfl,e⟩
   ·injection e with e1 _;rw [e1]
   ·exact nomatch e
  ·rcases a_ hb with ⟨j,u,rfl,e⟩ | ⟨y,u,rfl,e⟩
   ·exact nomatch e
   ·injection e with e1 _;rw [e1]
 byValue:=fun k v h=>by
  rcases a_ h with ⟨i,t,rfl,rfl⟩ | ⟨x,t,rfl,rfl⟩<;>rfl
 pyHash:=fun hv h=>by
  rcases a_ hv with ⟨i,t,rfl,rfl⟩ | ⟨x,t,rfl,rfl⟩
  ·exact wpAny_pyHash_int h
  ·exact wpAny_pyHash_str h
 eqBool:=fun hu hv h=>by
  rcases a_ hu with ⟨i,t,rfl,rfl⟩ | ⟨x,t,rfl,rfl⟩
  ·rcases a_ hv with ⟨j,u,rfl,rfl⟩ | ⟨y,u,rfl,rfl⟩
   ·rw [EW] at h;exact wpAny_eqBool_int h
   ·rw [EY] at h;exact SeqAt.EqAt.int_str i t y u _ _ _ _ h
  ·rcases a_ hv with ⟨j,u,rfl,rfl⟩ | ⟨y,u,rfl,rfl⟩
   ·rw [EZ] at h;exact SeqAt.EqAt.str_int x t j u _ _ _ _ h
   ·rw [EX] at h;exact wpAny_eqBool_str h
 «strs»:=fun k x t v h=>by
  rcases a_ h with ⟨i,u,rfl,e⟩ | ⟨y,u,rfl,e⟩
  ·exact nomatch e
  ·injection e with e1 _
   subst e1
   cases v<;>rfl
theorem o8 (prog:Program) (w:World) (i:Int) (t:Tok):(aT prog w).is (.inl i) (.int i t)=true:=vU i t
theorem o9 (prog:Program) (w:World) (x:Str) (t:Tok):(aT prog w).is (.inr x) (.str x t)=true:=vV x t
inductive V where
 | non | bl (b:Bool) | int (i:Int) | str (x:Str) | byt (b:Array UInt8) | flt (b:UInt64) | ref (a:Addr) | ty (n:String)
 deriving DecidableEq
noncomputable def RelV:V→Value→Prop
 | .non,u=>u=Value.none
 | .bl b,u=>u=Value.bool b
 | .int i,u=>∃ t,u=Value.int i t
 | .str x,u=>∃ t,u=Value.str x t
 | .byt b,u=>∃ t,u=Value.bytes b t
 | .flt b,u=>∃ t,u=Value.float b t
 | .ref a,u=>u=Value.ref a
 | .ty n,u=>u=Value.type n
noncomputable abbrev Vals:List V→List Value→Prop:=Paired RelV
theorem Vals.length {xs:List V} {us:List Value} (r:Vals xs us):xs.length=us.length:=Paired.length r
theorem Vals.get:∀ {xs:List V} {us:List Value} {i:Nat} {x:V},Vals xs us→xs[i]?=some x→∃ u,us[i]?=some u∧RelV x u
 | _,_,_,_,.nil,e=>by simp at e
 | _,_,0,_,.cons r _,e=>by simp at e;subst e;exact ⟨_,rfl,r⟩
 | _,_,i+1,x,.cons _ t,e=>by
  obtain ⟨u,h1,h2⟩:=Vals.get (i:=i) (x:=x) t (by simpa using e)
  exact ⟨u,by simpa using h1,h2⟩
theorem Vals.set {x:V} {u:Value} (r:RelV x u):∀ {xs:List V} {us:List Value} (i:Nat),Vals xs us→Vals (xs.set i x) (us.set i u)
 | _,_,_,.nil=>.nil
 | _,_,0,.cons _ t=>.cons r t
 | _,_,i+1,.cons q t=>.cons q (Vals.set r i t)
theorem Vals.append:∀ {xs ys:List V} {us ws:List Value},Vals xs us→Vals ys ws→Vals (xs++ys) (us++ws)
 | _,_,_,_,.nil,s=>s
 | _,_,_,_,.cons r t,s=>.cons r (Vals.append t s)
noncomputable def gM:Option V→Option Value→Prop
 | some v,some u=>RelV v u
 | none,none=>True
 | _,_=>False
noncomputable def KV {κ:Type}:List (κ×V)→List (κ×Value)→Prop:=Paired fun (p:κ×V) (q:κ×Value)=>p.1=q.1∧RelV p.2 q.2
noncomputable def kV:Key→V
 | .inl i=>.int i
 | .inr x=>.str x
inductive HO where
 | lst (xs:List V)
 | tup (xs:List V)
 | dK (kvs:List (Key×V)) | dT (kvs:List (List Key×V))
 | set (S:Int→Bool) (n:Nat)
 | ins (C dx:Addr) (fs:List (Str×V))
 | own (x:Addr)
 | xd (fs:List (Str×V))
 | met (f x:Addr)
 | rng (lo hi:Int)
 | frz (o:Obj) (u:HO)
 | tbl (ps:Array Value)
 | ext (φ:Heap→Prop)
noncomputable abbrev Hp:=Addr→Option HO
noncomputable def upd (H:Hp) (a:Addr) (o:HO):Hp:=fun b=>if b=a then some o else H b
theorem az {H:Hp} {a:Addr} {o:HO}:upd H a o a=some o:=by unfold upd;rw [if_pos rfl]
theorem av {H:Hp} {a b:Addr} {o:HO} (h:b≠a):upd H a o b=H b:=by unfold upd;rw [if_neg h]
theorem IV {H:Hp} {a b:Addr} {o u:HO} (h:H a=some o) (h':H b=some u) (d:o≠u):a≠b:=by
 intro e;subst e;rw [h] at h';exact d (Option.some.inj h')
theorem aK {H:Hp} {a b:Addr} {o:HO} (h:H a=some o) (h':H b=none):a≠b:=by
 intro e;subst e;rw [h] at h';cases h'
section
variable (P:Program) (w:World)
noncomputable def aY (H:Hp) (h:Heap) (a:Addr):HO→Prop
 | .lst xs=>xs.length≤sizeLine∧∃ (its:List Value) (n:Nat),Vals xs its∧h.get? a=some { cls:=.type "list",data:=.seq its.toArray n }
 | .tup xs=>xs.length≤sizeLine∧∃ its:List Value,Vals xs its∧IsTup h a its.toArray
 | .dK kvs=>kvs.length≤sizeLine∧(a == sysModules)=false∧∃ vs,KV kvs vs∧h.DictOf (aT P w) a vs
 | .dT kvs=>kvs.length≤sizeLine∧(a == sysModules)=false∧∃ xs:List (List Key×Addr×Value),
   Paired (fun (p:List Key×V) (q:List Key×Addr×Value)=>p.1=q.1∧H q.2.1=some (.tup (p.1.map kV))∧RelV p.2 q.2.2) kvs xs ∧
   ∃ o es ep,h.get? a=some o∧o.ExactDict∧o.data=.dict es ep∧es.toList=xs.map (entryOfKey (tupleKind (aT P w)))∧(xs.map (·.1)).Nodup
 | .set S n=>h.SetOf (intKind P w) a S n
 | .ins C dx fs=>H dx=some (.own a)∧fs.length≤1000∧dx≠a∧h.get? a=some (PySem.W.instObj C dx) ∧
   ∃ mA,h.Ns1 dx mA∧(∀ f,gM (fs.lookup f) (mA f))∧PySem.Within mA (fs.map (·.1))
 | .own _=>∃ o,h.get? a=some o
 | .xd fs=>∃ mA,h.Ns1 a mA∧∀ f,gM (fs.lookup f) (mA f)
 | .rng lo hi=>∃ t u v,h.get? a=some { cls:=.type "range",data:=.fields #[.int lo t,.int hi u,.int 1 v] }
 | .frz o u=>h.get? a=some o∧aY H h a u
 | .tbl ps=>h.get? a=some { cls:=.none,data:=.fields ps }
 | .met f x=>h.get? a=some (PySem.W.methodObj (.ref f) (.ref x))
 | .ext φ=>φ h∧(∃ o,h.get? a=some o)∧∀ h1 h2:Heap,φ h1→(∀ o,h1.get? a=some o→h2.get? a=some o)→φ h2
noncomputable def HOk (H:Hp) (h:Heap):Prop:=∀ a o,H a=some o→aY P w H h a o
end
section
variable {P:Program} {w:World} {H H':Hp} {h h':Heap} {a:Addr} {o:HO}
theorem aY.lt (x:aY P w H h a o):a<h.objs.size:=by
 cases o with
 | lst xs=>obtain ⟨_,_,_,_,e⟩:=x;exact Heap.lt_size e
 | tup xs=>obtain ⟨_,_,_,p⟩:=x;exact p.lt
 | dK kvs=>obtain ⟨_,_,_,_,o,_,_,e,_⟩:=x;exact Heap.lt_size e
 | dT kvs=>obtain ⟨_,_,_,_,o,_,_,e,_⟩:=x;exact Heap.lt_size e
 | set S n=>obtain ⟨o,_,_,_,e,_⟩:=x;exact Heap.lt_size e
 | ins C dx fs=>obtain ⟨_,_,_,e,_⟩:=x;exact Heap.lt_size e
 | own y=>obtain ⟨_,e⟩:=x;exact Heap.lt_size e
 | xd fs=>obtain ⟨_,⟨_,_,_,e,_⟩,_⟩:=x;exact Heap.lt_size e
 | rng lo hi=>obtain ⟨_,_,_,e⟩:=x;exact Heap.lt_size e
 | frz ob u=>obtain ⟨e,_⟩:=x;exact Heap.lt_size e
 | tbl ps=>exact Heap.lt_size (show h.get? a=some _ from x)
 | met f y=>exact Heap.lt_size (show h.get? a=some _ from x)
 | ext φ=>obtain ⟨_,⟨_,e⟩,_⟩:=x;exact Heap.lt_size e
theorem Paired.E1 {α β:Type} {F G:α→β→Prop}:∀ {l₁:List α} {l₂:List β},Paired F l₁ l₂→(∀ a b,F a b→G a b)→Paired G l₁ l₂
 | _,_,.nil,_=>.nil
 | _,_,.cons r t,f=>.cons (f _ _ r) (Paired.E1 t f)
theorem aY.stay (x:aY P w H h a o) (k:∀ b u,(b=a∨H b=some (.own a))→h.get? b=some u→h'.get? b=some u)
  (ho:∀ b,H b=some (.own a)→H' b=some (.own a)) (ht:∀ b xs,H b=some (.tup xs)→H' b=some (.tup xs)):aY P w H' h' a o:=by
 induction o with
 | lst xs=>obtain ⟨z,its,n,r,e⟩:=x;exact ⟨z,its,n,r,k _ _ (.inl rfl) e⟩
 | tup xs=>obtain ⟨z,its,r,ob,e,c⟩:=x;exact ⟨z,its,r,ob,k _ _ (.inl rfl) e,c⟩
 | dK kvs=>obtain ⟨z,y,vs,r,ob,es,ep,e,c⟩:=x;exact ⟨z,y,vs,r,ob,es,ep,k _ _ (.inl rfl) e,c⟩
 | dT kvs=>
  obtain ⟨z,y,xs,r,ob,es,ep,e,c⟩:=x
  exact ⟨z,y,xs,Paired.E1 r fun p q z=>⟨z.1,ht _ _ z.2.1,z.2.2⟩,ob,es,ep,k _ _ (.inl rfl) e,c⟩
 | set S n=>obtain ⟨ob,es,ep,t,e,c⟩:=x;exact ⟨ob,es,ep,t,k _ _ (.inl rfl) e,c⟩
 | ins C dx fs=>
  obtain ⟨d,z,ne,e,mA,⟨od,es,ep,e2,c⟩,r⟩:=x
  exact ⟨ho _ d,z,ne,k _ _ (.inl rfl) e,mA,⟨od,es,ep,k _ _ (.inr d) e2,c⟩,r⟩
 | own y=>obtain ⟨ob,e⟩:=x;exact ⟨ob,k _ _ (.inl rfl) e⟩
 | xd fs=>obtain ⟨mA,⟨od,es,ep,e,c⟩,r⟩:=x;exact ⟨mA,⟨od,es,ep,k _ _ (.inl rfl) e,c⟩,r⟩
 | rng lo hi=>obtain ⟨t,u,v,e⟩:=x;exact ⟨t,u,v,k _ _ (.inl rfl) e⟩
 | frz ob u ih=>obtain ⟨e,q⟩:=x;exact ⟨k _ _ (.inl rfl) e,ih q⟩
 | tbl ps=>
  have e:h.get? a=some { cls:=.none,data:=.fields ps }:=x
  show h'.get? a=some { cls:=.none,data:=.fields ps }
  exact k a _ (.inl rfl) e
 | met f y=>
  have e:h.get? a=some (PySem.W.methodObj (.ref f) (.ref y)):=x
  show h'.get? a=some (PySem.W.methodObj (.ref f) (.ref y))
  exact k a _ (.inl rfl) e
 | ext φ=>obtain ⟨p,⟨o,e⟩,st⟩:=x;exact ⟨st _ _ p fun o q=>k _ _ (.inl rfl) q,⟨o,k _ _ (.inl rfl) e⟩,st⟩
theorem HOk.lt (x:HOk P w H h) (e:H a=some o):a<h.objs.size:=(x a o e).lt
theorem HOk.fresh (x:HOk P w H h) (e:h.objs.size≤a):H a=none:=by
 cases q:H a with
 | none=>rfl
 | some u=>exact absurd (Nat.lt_of_lt_of_le (x.lt q) e) (Nat.lt_irrefl _)
theorem HOk.kept (x:HOk P w H h) (k:∀ b u,h.get? b=some u→h'.get? b=some u):HOk P w H h':=fun a o e=>
 (x a o e).stay (fun b u _ q=>k b u q) (fun _ q=>q) fun _ _ q=>q
theorem HOk.laid (x:HOk P w H h) (k:∀ b u,h.get? b=some u→h'.get? b=some u) (hp:h.objs.size≤a) (new:aY P w (upd H a o) h' a o):HOk P w (upd H a o) h':=fun b u e=>by
 have hn:=x.fresh hp
 by_cases hb:b=a
 ·subst hb;rw [az] at e;cases e;exact new
 ·rw [av hb] at e
  exact (x b u e).stay (fun c v _ q=>k c v q) (fun c q=>by rw [av (aK q hn)];exact q) fun c xs q=>by rw [av (aK q hn)];exact q
end
noncomputable def Rd (H:Hp) (a:Addr) (u:HO):Prop:=H a=some u∨∃ o,H a=some (.frz o u)
theorem Rd.ok {P:Program} {w:World} {H:Hp} {h:Heap} {a:Addr} {u:HO} (r:Rd H a u) (x:HOk P w H h):aY P w H h a u:=by
 rcases r with r | ⟨o,r⟩
 ·exact x a u r
 ·obtain ⟨_,q⟩:=x a _ r
  exact q
noncomputable def Mut:Option HO→Prop
 | some (.lst _)=>True
 | some (.dK _)=>True
 | some (.dT _)=>True
 | some (.set _ _)=>True
 | some (.ins _ _ _)=>True
 | some (.ext _)=>True
 | _=>False
section
variable {P:Program} {w:World} {H:Hp} {h h':Heap} {x e:Addr} {o':HO}
theorem HOk.write (ok:HOk P w H h) (mu:Mut (H x)) (he:e=x∨H e=some (.own x)) (k:∀ b u,b≠e→h.get? b=some u→h'.get? b=some u) (heo:∃ u,h'.get? e=some u)
  (new:aY P w (upd H x o') h' x o'):HOk P w (upd H x o') h':=fun b u q=>by
 have IW:∀ c y,H c=some (.own y)→c≠x:=fun c y r z=>by subst z;rw [r] at mu;exact mu
 have Ls:∀ c xs,H c=some (.tup xs)→c≠x:=fun c xs r z=>by subst z;rw [r] at mu;exact mu
 by_cases hb:b=x
 ·subst hb;rw [az] at q;cases q;exact new
 ·rw [av hb] at q
  by_cases hbe:b=e
  ·have q':H b=some (.own x):=by
    rcases he with z | z
    ·exact absurd (hbe.trans z) hb
    ·rw [hbe];exact z
   rw [q] at q';cases q'
   obtain ⟨v,hv⟩:=heo
   exact ⟨v,by rw [hbe];exact hv⟩
  ·refine (ok b u q).stay (fun c v hc r=>k c v ?_ r) (fun c r=>by rw [av (IW c b r)];exact r) fun c xs r=>by rw [av (Ls c xs r)];exact r
   rcases hc with rfl | hc
   ·exact hbe
   ·rintro rfl
    rcases he with z | z
    ·exact IW c b hc z
    ·rw [hc] at z;cases z;exact hb rfl
end
structure Un (fs ex:List Addr) (H H':Hp) (h h':Heap):Prop where
 keep:∀ b o,h.get? b=some o→H b=none→b∉fs→b∉ex→h'.get? b=some o
 slot:∀ b o,h.get? b=some o→H b=none→b∈fs→b∉ex→∃ sl,h'.get? b=some { o with slots:=sl }
 free:∀ b o,h.get? b=some o→H b=none→b∉ex→H' b=none
 there:∀ b o,h.get? b=some o→b∉ex→∃ o',h'.get? b=some o'
 tups:∀ b xs,H b=some (.tup xs)→H' b=some (.tup xs)
 nG:∀ b o u,H b=some (.frz o u)→H' b=some (.frz o u)
 o_:∀ b ps,H b=some (.tbl ps)→∃ more,H' b=some (.tbl (ps++more))
section
variable {fs fs' ex ex':List Addr} {H H1 H2:Hp} {h h1 h2 h':Heap} {a x e:Addr} {o:HO}
theorem Un.any (u:Un fs ex H H1 h h1) {b:Addr} {ob:Obj} (q:h.get? b=some ob) (n:H b=none) (hx:b∉ex):∃ sl,h1.get? b=some { ob with slots:=sl }:=by
 by_cases hb:b∈fs
 ·exact u.slot b ob q n hb hx
 ·exact ⟨ob.slots,u.keep b ob q n hb hx⟩
theorem Un.kept (k:∀ b u,h.get? b=some u→h'.get? b=some u):Un fs ex H H h h':=
 ⟨fun b ob q _ _ _=>k b ob q,fun b ob q _ _ _=>⟨ob.slots,k b ob q⟩,fun _ _ _ n _=>n,fun b ob q _=>⟨ob,k b ob q⟩,fun _ _ q=>q,fun _ _ _ q=>q,fun _ ps q=>⟨#[],by rw [q];simp⟩⟩
theorem Un.refl:Un fs ex H H h h:=Un.kept fun _ _ q=>q
theorem Un.laid (k:∀ b u,h.get? b=some u→h'.get? b=some u) (hp:h.objs.size≤a) (hn:H a=none):Un fs ex H (upd H a o) h h' where
 keep:=fun b u q _ _ _=>k b u q
 slot:=fun b u q _ _ _=>⟨u.slots,k b u q⟩
 free:=fun b u q n _=>by rw [av (Nat.ne_of_lt (Nat.lt_of_lt_of_le (Heap.lt_size q) hp))];exact n
 there:=fun b u q _=>⟨u,k b u q⟩
 tups:=fun b xs q=>by rw [av (aK q hn)];exact q
 nG:=fun b u xs q=>by rw [av (aK q hn)];exact q
 o_:=fun b ps q=>⟨#[],by rw [av (aK q hn),q];simp⟩
theorem Un.write (mu:Mut (H x)) (he:e=x∨H e=some (.own x)) (k:∀ b u,b≠e→h.get? b=some u→h'.get? b=some u) (heo:∃ u,h'.get? e=some u):Un fs ex H (upd H x o) h h':=by
 have hx:∀ b,H b=none→b≠x:=fun b n z=>by subst z;rw [n] at mu;exact mu
 have hb:∀ b,H b=none→b≠e:=fun b n z=>by
  subst z
  rcases he with r | r
  ·exact hx b n r
  ·rw [n] at r;cases r
 have hm:∀ b u,H b=some u→¬ Mut (some u)→b≠x:=fun b u q nm z=>by subst z;rw [q] at mu;exact nm mu
 refine ⟨fun b u q n _ _=>k b u (hb b n) q,fun b u q n _ _=>⟨u.slots,k b u (hb b n) q⟩,fun b u q n _=>by rw [av (hx b n)];exact n,fun b u q _=>?_,
  fun b xs q=>by rw [av (hm b _ q fun z=>z)];exact q,fun b u xs q=>by rw [av (hm b _ q fun z=>z)];exact q,fun b ps q=>⟨#[],by rw [av (hm b _ q fun z=>z),q];simp⟩⟩
 by_cases hbe:b=e
 ·subst hbe;exact heo
 ·exact ⟨u,k b u hbe q⟩
end
noncomputable def trk (h:Heap) (H:Hp):List Addr:=(List.range h.objs.size).filter fun a=>(H a).isSome
noncomputable def nH (h:Heap) (H:Hp):Heap:=PySem.W.hideAll h (trk h H)
theorem vW (h:Heap) (H:Hp):(nH h H).objs.size=h.objs.size:=PySem.W.hideAll_size _ _
theorem xH {h:Heap} {H:Hp} {b:Addr} {o:Obj} (e:h.get? b=some o) (n:H b=none):(nH h H).get? b=some o:=
 PySem.W.hideAll_get _ e fun hm=>by
  have q:(H b).isSome=true:=(List.mem_filter.mp hm).2
  rw [n] at q;simp at q
theorem BC {h:Heap} {H:Hp} {b:Addr} {o:Obj} (e:(nH h H).get? b=some o):h.get? b=some o∧H b=none:=by
 have e':h.get? b=some o:=PySem.W.of_hideAll (trk h H) e
 refine ⟨e',?_⟩
 cases q:H b with
 | none=>rfl
 | some x=>
  have hm:b∈trk h H:=List.mem_filter.mpr ⟨List.mem_range.mpr (Heap.lt_size e'),by simp [q]⟩
  have z:(nH h H).get? b=none:=PySem.W.hideAll_none (trk h H) hm
  rw [z] at e;cases e
structure Mod (K:PySem.W.Frag) (mg:Str→Option Value) (base:Heap):Prop where
 kin:K.In base
 glob:base.Ns mainGlobals mg
 blt:∃ mb,base.Ns builtinsNs mb∧∀ x:Str,x ≠ "__name__" → mb x=bootBuiltins x
 nolimit:base.NoLimit
structure Cx where
 prog:Program
 w:World
 K:PySem.W.Frag
 mg:Str→Option Value
 base:Heap
 A:Around
 N:List Str
 s₀:Shared
 H₀:Hp
 env:Env
 outer:List Env
 stack:List Env
 ex:List Addr
 fn:Str→Bool
 calm:Bool
 pn:List (Addr×Obj)
 xe:Value→Shared→Prop
noncomputable def frs (l:List Env):List Addr:=l.filterMap (·.frame)
noncomputable abbrev Cx.fs (X:Cx):List Addr:=frs X.outer
noncomputable def Vis (sc:Scope) (x:Str):Prop:=sc.names.lookup x=some .local∨sc.names.lookup x=some .cell∨sc.names.lookup x=some .free
noncomputable def Loc (sc:Scope) (x:Str):Prop:=sc.names.lookup x=some .local∨sc.names.lookup x=some .cell
noncomputable def Look (env:Env) (h:Heap) (m:Str→Option Value) (x:Str) (u:Value):Prop:=
 (env.kindOf x=some .local∧m x=some u)∨((env.kindOf x=some .cell∨env.kindOf x=some .free)∧∃ c,env.cells.lookup x=some c∧h.IsCell c (some u))
structure Cx.Ok (X:Cx):Prop where
 mod:Mod X.K X.mg X.base
 kind:X.env.scope.kind=.function
 glob:X.env.globals=mainGlobals
 blt:X.env.builtins=builtinsNs
 above:X.s₀.heap.objs.size≤X.env.locals
 inj:∀ x y c,X.env.cells.lookup x=some c→X.env.cells.lookup y=some c→x=y
 has:∀ x,(X.env.kindOf x=some .cell∨X.env.kindOf x=some .free)→∃ c,X.env.cells.lookup x=some c
 cab:∀ x c,X.fn x=true→X.env.cells.lookup x=some c→X.s₀.heap.objs.size≤c
 hd:X.calm=true→X.A.handled=none
 frames:X.A.frames=some X.stack
 stk:X.stack=X.outer∨(X.stack=X.env::X.outer∧X.env.frame=some X.env.locals)
 exf:∀ b∈X.ex,b≠X.env.locals∧∀ x c,X.env.cells.lookup x=some c→c≠b
 bs:∀ b o,X.base.get? b=some o→X.s₀.heap.get? b=some o∧X.H₀ b=none
 bsz:X.base.objs.size≤X.s₀.heap.objs.size
 xJ:∀ b o,X.base.get? b=some o→b∉X.ex
 BE:∀ b∈X.ex,b∉X.fs
 jP:X.s₀.heap.FunFrames X.base X.outer
 frf:∀ b∈X.fs,X.H₀ b=none
structure Inv (X:Cx) (pins:List (Addr×Obj)) (σ:List (Option V)) (H:Hp) (s:Shared):Prop where
 ok:X.Ok
 os:s.os=X.s₀.os
 bare:AllBare s.gens
 base:Un X.fs X.ex X.H₀ H X.s₀.heap s.heap
 loc:∃ m,s.heap.Ns X.env.locals m∧∀ (i:Nat) (x:Str) (v:V),X.N[i]?=some x→σ[i]?=some (some v)→Vis X.env.scope x→∃ u,RelV v u∧Look X.env s.heap m x u
 cell:∀ x c,X.env.cells.lookup x=some c→∃ v,s.heap.IsCell c v
 free:H X.env.locals=none
 fy:∀ x c,X.env.cells.lookup x=some c→H c=none
 pin:∀ p∈X.pn++pins,s.heap.get? p.1=some p.2∧H p.1=none∧p.1≠X.env.locals∧p.1∉X.fs∧∀ v,p.2.data≠.cell v
 hok:HOk X.prog X.w H s.heap
 len:σ.length=X.N.length
section
variable {X:Cx} {pins:List (Addr×Obj)} {σ:List (Option V)} {H H':Hp} {s:Shared} {h':Heap}
theorem Cx.Ok.Lu (ok:X.Ok) {b:Addr} {o:Obj} (e:X.base.get? b=some o):b∉X.fs:=fun hb=>by
 have:=(ok.jP.mem hb).1
 rw [e] at this;cases this
theorem Inv.bs (I:Inv X pins σ H s):∀ b o,X.base.get? b=some o→s.heap.get? b=some o∧H b=none:=fun b o e=>
 ⟨I.base.keep b o (I.ok.bs b o e).1 (I.ok.bs b o e).2 (I.ok.Lu e) (I.ok.xJ b o e),I.base.free b o (I.ok.bs b o e).1 (I.ok.bs b o e).2 (I.ok.xJ b o e)⟩
theorem Inv.bk (I:Inv X pins σ H s):∀ b o,X.base.get? b=some o→s.heap.get? b=some o:=fun b o e=>(I.bs b o e).1
theorem Inv.mod (I:Inv X pins σ H s):Mod X.K X.mg X.base:=I.ok.mod
theorem Inv.kIn (I:Inv X pins σ H s):X.K.In s.heap:=I.ok.mod.kin.keeps I.bk
theorem Inv.lt (I:Inv X pins σ H s):X.env.locals<s.heap.objs.size:=let ⟨_,hn,_⟩:=I.loc;hn.lt
theorem Inv.sz (I:Inv X pins σ H s):X.s₀.heap.objs.size≤s.heap.objs.size:=Nat.le_trans I.ok.above (Nat.le_of_lt I.lt)
theorem Inv.Lv (I:Inv X pins σ H s) {a:Addr} (h:s.heap.objs.size≤a):a∉X.fs:=fun hb=>by
 obtain ⟨_,o,ho,_⟩:=I.ok.jP.mem hb
 exact absurd (Nat.lt_of_lt_of_le (Heap.lt_size ho) (Nat.le_trans I.sz h)) (Nat.lt_irrefl _)
theorem Inv.cne (I:Inv X pins σ H s):∀ x c,X.env.cells.lookup x=some c→c≠X.env.locals:=fun x c e z=>by
 obtain ⟨v,o,ho,hd⟩:=I.cell x c e
 obtain ⟨m,⟨o',es,ep,ho',hd',_⟩,_⟩:=I.loc
 rw [z,ho'] at ho;cases ho;rw [hd'] at hd;cases hd
theorem Inv.jP (I:Inv X pins σ H s):s.heap.FunFrames X.base X.outer:=by
 have all:∀ (l:List Env),(∀ b∈frs l,b∈X.fs)→X.s₀.heap.FunFrames X.base l→s.heap.FunFrames X.base l:=by
  intro l
  induction l with
  | nil=>intro _ _;trivial
  | cons env r ih=>
   intro hs hl
   obtain ⟨hk,⟨L,o,hf,hn,ho,hd⟩,hr⟩:=hl
   have hL:L∈X.fs:=hs L (by unfold frs;rw [List.filterMap_cons,hf];exact List.mem_cons_self)
   obtain ⟨sl,e⟩:=I.base.slot L o ho (I.ok.frf L hL) hL fun z=>I.ok.BE L z hL
   exact ⟨hk,⟨L,_,hf,hn,e,hd⟩,ih (fun b hb=>hs b (by unfold frs;rw [List.filterMap_cons,hf];exact List.mem_cons_of_mem _ hb)) hr⟩
 exact all X.outer (fun _ hb=>hb) I.ok.jP
theorem Inv.stack (I:Inv X pins σ H s):s.heap.FunFrames X.base X.stack:=by
 rcases I.ok.stk with e | ⟨e,hf⟩
 ·rw [e];exact I.jP
 ·rw [e]
  obtain ⟨m,hn,_⟩:=I.loc
  refine .cons (by rw [I.ok.kind];decide) hf hn ?_ I.jP
  exact Heap.get?_none_of_le (Nat.le_trans I.ok.bsz I.ok.above)
theorem Inv.rT (I:Inv X pins σ H s):∀ b∈frs X.stack,b∈X.env.locals::X.fs:=fun b hb=>by
 rcases I.ok.stk with e | ⟨e,hf⟩
 ·rw [e] at hb;exact List.mem_cons_of_mem _ hb
 ·rw [e] at hb
  unfold frs at hb
  rw [List.filterMap_cons,hf] at hb
  exact hb
theorem Inv.ue (I:Inv X pins σ H s):∀ b∈frs X.stack,H b=none:=fun b hb=>by
 rcases List.mem_cons.mp (I.rT b hb) with e | hb
 ·rw [e];exact I.free
 ·obtain ⟨_,o,ho,_⟩:=I.ok.jP.mem hb
  exact I.base.free b o ho (I.ok.frf b hb) fun z=>I.ok.BE b z hb
theorem Inv.step {g':Array GenState} {t':Nat} {d':Drawn} {ch:List Addr} (I:Inv X pins σ H s)
  (hch:∀ b∈ch,(b∈X.ex∨X.s₀.heap.objs.size≤b)∧b≠X.env.locals∧(∀ x c,X.env.cells.lookup x=some c→c≠b)∧∀ p∈X.pn++pins,p.1≠b)
  (keep:∀ b o,b≠X.env.locals→b∉X.fs→b∉ch→s.heap.get? b=some o→H b=none→h'.get? b=some o)
  (slot:∀ b o,b≠X.env.locals→b∈X.fs→b∉ch→s.heap.get? b=some o→H b=none→∃ sl,h'.get? b=some { o with slots:=sl }) (free:∀ b o,b∉ch→s.heap.get? b=some o→H b=none→H' b=none)
  (there:∀ b o,b∉ch→s.heap.get? b=some o→∃ o',h'.get? b=some o')
  (tups:∀ b xs,H b=some (.tup xs)→H' b=some (.tup xs)) (nG:∀ b o u,H b=some (.frz o u)→H' b=some (.frz o u)) (o_:∀ b ps,H b=some (.tbl ps)→∃ more,H' b=some (.tbl (ps++more)))
  (ns:∀ m,s.heap.Ns X.env.locals m→h'.Ns X.env.locals m) (hok:HOk X.prog X.w H' h') (hg:AllBare g') :
  Inv X pins σ H' { s with heap:=h',gens:=g',drawn:=d',toks:=t' }:=by
 have neL:∀ b o,X.s₀.heap.get? b=some o→b≠X.env.locals:=fun b o e=>Nat.ne_of_lt (Nat.lt_of_lt_of_le (Heap.lt_size e) I.ok.above)
 have neC:∀ b o,X.s₀.heap.get? b=some o→b∉X.ex→b∉ch:=fun b o e hx hb=>by
  rcases (hch b hb).1 with z | z
  ·exact hx z
  ·exact absurd (Nat.lt_of_lt_of_le (Heap.lt_size e) z) (Nat.lt_irrefl _)
 have cellK:∀ x c,X.env.cells.lookup x=some c→∀ v,s.heap.IsCell c v→h'.IsCell c v:=fun x c e v ⟨o,ho,hd⟩=>by
  have nch:c∉ch:=fun z=>(hch c z).2.2.1 x c e rfl
  by_cases hc:c∈X.fs
  ·obtain ⟨sl,q⟩:=slot c o (I.cne x c e) hc nch ho (I.fy x c e)
   exact ⟨_,q,hd⟩
  ·exact ⟨o,keep c o (I.cne x c e) hc nch ho (I.fy x c e),hd⟩
 refine ⟨I.ok,I.os,hg,⟨fun b o e n hb hx=>?_,fun b o e n hb hx=>?_,fun b o e n hx=>?_,fun b o e hx=>?_,fun b xs e=>tups b xs (I.base.tups b xs e),fun b o xs e=>nG b o xs (I.base.nG b o xs e),fun b ps e=>?_⟩,?_,fun x c e=>?_,?_,fun x c e=>?_,fun p hp=>?_,hok,I.len⟩
 ·exact keep b o (neL b o e) hb (neC b o e hx) (I.base.keep b o e n hb hx) (I.base.free b o e n hx)
 ·obtain ⟨sl,e1⟩:=I.base.slot b o e n hb hx
  obtain ⟨sl',e2⟩:=slot b _ (neL b o e) hb (neC b o e hx) e1 (I.base.free b o e n hx)
  exact ⟨sl',e2⟩
 ·obtain ⟨o',e1⟩:=I.base.there b o e hx
  exact free b o' (neC b o e hx) e1 (I.base.free b o e n hx)
 ·obtain ⟨o',e1⟩:=I.base.there b o e hx
  exact there b o' (neC b o e hx) e1
 ·obtain ⟨m1,e1⟩:=I.base.o_ b ps e
  obtain ⟨m2,e2⟩:=o_ b _ e1
  exact ⟨m1++m2,by rw [e2,Array.append_assoc]⟩
 ·obtain ⟨m,hn,hl⟩:=I.loc
  refine ⟨m,ns m hn,fun i x v e1 e2 e3=>?_⟩
  obtain ⟨u,r,l⟩:=hl i x v e1 e2 e3
  refine ⟨u,r,?_⟩
  rcases l with l | ⟨k,c,e,z⟩
  ·exact .inl l
  ·exact .inr ⟨k,c,e,cellK x c e _ z⟩
 ·obtain ⟨v,z⟩:=I.cell x c e
  exact ⟨v,cellK x c e v z⟩
 ·obtain ⟨m,⟨o,_,_,ho,_⟩,_⟩:=I.loc
  exact free _ o (fun z=>(hch _ z).2.1 rfl) ho I.free
 ·obtain ⟨v,o,ho,hd⟩:=I.cell x c e
  exact free c o (fun z=>(hch c z).2.2.1 x c e rfl) ho (I.fy x c e)
 ·obtain ⟨e,n,ne,nf,d⟩:=I.pin p hp
  have nch:p.1∉ch:=fun z=>(hch p.1 z).2.2.2 p hp rfl
  exact ⟨keep p.1 p.2 ne nf nch e n,free p.1 p.2 nch e n,ne,nf,d⟩
theorem Inv.un {t':Nat} (I:Inv X pins σ H s) (u:Un X.fs [] H H' s.heap h') (hok:HOk X.prog X.w H' h'):Inv X pins σ H' { s with heap:=h',toks:=t' }:=by
 obtain ⟨m,⟨o,es,ep,ho,r⟩,_⟩:=id I.loc
 obtain ⟨sl,hL⟩:=u.any ho I.free (by simp)
 exact I.step (g':=s.gens) (d':=s.drawn) (ch:=[]) (fun _ z=>nomatch z) (fun b o _ hb _ e n=>u.keep b o e n hb (by simp)) (fun b o _ hb _ e n=>u.slot b o e n hb (by simp)) (fun b o _ e n=>u.free b o e n (by simp)) (fun b o _ e=>u.there b o e (by simp)) u.tups u.nG u.o_ (fun m' hm=>by
  obtain ⟨o',es',ep',ho',r'⟩:=hm
  rw [ho] at ho';cases ho'
  exact ⟨_,es',ep',hL,r'⟩) hok I.bare
theorem Inv.call {g':Array GenState} {t':Nat} {d':Drawn} {ch:List Addr} (I:Inv X pins σ H s) (u:Un (frs X.stack) ch H H' s.heap h') (hok:HOk X.prog X.w H' h') (hg:AllBare g')
  (hch:∀ b∈ch,(b∈X.ex∨X.s₀.heap.objs.size≤b)∧b≠X.env.locals∧(∀ x c,X.env.cells.lookup x=some c→c≠b)∧∀ p∈X.pn++pins,p.1≠b) :
  Inv X pins σ H' { s with heap:=h',gens:=g',drawn:=d',toks:=t' }:=by
 obtain ⟨m,⟨o,es,ep,ho,r⟩,_⟩:=id I.loc
 obtain ⟨sl,hL⟩:=u.any ho I.free fun z=>(hch _ z).2.1 rfl
 exact I.step (ch:=ch) hch (fun b o hL hb hc e n=>u.keep b o e n (fun z=>(List.mem_cons.mp (I.rT b z)).elim hL hb) hc) (fun b o _ _ hc e n=>u.any e n hc) (fun b o hc e n=>u.free b o e n hc) (fun b o hc e=>u.there b o e hc) u.tups u.nG u.o_ (fun m' hm=>by
  obtain ⟨o',es',ep',ho',r'⟩:=hm
  rw [ho] at ho';cases ho'
  exact ⟨_,es',ep',hL,r'⟩) hok hg
theorem Inv.turned {t':Nat} {it:Addr} (I:Inv X pins σ H s) (k:∀ b o,b≠it→s.heap.get? b=some o→h'.get? b=some o) (hn:H it=none) (hL:it≠X.env.locals)
  (h1:it∈X.ex∨X.s₀.heap.objs.size≤it) (h2:∀ x c,X.env.cells.lookup x=some c→c≠it) (h3:∀ p∈X.pn++pins,p.1≠it):Inv X pins σ H { s with heap:=h',toks:=t' }:=by
 have nit:∀ b u,H b=some u→b≠it:=fun b u e z=>by rw [z,hn] at e;cases e
 refine I.step (g':=s.gens) (d':=s.drawn) (ch:=[it]) (fun b hb=>?_) (fun b o _ _ hc e _=>k b o (fun z=>hc (by simp [z])) e) (fun b o _ _ hc e _=>⟨o.slots,k b o (fun z=>hc (by simp [z])) e⟩) (fun _ _ _ _ n=>n)
  (fun b o hc e=>⟨o,k b o (fun z=>hc (by simp [z])) e⟩) (fun _ _ e=>e) (fun _ _ _ e=>e) (fun b ps e=>⟨#[],by rw [e];simp⟩) (fun m hm=>?_) (fun b u e=>?_) I.bare
 ·have e:b=it:=by simpa using hb
  subst e
  exact ⟨h1,hL,h2,h3⟩
 ·obtain ⟨o,es,ep,ho,r⟩:=hm
  exact ⟨o,es,ep,k _ o (Ne.symm hL) ho,r⟩
 ·refine (I.hok b u e).stay (fun c v hc q=>k c v ?_ q) (fun _ q=>q) fun _ _ q=>q
  rcases hc with z | z
  ·rw [z];exact nit b u e
  ·exact nit c _ z
theorem Inv.tok (I:Inv X pins σ H s) (t:Nat):Inv X pins σ H { s with toks:=t }:=I.un (h':=s.heap) (t':=t) Un.refl I.hok
theorem Inv.kept {t':Nat} (I:Inv X pins σ H s) (k:∀ b u,s.heap.get? b=some u→h'.get? b=some u):Inv X pins σ H { s with heap:=h',toks:=t' }:=I.un (Un.kept k) (I.hok.kept k)
theorem Inv.laid {a:Addr} {o:HO} {t':Nat} (I:Inv X pins σ H s) (k:∀ b u,s.heap.get? b=some u→h'.get? b=some u) (hp:s.heap.objs.size≤a) (new:aY X.prog X.w (upd H a o) h' a o) :
  Inv X pins σ (upd H a o) { s with heap:=h',toks:=t' }:=I.un (Un.laid k hp (I.hok.fresh hp)) (I.hok.laid k hp new)
theorem Inv.write {x e:Addr} {o:HO} {t':Nat} (I:Inv X pins σ H s) (mu:Mut (H x)) (he:e=x∨H e=some (.own x)) (k:∀ b u,b≠e→s.heap.get? b=some u→h'.get? b=some u) (heo:∃ u,h'.get? e=some u)
  (new:aY X.prog X.w (upd H x o) h' x o):Inv X pins σ (upd H x o) { s with heap:=h',toks:=t' }:=I.un (Un.write mu he k heo) (I.hok.write mu he k heo new)
theorem Inv.uf {Dy:List (Addr×Obj)} (I:Inv X pins σ H s) (h:∀ p∈Dy,s.heap.get? p.1=some p.2∧H p.1=none∧p.1≠X.env.locals∧p.1∉X.fs∧∀ v,p.2.data≠.cell v):Inv X Dy σ H s:=
 ⟨I.ok,I.os,I.bare,I.base,I.loc,I.cell,I.free,I.fy,fun p hp=>(List.mem_append.mp hp).elim (fun z=>I.pin p (List.mem_append_left _ z)) (h p),I.hok,I.len⟩
theorem pe {N:List Str} (hN:N.Nodup) {i j:Nat} {x:Str} (a:N[i]?=some x) (b:N[j]?=some x):i=j:=by
 obtain ⟨h1,e1⟩:=List.getElem?_eq_some_iff.mp a
 obtain ⟨h2,e2⟩:=List.getElem?_eq_some_iff.mp b
 exact (List.getElem_inj hN).mp (e1.trans e2.symm)
theorem mS {M:Model} {A:Around} {E:Value→Shared→Prop} {i:Nat} {x:Str} {v:V} {u:Value} {Q:Unit→Shared→Prop} (I:Inv X pins σ H s) (hN:X.N.Nodup) (hi:X.N[i]?=some x) (hx:Loc X.env.scope x) (r:RelV v u)
  (h:∀ s',Inv X pins (σ.set i (some v)) H s'→(∃ a,Heap.SameBut a s.heap s'.heap∧(a=X.env.locals∨X.env.cells.lookup x=some a))→Q () s') (hf:X.fn x=true∨X.env.scope.names.lookup x=some .local:=by first | exact .inl rfl | exact .inr rfl | assumption):wpAny M A (storeName X.env x u) Q E s:=by
 obtain ⟨m,hn,hl⟩:=id I.loc
 have hcls:(X.env.scope.kind == .class||(X.env.scope.kind == .module&&X.env.locals != X.env.globals))=false:=by rw [I.ok.kind];rfl
 have hiσ:i<σ.length:=by rw [I.len];exact (List.getElem?_eq_some_iff.mp hi).1
 have cne:=I.cne
 have tracked:∀ {a:Addr} {h':Heap},(∃ o,s.heap.get? a=some o∧H a=none)→Heap.SameBut a s.heap h'→HOk X.prog X.w H h':=fun {a h'} ha hs b ob e=>by
  obtain ⟨_,_,hfree⟩:=ha
  refine (I.hok b ob e).stay (fun c w' hc q=>(hs.2 c ?_).trans q) (fun _ q=>q) fun _ _ q=>q
  rintro rfl
  rcases hc with rfl | hc
  ·rw [hfree] at e;cases e
  ·rw [hfree] at hc;cases hc
 rcases hx with hk | hk
 ·refine wpAny_storeName_local hk hn (fun h' hn' hs=>?_) hcls
  obtain ⟨oL,_,_,hoL,_⟩:=id hn
  refine h _ ⟨I.ok,I.os,I.bare,⟨fun b o e n hb hx=>?_,fun b o e n hb hx=>?_,I.base.free,fun b o e hx=>?_,I.base.tups,I.base.nG,I.base.o_⟩,⟨_,hn',fun j y v' e1 e2 e3=>?_⟩,fun y c e=>?_,I.free,I.fy,fun p hp=>?_,tracked ⟨oL,hoL,I.free⟩ hs,by simpa using I.len⟩ ⟨_,hs,.inl rfl⟩
  ·exact (hs.2 b (Nat.ne_of_lt (Nat.lt_of_lt_of_le (Heap.lt_size e) I.ok.above))).trans (I.base.keep b o e n hb hx)
  ·obtain ⟨sl,e1⟩:=I.base.slot b o e n hb hx
   exact ⟨sl,(hs.2 b (Nat.ne_of_lt (Nat.lt_of_lt_of_le (Heap.lt_size e) I.ok.above))).trans e1⟩
  ·obtain ⟨o',e1⟩:=I.base.there b o e hx
   exact ⟨o',(hs.2 b (Nat.ne_of_lt (Nat.lt_of_lt_of_le (Heap.lt_size e) I.ok.above))).trans e1⟩
  ·by_cases hj:j=i
   ·subst hj
    rw [hi] at e1;cases e1
    rw [List.getElem?_set_self hiσ] at e2
    cases e2
    exact ⟨u,r,.inl ⟨hk,by simp⟩⟩
   ·rw [List.getElem?_set_ne (Ne.symm hj)] at e2
    obtain ⟨u',r',q⟩:=hl j y v' e1 e2 e3
    refine ⟨u',r',?_⟩
    rcases q with ⟨k,e⟩ | ⟨k,c,e,z⟩
    ·refine .inl ⟨k,?_⟩
     have:y≠x:=fun e=>hj (pe hN e1 (e▸hi))
     simp [this,e]
    ·exact .inr ⟨k,c,e,z.sameBut hs (cne y c e)⟩
  ·obtain ⟨w',z⟩:=I.cell y c e
   exact ⟨w',z.sameBut hs (cne y c e)⟩
  ·obtain ⟨e,n,ne,nf,d⟩:=I.pin p hp
   exact ⟨(hs.2 p.1 ne).trans e,n,ne,nf,d⟩
 ·have hfn:X.fn x=true:=by
   rcases hf with z | z
   ·exact z
   ·rw [z] at hk;cases hk
  obtain ⟨c,hc⟩:=I.ok.has x (.inl hk)
  obtain ⟨w',z⟩:=I.cell x c hc
  refine wpAny_storeName_cell I.ok.kind hk hc z (fun h' hc' hs=>?_)
  obtain ⟨oc,hoc,Lw⟩:=id z
  refine h { s with heap:=h' } ⟨I.ok,I.os,I.bare,⟨fun b o e n hb hx=>?_,fun b o e n hb hx=>?_,I.base.free,fun b o e hx=>?_,I.base.tups,I.base.nG,I.base.o_⟩,⟨m,hn.sameBut hs (Ne.symm (cne x c hc)),fun j y v' e1 e2 e3=>?_⟩,fun y c' e=>?_,I.free,I.fy,fun p hp=>?_,tracked ⟨oc,hoc,I.fy x c hc⟩ hs,by simpa using I.len⟩ ⟨c,hs,.inr hc⟩
  ·exact (hs.2 b (Nat.ne_of_lt (Nat.lt_of_lt_of_le (Heap.lt_size e) (I.ok.cab x c hfn hc)))).trans (I.base.keep b o e n hb hx)
  ·obtain ⟨sl,e1⟩:=I.base.slot b o e n hb hx
   exact ⟨sl,(hs.2 b (Nat.ne_of_lt (Nat.lt_of_lt_of_le (Heap.lt_size e) (I.ok.cab x c hfn hc)))).trans e1⟩
  ·obtain ⟨o',e1⟩:=I.base.there b o e hx
   exact ⟨o',(hs.2 b (Nat.ne_of_lt (Nat.lt_of_lt_of_le (Heap.lt_size e) (I.ok.cab x c hfn hc)))).trans e1⟩
  ·by_cases hj:j=i
   ·subst hj
    rw [hi] at e1;cases e1
    rw [List.getElem?_set_self hiσ] at e2
    cases e2
    exact ⟨u,r,.inr ⟨.inl hk,c,hc,hc'⟩⟩
   ·rw [List.getElem?_set_ne (Ne.symm hj)] at e2
    obtain ⟨u',r',q⟩:=hl j y v' e1 e2 e3
    refine ⟨u',r',?_⟩
    rcases q with q | ⟨k,c',e,z'⟩
    ·exact .inl q
    ·refine .inr ⟨k,c',e,z'.sameBut hs ?_⟩
     rintro rfl
     exact hj (pe hN e1 (I.ok.inj _ _ _ e hc▸hi))
  ·by_cases hcc:c'=c
   ·subst hcc;exact ⟨_,hc'⟩
   ·obtain ⟨w2,z2⟩:=I.cell y c' e
    exact ⟨w2,z2.sameBut hs hcc⟩
  ·obtain ⟨e,n,ne,nf,d⟩:=I.pin p hp
   refine ⟨(hs.2 p.1 ?_).trans e,n,ne,nf,d⟩
   intro q
   rw [q,hoc] at e
   have q':oc=p.2:=Option.some.inj e
   exact d w' (by rw [← q'];exact Lw)
theorem pq {M:Model} {A:Around} {E:Value→Shared→Prop} {i:Nat} {x:Str} {v:V} {u:Value} {Q:Unit→Shared→Prop} (I:Inv X pins σ H s) (hN:X.N.Nodup) (hi:X.N[i]?=some x) (hx:Loc X.env.scope x) (r:RelV v u)
  (h:∀ s',Inv X pins (σ.set i (some v)) H s'→Q () s') (hf:X.fn x=true∨X.env.scope.names.lookup x=some .local:=by first | exact .inl rfl | exact .inr rfl | assumption):wpAny M A (storeName X.env x u) Q E s:=
 mS I hN hi hx r (fun s' I' _=>h s' I') hf
theorem Inv.IX {s':Shared} {ch:List Addr} (I:Inv X pins σ H s) (ho:s'.os=s.os) (u:Un (frs X.stack) ch H H' s.heap s'.heap) (hok:HOk X.prog X.w H' s'.heap) (hg:AllBare s'.gens)
  (hch:∀ b∈ch,(b∈X.ex∨X.s₀.heap.objs.size≤b)∧b≠X.env.locals∧(∀ x c,X.env.cells.lookup x=some c→c≠b)∧∀ p∈X.pn++pins,p.1≠b):Inv X pins σ H' s':=by
 obtain ⟨h',g',d',t',o'⟩:=s'
 have e:o'=s.os:=ho
 subst e
 exact I.call (g':=g') (t':=t') (d':=d') u hok hg hch
end
noncomputable abbrev XK:=Value→Option Addr→Hp→Prop
noncomputable abbrev St:=List (Option V)
noncomputable abbrev VK:=V→Hp→Prop
noncomputable abbrev TE:=St→Hp→VK→Prop
noncomputable abbrev TT:=St→Hp→(Bool→Hp→Prop)→Prop
noncomputable abbrev TA:=St→Hp→(List V→Hp→Prop)→Prop
structure Ends where
 nx:St→Hp→Prop
 rt:VK
 bk:St→Hp→Prop:=fun _ _=>False
 ct:St→Hp→Prop:=fun _ _=>False
noncomputable abbrev TS:=Ends→St→Hp→Prop
noncomputable def EP (X:Cx) (pins:List (Addr×Obj)) (σ:St) (Q:VK) (u:Value) (s':Shared):Prop:=∃ v H',Inv X pins σ H' s'∧RelV v u∧Q v H'
noncomputable def TP (X:Cx) (pins:List (Addr×Obj)) (σ:St) (Q:Bool→Hp→Prop) (b:Bool) (s':Shared):Prop:=∃ H',Inv X pins σ H' s'∧Q b H'
noncomputable def AP (X:Cx) (pins:List (Addr×Obj)) (σ:St) (Q:List V→Hp→Prop) (us:List Value) (s':Shared):Prop:=∃ vs H',Inv X pins σ H' s'∧Vals vs us∧Q vs H'
noncomputable def SP (X:Cx) (pins:List (Addr×Obj)) (D:Ends) (f:Flow) (s':Shared):Prop:=
 match f with
 | .next=>∃ σ' H',Inv X pins σ' H' s'∧D.nx σ' H'
 | .brk=>∃ σ' H',Inv X pins σ' H' s'∧D.bk σ' H'
 | .cont=>∃ σ' H',Inv X pins σ' H' s'∧D.ct σ' H'
 | .ret u=>∃ v σ' H',Inv X pins σ' H' s'∧RelV v u∧D.rt v H'
noncomputable def PE (X:Cx) (e:Expr) (t:TE):Prop:=
 ∀ (pins:List (Addr×Obj)) (s:Shared) (σ:St) (H:Hp) (Q:VK),Inv X pins σ H s→t σ H Q→wpAny (model X.prog X.w) X.A (eval e X.env) (EP X pins σ Q) X.xe s
noncomputable def PT (X:Cx) (e:Expr) (t:TT):Prop:=
 ∀ (pins:List (Addr×Obj)) (s:Shared) (σ:St) (H:Hp) (Q:Bool→Hp→Prop),Inv X pins σ H s→t σ H Q→wpAny (model X.prog X.w) X.A (isTrue e X.env (eval e X.env)) (TP X pins σ Q) X.xe s
noncomputable def PW (X:Cx) (e:Expr) (t:TT):Prop:=
 ∀ (whole:Sem Value) (pins:List (Addr×Obj)) (s:Shared) (σ:St) (H:Hp) (Q:Bool→Hp→Prop),Inv X pins σ H s→t σ H Q→wpAny (model X.prog X.w) X.A (isTrue e X.env whole) (TP X pins σ Q) X.xe s
theorem PW.pt {X:Cx} {e:Expr} {t:TT} (h:PW X e t):PT X e t:=h _
noncomputable def PA (X:Cx) (es:List Expr) (t:TA):Prop:=
 ∀ (pos:Pos) (pins:List (Addr×Obj)) (s:Shared) (σ:St) (H:Hp) (Q:List V→Hp→Prop),Inv X pins σ H s→t σ H Q→wpAny (model X.prog X.w) X.A (spliced (backTo pos (starEach es X.env))) (AP X pins σ Q) X.xe s
noncomputable def PS (X:Cx) (st:Stmt) (t:TS):Prop:=
 ∀ (pins:List (Addr×Obj)) (s:Shared) (σ:St) (H:Hp) (D:Ends),Inv X pins σ H s→t D σ H→wpAny (model X.prog X.w) X.A (exec st X.env) (SP X pins D) X.xe s
noncomputable def PSs (X:Cx) (st:List Stmt) (t:TS):Prop:=
 ∀ (pins:List (Addr×Obj)) (s:Shared) (σ:St) (H:Hp) (D:Ends),Inv X pins σ H s→t D σ H→wpAny (model X.prog X.w) X.A (execs st X.env) (SP X pins D) X.xe s
theorem thn {α:Type} {t:Sem α} {Q Q':α→Shared→Prop} {M:Model} {A:Around} {E:Value→Shared→Prop} {s:Shared} (h:wpAny M A t Q E s) (hQ:∀ a s,Q a s→Q' a s):wpAny M A t Q' E s:=wpAny_mono h hQ fun _ _ x=>x
section
variable {X:Cx}
noncomputable def mC (i:Nat):TE:=fun σ H Q=>∃ v,σ[i]?=some (some v)∧Q v H
noncomputable def tC (v:V):TE:=fun _ H Q=>Q v H
theorem dX {i:Nat} {x:Str} {pos:Pos} (hN:X.N[i]?=some x) (hv:Vis X.env.scope x) (hd:(x == ("__debug__" : Str))=false:=by decide) (hcd:(x == ("__classdict__" : Str))=false:=by decide):PE X (.Name x pos) (mC i):=by
 intro pins s σ H Q I h
 obtain ⟨v,e,h⟩:=h
 obtain ⟨m,hn,hl⟩:=I.loc
 obtain ⟨u,r,l⟩:=hl i x v hN e hv
 have fin:EP X pins σ Q u s:=⟨v,H,I,r,h⟩
 rcases l with ⟨hk,hm⟩ | ⟨hk,c,hc,hcell⟩
 ·exact wpAny_Name (wpAny_loadName_local I.ok.kind hk hn hm fin) hd
 ·rcases hk with hk | hk
  ·exact wpAny_Name (wpAny_loadName_cell I.ok.kind hk hc hcell fin) hd
  ·exact wpAny_Name (wpAny_loadName_free I.ok.kind hk hc hcell fin hcd) hd
theorem E2 {i j pos}:PE X (.Constant (.int i) j pos) (tC (.int i)):=fun _ _ _ H _ I h=>wpAny_Constant_int ⟨.int i,H,I.tok _,⟨_,rfl⟩,h⟩
theorem IY {b j pos}:PE X (.Constant (.bool b) j pos) (tC (.bl b)):=fun _ _ _ H _ I h=>Constant_bool ⟨.bl b,H,I,rfl,h⟩
theorem E3 {j pos}:PE X (.Constant .none j pos) (tC .non):=fun _ _ _ H _ I h=>Constant_none ⟨.non,H,I,rfl,h⟩
noncomputable def Gl (X:Cx) (x:Str):Prop:=X.env.kindOf x=some .globalImplicit
theorem ug {E:Value→Shared→Prop} {pins:List (Addr×Obj)} {s:Shared} {σ:St} {H:Hp} {x:Str} {u:Value} {pos:Pos} {Q:Value→Shared→Prop} (I:Inv X pins σ H s) (hg:Gl X x) (hm:X.mg x=some u) (h:Q u s)
  (hd:(x == ("__debug__" : Str))=false:=by decide):wpAny (model X.prog X.w) X.A (eval (.Name x pos) X.env) Q E s:=
 Calls.Name_function_global I.ok.kind hg (Calls.loadGlobal_global (by rw [I.ok.glob];exact I.mod.glob.keeps I.bk) hm h) hd
theorem cB {E:Value→Shared→Prop} {pins:List (Addr×Obj)} {s:Shared} {σ:St} {H:Hp} {x:Str} {u:Value} {pos:Pos} {Q:Value→Shared→Prop} (I:Inv X pins σ H s) (hg:Gl X x) (hm:X.mg x=none) (hv:bootBuiltins x=some u) (h:Q u s)
  (hn:x ≠ "__name__" := by decide) (hd:(x == ("__debug__" : Str))=false:=by decide):wpAny (model X.prog X.w) X.A (eval (.Name x pos) X.env) Q E s:=by
 obtain ⟨mb,h1,h2⟩:=I.mod.blt
 exact Calls.Name_function_global I.ok.kind hg (Calls.loadGlobal_builtin (by rw [I.ok.glob];exact I.mod.glob.keeps I.bk) hm (by rw [I.ok.blt];exact h1.keeps I.bk) ((h2 x hn).trans hv) h) hd
theorem uh {x:Str} {v:V} {u:Value} {pos:Pos} (hg:Gl X x) (hm:X.mg x=some u) (r:RelV v u) (hd:(x == ("__debug__" : Str))=false:=by decide):PE X (.Name x pos) (tC v):=
 fun _ _ _ H _ I h=>ug I hg hm ⟨v,H,I,r,h⟩ hd
theorem BF {x:Str} {v:V} {u:Value} {pos:Pos} (hg:Gl X x) (hm:X.mg x=none) (hv:bootBuiltins x=some u) (r:RelV v u) (hn:x ≠ "__name__" := by decide) (hd:(x == ("__debug__" : Str))=false:=by decide):PE X (.Name x pos) (tC v):=
 fun _ _ _ H _ I h=>cB I hg hm hv ⟨v,H,I,r,h⟩ hn hd
variable {a b:Expr} {ta tb:TE} {pos:Pos}
noncomputable def PC (X:Cx) (op:CmpOp) (a b:Expr) (t:TE):Prop:=
 ∀ (pins:List (Addr×Obj)) (s:Shared) (σ:St) (H:Hp) (Q:VK),Inv X pins σ H s→t σ H Q →
  wpAny (model X.prog X.w) X.A (eval a X.env) (fun v s₁=>wpAny (model X.prog X.w) X.A (eval b X.env) (fun u s₂=>wpAny (model X.prog X.w) X.A (compareOp op v u) (EP X pins σ Q) X.xe s₂) X.xe s₁) X.xe s
noncomputable def tB (t:TE):TT:=fun σ H Q=>t σ H fun x H1=>∃ c,x=.bl c∧Q c H1
theorem xK {op:CmpOp} {t:TE} (h:PC X op a b t) (h1:behindInMarks op b=false:=by first | exact IZ _ (by decide) (by decide) | rfl):PT X (.Compare a [op] [b] pos) (tB t):=by
 intro pins s σ H Q I hw
 refine wpAny_isTrue_Compare1 (thn (h pins s σ H _ I hw) fun v s1 h1=>thn h1 fun u s2 h2=>thn h2 fun c s3 ⟨x,H1,I1,r1,q1⟩=>?_) h1
 obtain ⟨d,rfl,q⟩:=q1
 cases r1
 exact wpAny_truthy_bool ⟨H1,I1,q⟩
theorem E4 {e:Expr} {t:TE} (h:PE X e t) (he:∀ whole,isTrue e X.env whole=(do let v ← whole;standAt e.pos;holding [v] (truthy v)):=by intro _;rfl):PT X e (tB t):=by
 intro pins s σ H Q I hw
 refine isTrue_plain (thn (h pins s σ H _ I hw) fun v s1 ⟨x,H1,I1,r1,q1⟩=>?_) (he _)
 obtain ⟨d,rfl,q⟩:=q1
 cases r1
 exact wpAny_truthy_bool ⟨H1,I1,q⟩
variable {tA tB':TT} {rest:List Expr}
noncomputable def jE (t u:TT):TT:=fun σ H Q=>t σ H fun c H1=>if c=true then u σ H1 Q else Q false H1
noncomputable def tOr (t u:TT):TT:=fun σ H Q=>t σ H fun c H1=>if c=true then Q true H1 else u σ H1 Q
noncomputable def di (t:TT):TT:=fun σ H Q=>t σ H fun c H1=>Q (!c) H1
theorem pw_and1 (ha:PT X a tA):PW X (.BoolOp .And [a] pos) tA:=by
 intro wh pins s σ H Q I h
 refine isTrue_and (thn (ha pins s σ H Q I h) fun c s1 e=>?_)
 cases c with
 | true=>exact isTrue_and_nil e
 | false=>exact e
theorem pw_or1 (ha:PT X a tA):PW X (.BoolOp .Or [a] pos) tA:=by
 intro wh pins s σ H Q I h
 refine isTrue_or (thn (ha pins s σ H Q I h) fun c s1 e=>?_)
 cases c with
 | false=>exact isTrue_or_nil e
 | true=>exact e
theorem pw_and (ha:PT X a tA) (hb:PW X (.BoolOp .And (b::rest) pos) tB'):PW X (.BoolOp .And (a::b::rest) pos) (jE tA tB'):=by
 intro wh pins s σ H Q I h
 refine isTrue_and (thn (ha pins s σ H _ I h) fun c s1 ⟨H1,I1,q1⟩=>?_)
 cases c with
 | true=>exact hb wh pins s1 σ H1 Q I1 q1
 | false=>exact ⟨H1,I1,q1⟩
theorem pw_or (ha:PT X a tA) (hb:PW X (.BoolOp .Or (b::rest) pos) tB'):PW X (.BoolOp .Or (a::b::rest) pos) (tOr tA tB'):=by
 intro wh pins s σ H Q I h
 refine isTrue_or (thn (ha pins s σ H _ I h) fun c s1 ⟨H1,I1,q1⟩=>?_)
 cases c with
 | true=>exact ⟨H1,I1,q1⟩
 | false=>exact hb wh pins s1 σ H1 Q I1 q1
theorem E5 (ha:PT X a tA):PT X (.UnaryOp .Not a pos) (di tA):=by
 intro pins s σ H Q I h
 exact isTrue_not (ha pins s σ H (fun c H1=>Q (!c) H1) I h)
noncomputable def Dz (ta tb:TE):TE:=fun σ H Q=>ta σ H fun x H1=>∃ c,x=.bl c∧if c=true then tb σ H1 Q else Q (.bl false) H1
noncomputable def DB (ta:TE):TE:=fun σ H Q=>ta σ H fun x H1=>∃ c,x=.bl c∧Q (.bl (!c)) H1
theorem E6 {op} {t:TE} (h:PE X a t):PE X (.BoolOp op [a] pos) t:=fun pins s σ H Q I hw=>BoolOp_one (h pins s σ H Q I hw)
theorem E7 (ha:PE X a ta) (hb:PE X (.BoolOp .And (b::rest) pos) tb):PE X (.BoolOp .And (a::b::rest) pos) (Dz ta tb):=by
 intro pins s σ H Q I h
 refine BoolOp_and (thn (ha pins s σ H _ I h) fun v s1 ⟨x,H1,I1,r1,q1⟩=>?_)
 obtain ⟨c,rfl,q1⟩:=q1
 cases r1
 refine wpAny_truthy_bool ?_
 cases c with
 | true=>exact hb pins s1 σ H1 Q I1 q1
 | false=>exact ⟨.bl false,H1,I1,rfl,q1⟩
theorem E8 (ha:PE X a ta):PE X (.UnaryOp .Not a pos) (DB ta):=by
 intro pins s σ H Q I h
 refine UnaryOp_ (thn (ha pins s σ H _ I h) fun v s1 ⟨x,H1,I1,r1,q1⟩=>?_)
 obtain ⟨c,rfl,q1⟩:=q1
 cases r1
 exact not_of (wpAny_truthy_bool ⟨.bl (!c),H1,I1,rfl,q1⟩)
noncomputable def tIf (t:TT) (ta tb:TE):TE:=fun σ H Q=>t σ H fun c H1=>if c=true then ta σ H1 Q else tb σ H1 Q
theorem xM {c:Expr} (hc:PT X c tA) (ha:PE X a ta) (hb:PE X b tb):PE X (.IfExp c a b pos) (tIf tA ta tb):=by
 intro pins s σ H Q I h
 refine wpAny_IfExp (thn (hc pins s σ H _ I h) fun d s1 ⟨H1,I1,q1⟩=>?_)
 cases d with
 | true=>exact ha pins s1 σ H1 Q I1 q1
 | false=>exact hb pins s1 σ H1 Q I1 q1
end
noncomputable def SqL (K:PySem.W.Frag) (H:Hp) (a:Addr) (xs:List V):Prop:=
 Rd H a (.lst xs) ∨
  ∃ (o:Obj) (its:Array Value) (n:Nat),K.lookup a=some o∧o.cls=.type "list" ∧ o.dict=none∧o.data=.seq its n∧its.size≤sizeLine∧Vals xs its.toList
noncomputable def SqT (K:PySem.W.Frag) (H:Hp) (a:Addr) (xs:List V):Prop:=
 Rd H a (.tup xs) ∨
  ∃ (o:Obj) (its:Array Value) (n:Nat),K.lookup a=some o∧o.cls=.type "tuple" ∧ o.data=.seq its n∧its.size≤sizeLine∧Vals xs its.toList
noncomputable def Lx:Value→Option V
 | .none=>some .non
 | .bool b=>some (.bl b)
 | .int i _=>some (.int i)
 | .str x _=>some (.str x)
 | .bytes b _=>some (.byt b)
 | .float b _=>some (.flt b)
 | .ref a=>some (.ref a)
 | .type n=>some (.ty n)
 | _=>none
theorem RelV.abs {x:V} {u:Value} (r:RelV x u):Lx u=some x:=by
 cases x with
 | non=>cases r;rfl
 | bl _=>cases r;rfl
 | int _=>obtain ⟨t,rfl⟩:=r;rfl
 | str _=>obtain ⟨t,rfl⟩:=r;rfl
 | byt _=>obtain ⟨t,rfl⟩:=r;rfl
 | flt _=>obtain ⟨t,rfl⟩:=r;rfl
 | ref _=>cases r;rfl
 | ty _=>cases r;rfl
theorem RelV.inj {x y:V} {u:Value} (r:RelV x u) (q:RelV y u):x=y:=Option.some.inj (r.abs.symm.trans q.abs)
theorem Vals.inj:∀ {xs ys:List V} {us:List Value},Vals xs us→Vals ys us→xs=ys
 | _,_,_,.nil,.nil=>rfl
 | _,_,_,.cons r t,.cons r' t'=>by rw [r.inj r',Vals.inj t t']
section
variable {X:Cx} {pins:List (Addr×Obj)} {σ:St} {H:Hp} {s:Shared} {a:Addr} {xs ys:List V}
theorem SqT.of {K:PySem.W.Frag} (h:H a=some (.tup xs)):SqT K H a xs:=.inl (.inl h)
theorem Inv.list (I:Inv X pins σ H s) (h:SqL X.K H a xs):∃ its:List Value,Vals xs its∧PlainL s.heap a its.toArray∧xs.length≤sizeLine:=by
 rcases h with h | ⟨o,its,n,hk,hc,hd,hs,hz,r⟩
 ·obtain ⟨z,its,n,r,e⟩:=h.ok I.hok
  exact ⟨its,r,⟨_,n,e,rfl,rfl,rfl⟩,z⟩
 ·refine ⟨its.toList,r,⟨o,n,I.kIn a o hk,hc,hd,by simpa using hs⟩,?_⟩
  have e:=r.length
  simp only [Array.length_toList] at e
  omega
theorem Inv.tuple (I:Inv X pins σ H s) (h:SqT X.K H a xs):∃ its:List Value,Vals xs its∧IsTup s.heap a its.toArray∧xs.length≤sizeLine:=by
 rcases h with h | ⟨o,its,n,hk,hc,hs,hz,r⟩
 ·obtain ⟨z,its,r,p⟩:=h.ok I.hok
  exact ⟨its,r,p,z⟩
 ·refine ⟨its.toList,r,⟨o,I.kIn a o hk,hc,n,by simpa using hs⟩,?_⟩
  have e:=r.length
  simp only [Array.length_toList] at e
  omega
theorem Inv.dY (I:Inv X pins σ H s) (h:SqL X.K H a xs) (h':SqL X.K H a ys):xs=ys:=by
 obtain ⟨its,r,⟨o,n,e,_,_,d⟩,_⟩:=I.list h
 obtain ⟨its',r',⟨o',n',e',_,_,d'⟩,_⟩:=I.list h'
 rw [e] at e';cases e'
 rw [d] at d'
 injection d' with d1 _
 have:its=its':=by simpa using congrArg Array.toList d1
 subst this
 exact r.inj r'
theorem Inv.vX (I:Inv X pins σ H s) (h:SqT X.K H a xs) (h':SqT X.K H a ys):xs=ys:=by
 obtain ⟨its,r,⟨o,e,_,n,d⟩,_⟩:=I.tuple h
 obtain ⟨its',r',⟨o',e',_,n',d'⟩,_⟩:=I.tuple h'
 rw [e] at e';cases e'
 rw [d] at d'
 injection d' with d1 _
 have:its=its':=by simpa using congrArg Array.toList d1
 subst this
 exact r.inj r'
end
noncomputable abbrev Cx.mD (X:Cx) (E:Value→Shared→Prop):Cx:={ X with xe:=E }
noncomputable abbrev Cx.nox (X:Cx):Cx:=X.mD fun _ _=>False
theorem Cx.Ok.mD {X:Cx} (ok:X.Ok) (E:Value→Shared→Prop):(X.mD E).Ok:=
 ⟨ok.mod,ok.kind,ok.glob,ok.blt,ok.above,ok.inj,ok.has,ok.cab,ok.hd,ok.frames,ok.stk,ok.exf,ok.bs,ok.bsz,ok.xJ,ok.BE,ok.jP,ok.frf⟩
theorem Cx.Ok.dZ {X:Cx} {E:Value→Shared→Prop} (ok:(X.mD E).Ok):X.Ok:=
 ⟨ok.mod,ok.kind,ok.glob,ok.blt,ok.above,ok.inj,ok.has,ok.cab,ok.hd,ok.frames,ok.stk,ok.exf,ok.bs,ok.bsz,ok.xJ,ok.BE,ok.jP,ok.frf⟩
section
variable {X:Cx} {pins:List (Addr×Obj)} {σ:St} {H:Hp} {s:Shared} {E:Value→Shared→Prop}
theorem Inv.mD (I:Inv X pins σ H s) (E:Value→Shared→Prop):Inv (X.mD E) pins σ H s:=⟨I.ok.mD E,I.os,I.bare,I.base,I.loc,I.cell,I.free,I.fy,I.pin,I.hok,I.len⟩
theorem Inv.dZ (I:Inv (X.mD E) pins σ H s):Inv X pins σ H s:=⟨I.ok.dZ,I.os,I.bare,I.base,I.loc,I.cell,I.free,I.fy,I.pin,I.hok,I.len⟩
theorem SP.dZ {D:Ends} {f:Flow} {s':Shared} (h:SP (X.mD E) pins D f s'):SP X pins D f s':=by
 cases f with
 | next=>obtain ⟨σ',H',I,q⟩:=h;exact ⟨σ',H',I.dZ,q⟩
 | brk=>obtain ⟨σ',H',I,q⟩:=h;exact ⟨σ',H',I.dZ,q⟩
 | cont=>obtain ⟨σ',H',I,q⟩:=h;exact ⟨σ',H',I.dZ,q⟩
 | ret u=>obtain ⟨v,σ',H',I,r,q⟩:=h;exact ⟨v,σ',H',I.dZ,r,q⟩
theorem PSs.nox {st:List Stmt} {t:TS} (h:PSs X.nox st t):PSs X st t:=fun pins s σ H D I hw=>
 wpAny_mono (h pins s σ H D (I.mD _) hw) (fun _ _ q=>q.dZ) fun _ _ z=>False.elim z
end
section
variable {X:Cx} {st:Stmt} {rest:List Stmt} {t u:TS} {e:Expr} {te:TE} {pos:Pos}
noncomputable def xN:TS:=fun D σ H=>D.nx σ H
noncomputable def vY (t u:TS):TS:=fun D σ H=>t { D with nx:=u D } σ H
theorem um:PSs X [] xN:=fun _ _ σ H _ I h=>wpAny_execs_nil ⟨σ,H,I,h⟩
theorem gO (h1:PS X st t) (h2:PSs X rest u):PSs X (st::rest) (vY t u):=by
 intro pins s σ H D I h
 refine wpAny_execs_cons (thn (h1 pins s σ H { D with nx:=u D } I h) fun f s1 q=>?_)
 cases f with
 | next=>
  obtain ⟨σ',H',I',q⟩:=q
  exact h2 pins s1 σ' H' D I' q
 | ret v=>exact q
 | brk=>exact q
 | cont=>exact q
theorem uo (h1:PS X st t):PSs X [st] t:=by
 intro pins s σ H D I h
 refine wpAny_execs_cons (thn (h1 pins s σ H D I h) fun f s1 q=>?_)
 cases f with
 | next=>exact wpAny_execs_nil q
 | ret v=>exact q
 | brk=>exact q
 | cont=>exact q
theorem Inv.quiet {pins:List (Addr×Obj)} {σ:St} {H:Hp} {s:Shared} (I:Inv X pins σ H s):interactive X.env=false:=by simp [interactive,I.ok.kind]
noncomputable def uq (te:TE):TS:=fun D σ H=>te σ H fun _ H1=>D.nx σ H1
theorem nI (he:PE X e te) (hs:swapsWith e none pos.line X.env=pure false:=by rfl):PS X (.Expr e pos) (uq te):=by
 intro pins s σ H D I h
 exact wpAny_Expr_any (thn (he pins s σ H _ I h) fun v s1 ⟨x,H1,I1,r1,q1⟩=>⟨σ,H1,I1,q1⟩) I.quiet hs
noncomputable def I0 (te:TE):TS:=fun D σ H=>te σ H D.rt
theorem E9 (he:PE X e te):PS X (.Return (some e) pos) (I0 te):=by
 intro pins s σ H D I h
 exact wpAny_Return_some (thn (he pins s σ H _ I h) fun v s1 ⟨x,H1,I1,r1,q1⟩=>⟨x,σ,H1,I1,r1,q1⟩)
noncomputable def E_ (c:TT) (t u:TS):TS:=fun D σ H=>c σ H fun b H1=>if b=true then t D σ H1 else u D σ H1
theorem DC {c:Expr} {a b:List Stmt} {tc:TT} (hc:PT X c tc) (ha:PSs X a t) (hb:PSs X b u):PS X (.If c a b pos) (E_ tc t u):=by
 intro pins s σ H D I h
 refine wpAny_If (thn (hc pins s σ H _ I h) fun d s1 ⟨H1,I1,q1⟩=>?_)
 cases d with
 | true=>exact ha pins s1 σ H1 D I1 q1
 | false=>exact hb pins s1 σ H1 D I1 q1
noncomputable def Fb:TS:=fun _ _ _=>False
theorem xO:PS X st Fb:=fun _ _ _ _ _ _ h=>h.elim
end
noncomputable abbrev TG:=V→St→Hp→(St→Hp→Prop)→Prop
noncomputable abbrev TGs:=List V→St→Hp→(St→Hp→Prop)→Prop
noncomputable def PG (X:Cx) (target:Expr) (t:TG):Prop:=
 ∀ (pins:List (Addr×Obj)) (s:Shared) (σ:St) (H:Hp) (v:V) (u:Value) (Q:St→Hp→Prop),Inv X pins σ H s→RelV v u→t v σ H Q →
  wpAny (model X.prog X.w) X.A (assign target X.env u) (fun _ s'=>∃ σ' H',Inv X pins σ' H' s'∧Q σ' H') X.xe s
noncomputable def PGs (X:Cx) (ts:List Expr) (t:TGs):Prop:=
 ∀ (pins:List (Addr×Obj)) (s:Shared) (σ:St) (H:Hp) (vs:List V) (us:List Value) (Q:St→Hp→Prop),Inv X pins σ H s→Vals vs us→t vs σ H Q →
  wpAny (model X.prog X.w) X.A (assignInOrder ((assignEach ts X.env).map (·.2)) us) (fun _ s'=>∃ σ' H',Inv X pins σ' H' s'∧Q σ' H') X.xe s
noncomputable abbrev Fc:=V→V→V→Hp→(Hp→Prop)→Prop
noncomputable def I_ (X:Cx) (t:Fc):Prop:=
 ∀ (pins:List (Addr×Obj)) (s:Shared) (σ:St) (H:Hp) (o i v:V) (ov iv u:Value) (Q:Hp→Prop),Inv X pins σ H s→RelV o ov→RelV i iv→RelV v u→t o i v H Q →
  wpAny (model X.prog X.w) X.A (setItem ov iv u) (fun _ s'=>∃ H',Inv X pins σ H' s'∧Q H') X.xe s
section
variable {X:Cx} {pos:Pos}
noncomputable def gP (i:Nat):TG:=fun v σ H Q=>Q (σ.set i (some v)) H
theorem nJ {i:Nat} {x:Str} (hN:X.N.Nodup) (hi:X.N[i]?=some x) (hx:Loc X.env.scope x) (hf:X.fn x=true∨X.env.scope.names.lookup x=some .local:=by first | exact .inl rfl | exact .inr rfl | assumption):PG X (.Name x pos) (gP i):=by
 intro pins s σ H v u Q I r h
 exact wpAny_assign_Name (pq I hN hi hx r (fun s' I'=>⟨_,H,I',h⟩) hf)
noncomputable def Ja:TGs:=fun vs σ H Q=>vs=[]∧Q σ H
noncomputable def DF (t:TG) (u:TGs):TGs:=fun vs σ H Q=>∃ v r,vs=v::r∧t v σ H fun σ' H'=>u r σ' H' Q
theorem BG:PGs X [] Ja:=by
 intro pins s σ H vs us Q I r h
 obtain ⟨e,h⟩:=h
 subst e
 cases r
 exact assignInOrder_nil ⟨σ,H,I,h⟩
theorem xP {e:Expr} {es:List Expr} {t:TG} {u:TGs} (h1:PG X e t) (h2:PGs X es u)
  (hs:(assignEach (e::es) X.env).map (·.2)=assign e X.env::(assignEach es X.env).map (·.2):=by rfl):PGs X (e::es) (DF t u):=by
 intro pins s σ H vs us Q I r h
 obtain ⟨v,vr,e1,h⟩:=h
 subst e1
 cases r with
 | cons r rr=>
  rw [hs]
  refine assignInOrder_cons (thn (h1 pins s σ H _ _ _ I r h) fun _ s1 ⟨σ1,H1,I1,q1⟩=>?_)
  exact h2 pins s1 σ1 H1 _ _ Q I1 rr q1
noncomputable def Jb (K:PySem.W.Frag) (n:Nat) (t:TGs):TG:=fun v σ H Q=>∃ a xs,v=.ref a∧SqT K H a xs∧xs.length=n∧t xs σ H Q
theorem xQ {es:List Expr} {k:Nat} {t:TGs} {n:Nat} (hc:X.calm=true) (h:PGs X es t)
  (hn:(assignEach es X.env).length=n:=by rfl) (hst:(assignEach es X.env).findIdx? (·.1)=none:=by rfl):PG X (.Tuple es k pos) (Jb X.K n t):=by
 intro pins s σ H v u Q I r hw
 obtain ⟨a,xs,e1,hq,hl,hw⟩:=hw
 subst e1
 cases r
 obtain ⟨its,rv,ht,hz⟩:=I.tuple hq
 refine assign_Tuple_tuple (I.ok.hd hc) ht (by simp [hn,← hl,rv.length]) hst fun h' hx=>?_
 have I1:Inv X pins σ H { s with heap:=h' }:=I.kept (t':=s.toks) fun b o e=>hx b o (Nat.ne_of_lt (Heap.lt_size e)) e
 exact h pins _ σ H xs _ Q I1 (by simpa using rv) hw
noncomputable def fq (to ti:TE) (t:Fc):TG:=fun v σ H Q=>to σ H fun o H1=>ti σ H1 fun i H2=>t o i v H2 fun H3=>Q σ H3
theorem Fe {o i:Expr} {to ti:TE} {t:Fc} (ho:PE X o to) (hi:PE X i ti) (hs:I_ X t)
  (ha:∀ v,assign (.Subscript o i pos) X.env v=(do
   let ov ← holding [v] (eval o X.env)
   let iv ← holding [v,ov] (eval i X.env)
   standAt pos
   holding [v,ov,iv] (setItem ov iv v)
   release [v,ov,iv] []):=by intro _;rfl):PG X (.Subscript o i pos) (fq to ti t):=by
 intro pins s σ H v u Q I r h
 rw [ha]
 refine wpAny_bind (wpAny_holding (thn (ho pins s σ H _ I h) fun ov s1 ⟨x,H1,I1,r1,q1⟩=>?_))
 refine wpAny_bind (wpAny_holding (thn (hi pins s1 σ H1 _ I1 q1) fun iv s2 ⟨y,H2,I2,r2,q2⟩=>?_))
 refine wpAny_bind (wpAny_standAt (wpAny_bind (wpAny_holding (thn (hs pins s2 σ H2 x y v ov iv u _ I2 r1 r2 r q2) fun _ s3 ⟨H3,I3,q3⟩=>?_))))
 exact wpAny_release ⟨σ,H3,I3,q3⟩
noncomputable def vZ (te:TE) (g:TG):TS:=fun D σ H=>te σ H fun x H1=>g x σ H1 D.nx
theorem Ff {tg e:Expr} {te:TE} {g:TG} (he:PE X e te) (hg:PG X tg g) (hs:swapsWithSole [tg] e pos.line X.env=pure false:=by rfl) (hw:swappedStores [tg] e X.env=pure none:=by rfl)
  (h1:(assignEach [tg] X.env).map (·.2)=[assign tg X.env]:=by rfl):PS X (.Assign [tg] e pos) (vZ te g):=by
 intro pins s σ H D I h
 refine wpAny_Assign_stores (thn (he pins s σ H _ I h) fun v s1 ⟨x,H1,I1,r1,q1⟩=>?_) hs hw
 rw [h1]
 exact thn (hg pins s1 σ H1 x v _ I1 r1 q1) fun _ s2 q=>q
theorem Fg {i:Nat} {x:Str} {e:Expr} {te:TE} {pos':Pos} (hN:X.N.Nodup) (hi:X.N[i]?=some x) (hx:Loc X.env.scope x) (he:PE X e te) (hs:swapsWith e (some (.Name x pos')) pos.line X.env=pure false:=by rfl) (hf:X.fn x=true∨X.env.scope.names.lookup x=some .local:=by first | exact .inl rfl | exact .inr rfl | assumption) :
  PS X (.Assign [.Name x pos'] e pos) (vZ te (gP i)):=by
 intro pins s σ H D I h
 refine wpAny_Assign_Name (thn (he pins s σ H _ I h) fun v s1 ⟨y,H1,I1,r1,q1⟩=>?_) hs
 exact pq I1 hN hi hx r1 (fun s2 I2=>⟨_,H1,I2,q1⟩) hf
end
section
variable {X:Cx} {pos:Pos}
noncomputable def xR (c:TT) (tb:TS):TS:=fun D σ H=>∃ W:Nat→St→Hp→Prop,(∃ m,W m σ H)∧∀ m σ H,W m σ H →
 c σ H fun b H1=>if b=true then ∃ N:St→Hp→Prop,(∀ σ' H',N σ' H'→∃ m',m'<m∧W m' σ' H')∧tb { D with nx:=N,ct:=N,bk:=D.nx } σ H1 else D.nx σ H1
theorem xS {c:Expr} {body:List Stmt} {tc:TT} {tb:TS} (hp:PassesOwn (model X.prog X.w) X.A X.env X.xe) (hc:PT X c tc) (hb:PSs X body tb):PS X (.While c body [] pos) (xR tc tb):=by
 intro pins s σ H D I h
 obtain ⟨W,⟨m0,w0⟩,turn⟩:=h
 refine wpAny_While (codeAny_whileLoop (fun n s'=>∃ σ' H',Inv X pins σ' H' s'∧W n σ' H') ?_ m0 ⟨σ,H,I,w0⟩)
 rintro n s1 ⟨σ1,H1,I1,w1⟩
 refine wpAny_passesOwn hp (thn (hc pins s1 σ1 H1 _ I1 (turn n σ1 H1 w1)) fun b s2 ⟨H2,I2,q2⟩=>?_)
 cases b with
 | true=>
  obtain ⟨N,hN,q2⟩:=q2
  rw [if_pos rfl]
  refine wpAny_passesOwn hp (thn (hb pins s2 σ1 H2 _ I2 q2) fun f s3 q3=>?_)
  cases f with
  | next=>
   obtain ⟨σ3,H3,I3,n3⟩:=q3
   obtain ⟨m',hm,w3⟩:=hN σ3 H3 n3
   exact ⟨m',hm,σ3,H3,I3,w3⟩
  | cont=>
   obtain ⟨σ3,H3,I3,n3⟩:=q3
   obtain ⟨m',hm,w3⟩:=hN σ3 H3 n3
   exact ⟨m',hm,σ3,H3,I3,w3⟩
  | brk=>exact q3
  | ret v=>exact q3
 | false=>
  rw [if_neg Bool.false_ne_true]
  exact wpAny_execs_nil ⟨σ1,H2,I2,q2⟩
end
structure It where
 go:Nat→Hp→Prop
 yld:Nat→Hp→V→Hp→Prop
 stop:Nat→Hp→Prop
noncomputable def mE (X:Cx) (pins:List (Addr×Obj)) (H:Hp) (b:Addr):Prop:=
 H b=none∧b≠X.env.locals∧b∉X.fs∧(b∈X.ex∨X.s₀.heap.objs.size≤b)∧(∀ x c,X.env.cells.lookup x=some c→c≠b)∧∀ p∈X.pn++pins,p.1≠b
theorem Inv.v5 {X:Cx} {pins:List (Addr×Obj)} {σ:St} {H H':Hp} {s:Shared} {b:Addr} (I:Inv X pins σ H s) (hb:s.heap.objs.size≤b) (hn:H' b=none):mE X pins H' b:=by
 refine ⟨hn,Nat.ne_of_gt (Nat.lt_of_lt_of_le I.lt hb),I.Lv hb,.inr (Nat.le_trans I.sz hb),fun x c e z=>?_,fun p hp z=>?_⟩
 ·obtain ⟨v,q⟩:=I.cell x c e
  exact absurd (Nat.lt_of_lt_of_le q.lt (by rw [z];exact hb)) (Nat.lt_irrefl _)
 ·exact absurd (Nat.lt_of_lt_of_le (Heap.lt_size (I.pin p hp).1) (by rw [z];exact hb)) (Nat.lt_irrefl _)
structure Turn (P:Program) (w:World) (K:PySem.W.Frag) (tg:Expr) (J:It) (fp:List Addr) (it:Addr) (tn:Nat→Heap→Prop):Prop where
 mem:it∈fp
 obj:∀ i h,tn i h→∀ b∈fp,∃ o,h.get? b=some o∧∀ v,o.data≠.cell v
 keep:∀ i h h',tn i h→(∀ b∈fp,∀ o,h.get? b=some o→h'.get? b=some o)→tn i h'
 item:∀ (X:Cx),X.prog=P→X.w=w→X.K=K→X.calm=true→∀ (i:Nat) (pins:List (Addr×Obj)) (s:Shared) (σ:St) (H:Hp) (E:Value→Shared→Prop),Inv X pins σ H s→(∀ b∈fp,mE X pins H b)→tn i s.heap→J.go i H →
  wpAny (model P w) X.A (pyNext (.ref it)) (fun r s1=>∃ u,r=some u ∧
   wpAny (model P w) X.A (letOwnedTupleGo tg (.ref it) u) (fun _ s2=>∃ x H',Inv X pins σ H' s2∧RelV x u∧J.yld i H x H'∧tn (i+1) s2.heap∧∀ b∈fp,H' b=none) E s1) E s
 done:∀ (X:Cx),X.prog=P→X.w=w→X.K=K→X.calm=true→∀ (i:Nat) (pins:List (Addr×Obj)) (s:Shared) (σ:St) (H:Hp) (E:Value→Shared→Prop),Inv X pins σ H s→(∀ b∈fp,mE X pins H b)→tn i s.heap→J.stop i H →
  wpAny (model P w) X.A (pyNext (.ref it)) (fun r s1=>r=none∧Inv X pins σ H s1) E s
 self:∀ (A:Around) (i:Nat) (s:Shared) (Q:Value→Shared→Prop) (E:Value→Shared→Prop),tn i s.heap→Q (.ref it) s→wpAny (model P w) A (pyIter (.ref it)) Q E s
noncomputable abbrev TI:=St→Hp→(It→Hp→Prop)→Prop
noncomputable def PIE (X:Cx) (pins:List (Addr×Obj)) (σ:St) (tg:Expr) (R:It→Hp→Prop) (itv:Value) (s2:Shared):Prop:=
 ∃ (it:Addr) (fp:List Addr) (tn:Nat→Heap→Prop) (J:It) (H':Hp),itv=.ref it∧Inv X pins σ H' s2∧Turn X.prog X.w X.K tg J fp it tn∧tn 0 s2.heap∧(∀ b∈fp,mE X pins H' b)∧R J H'
noncomputable def PI (X:Cx) (tg iter:Expr) (wi:TI):Prop:=
 ∀ (pins:List (Addr×Obj)) (s:Shared) (σ:St) (H:Hp) (R:It→Hp→Prop),Inv X pins σ H s→wi σ H R →
  wpAny (model X.prog X.w) X.A (eval iter X.env) (fun v s1=>wpAny (model X.prog X.w) X.A (pyIter v) (PIE X pins σ tg R) X.xe s1) X.xe s
theorem ur {M:Model} {A:Around} {E:Value→Shared→Prop} {s:Shared} {tg:Expr} {it:Addr} {u:Value} {o:Obj} {n:String} {vs:Array Value} {Q:Unit→Shared→Prop} (ho:s.heap.get? it=some o) (hc:o.cls=.type n) (hd:o.data=.fields vs)
  (hn:["enumerate","zip","dict_itemiterator","dict_reverseitemiterator","odict_iterator","itertools.zip_longest","itertools.pairwise"].contains n=false) (hQ:Q () s):wpAny M A (letOwnedTupleGo tg (.ref it) u) Q E s:=by
 unfold letOwnedTupleGo
 cases tg<;>first
  | exact wpAny_pure hQ
  | (cases u<;>first
    | exact wpAny_pure hQ
    | (refine wpAny_bind (wpAny_load ho ?_)
       rw [hc,hd]
       show wpAny M A (if (["enumerate","zip","dict_itemiterator","dict_reverseitemiterator","odict_iterator","itertools.zip_longest","itertools.pairwise"].contains n&&vs[0]? == some (rawInt _))=true then _ else _) Q E s
       rw [if_neg (by intro h;rw [hn,Bool.false_and] at h;cases h)]
       exact wpAny_pure hQ))
noncomputable def Itl (K:PySem.W.Frag) (a:Addr):It:=
 ⟨fun i H=>∃ xs x,SqL K H a xs∧xs[i]?=some x,fun i H x H'=>H'=H∧∀ xs,SqL K H a xs→xs[i]?=some x,fun i H=>∃ xs,SqL K H a xs∧xs.length≤i⟩
noncomputable def Itt (K:PySem.W.Frag) (a:Addr):It:=
 ⟨fun i H=>∃ xs x,SqT K H a xs∧xs[i]?=some x,fun i H x H'=>H'=H∧∀ xs,SqT K H a xs→xs[i]?=some x,fun i H=>∃ xs,SqT K H a xs∧xs.length≤i⟩
noncomputable def Itr (lo:Int) (n:Nat):It:=⟨fun i _=>i<n,fun i H x H'=>H'=H∧x=.int (lo+i),fun i _=>n≤i⟩
theorem v7 {P:Program} {w:World} {K:PySem.W.Frag} {tg:Expr} (a it:Addr):Turn P w K tg (Itl K a) [it] it (fun i h=>h.IsListIter it a i) where
 mem:=by simp
 obj:=fun i h st b hb=>by
  have e:b=it:=by simpa using hb
  subst e
  obtain ⟨o,e,c,d⟩:=st
  exact ⟨o,e,fun v z=>by rw [d] at z;cases z⟩
 keep:=fun i h h' st k=>st.at fun o e=>k it (by simp) o e
 item:=by
  intro X hP hw hK hc i pins s σ H E I hf st hg
  subst hP hw hK
  obtain ⟨xs,x,hq,hx⟩:=hg
  obtain ⟨its,rv,p,hz⟩:=I.list hq
  obtain ⟨u,hu,ru⟩:=rv.get hx
  obtain ⟨f0,f1,f2,f3,f4,f5⟩:=hf it (by simp)
  refine wpAny_pyNext_list_item st p.isList (x:=u) (by simpa using hu) fun h' st' sb=>?_
  have I1:Inv X pins σ H { s with heap:=h' }:=I.turned (t':=s.toks) (fun b o hb e=>(sb.2 b hb).trans e) f0 f1 f3 f4 f5
  obtain ⟨o,e,c,d⟩:=id st'
  exact ⟨u,rfl,ur (s:={ s with heap:=h' }) e c d (by decide) ⟨x,H,I1,ru,⟨rfl,fun ys hy=>by rw [I.dY hy hq];exact hx⟩,st',fun b hb=>(hf b hb).1⟩⟩
 done:=by
  intro X hP hw hK hc i pins s σ H E I hf st hg
  subst hP hw hK
  obtain ⟨xs,hq,hx⟩:=hg
  obtain ⟨its,rv,p,hz⟩:=I.list hq
  obtain ⟨f0,f1,f2,f3,f4,f5⟩:=hf it (by simp)
  have hl:=rv.length
  exact wpAny_pyNext_list_end (I.ok.hd hc) st p.isList (by simp;omega) fun h' eb=>⟨rfl,I.turned (t':=s.toks) (fun b o hb e=>eb b o hb e) f0 f1 f3 f4 f5⟩
 self:=fun _ _ _ _ _ st h=>wpAny_pyIter_listiter st h
theorem rU {P:Program} {w:World} {K:PySem.W.Frag} {tg:Expr} (a it:Addr):Turn P w K tg (Itt K a) [it] it (fun i h=>h.IsTupleIter it a i) where
 mem:=by simp
 obj:=fun i h st b hb=>by
  have e:b=it:=by simpa using hb
  subst e
  obtain ⟨o,e,c,d⟩:=st
  exact ⟨o,e,fun v z=>by rw [d] at z;cases z⟩
 keep:=fun i h h' st k=>st.at fun o e=>k it (by simp) o e
 item:=by
  intro X hP hw hK hc i pins s σ H E I hf st hg
  subst hP hw hK
  obtain ⟨xs,x,hq,hx⟩:=hg
  obtain ⟨its,rv,p,hz⟩:=I.tuple hq
  obtain ⟨u,hu,ru⟩:=rv.get hx
  obtain ⟨f0,f1,f2,f3,f4,f5⟩:=hf it (by simp)
  refine wpAny_pyNext_tuple_item st (show s.heap.IsTuple a its.toArray from p) (x:=u) (by simpa using hu) fun h' st' sb=>?_
  have I1:Inv X pins σ H { s with heap:=h' }:=I.turned (t':=s.toks) (fun b o hb e=>(sb.2 b hb).trans e) f0 f1 f3 f4 f5
  obtain ⟨o,e,c,d⟩:=id st'
  exact ⟨u,rfl,ur (s:={ s with heap:=h' }) e c d (by decide) ⟨x,H,I1,ru,⟨rfl,fun ys hy=>by rw [I.vX hy hq];exact hx⟩,st',fun b hb=>(hf b hb).1⟩⟩
 done:=by
  intro X hP hw hK hc i pins s σ H E I hf st hg
  subst hP hw hK
  obtain ⟨xs,hq,hx⟩:=hg
  obtain ⟨its,rv,p,hz⟩:=I.tuple hq
  obtain ⟨f0,f1,f2,f3,f4,f5⟩:=hf it (by simp)
  have hl:=rv.length
  exact wpAny_pyNext_tuple_end (I.ok.hd hc) st (show s.heap.IsTuple a its.toArray from p) (by simp;omega) fun h' eb=>⟨rfl,I.turned (t':=s.toks) (fun b o hb e=>eb b o hb e) f0 f1 f3 f4 f5⟩
 self:=fun _ _ _ _ _ st h=>wpAny_pyIter_tupleiter st h
theorem rV {P:Program} {w:World} {K:PySem.W.Frag} {tg:Expr} (it:Addr) (lo:Int) (n:Nat):Turn P w K tg (Itr lo n) [it] it (fun i h=>IsRangeIter h it (lo+(i:Nat)*1) ((n:Int)-(i:Nat)) 1) where
 mem:=by simp
 obj:=fun i h st b hb=>by
  have e:b=it:=by simpa using hb
  subst e
  exact ⟨_,st,fun v z=>by
   have z':Data.fields _=Data.cell v:=z
   cases z'⟩
 keep:=fun i h h' st k=>k it (by simp) _ st
 item:=by
  intro X hP hw hK hc i pins s σ H E I hf st hg
  subst hP hw hK
  obtain ⟨f0,f1,f2,f3,f4,f5⟩:=hf it (by simp)
  have W:=Walks.range (prog:=X.prog) (w:=X.w) (I.ok.hd hc) it lo 1 n
  refine W.item i s _ _ hg st fun v h' tk hv st' kk=>?_
  obtain ⟨t,rfl⟩:=hv
  have I1:Inv X pins σ H { s with heap:=h',toks:=tk }:=I.turned (fun b o hb e=>kk b o (by simpa using hb) e) f0 f1 f3 f4 f5
  refine ⟨_,rfl,ur (s:={ s with heap:=h',toks:=tk }) (n := "range_iterator") st' rfl rfl (by decide) ⟨.int (lo+i),H,I1,⟨t,?_⟩,⟨rfl,rfl⟩,st',fun b hb=>(hf b hb).1⟩⟩
  rw [Int.mul_one]
 done:=by
  intro X hP hw hK hc i pins s σ H E I hf st hg
  subst hP hw hK
  obtain ⟨f0,f1,f2,f3,f4,f5⟩:=hf it (by simp)
  exact wpAny_pyNext_range_end (I.ok.hd hc) st (by have:n≤i:=hg;omega) fun h' eb=>⟨rfl,I.turned (t':=s.toks) (fun b o hb e=>eb b o hb e) f0 f1 f3 f4 f5⟩
 self:=fun _ _ _ _ _ st h=>wpAny_pyIter_rangeiter st h
section
variable {X:Cx} {tg:Expr}
noncomputable def pA (K:PySem.W.Frag) (tl:TE):TI:=fun σ H R=>tl σ H fun x H1=>∃ a,x=.ref a∧(∃ xs,SqL K H1 a xs)∧R (Itl K a) H1
noncomputable def xT (K:PySem.W.Frag) (tl:TE):TI:=fun σ H R=>tl σ H fun x H1=>∃ a,x=.ref a∧(∃ xs,SqT K H1 a xs)∧R (Itt K a) H1
theorem uu {l:Expr} {tl:TE} (hl:PE X l tl):PI X tg l (pA X.K tl):=by
 intro pins s σ H R I h
 refine thn (hl pins s σ H _ I h) fun v s1 ⟨x,H1,I1,r1,q1⟩=>?_
 obtain ⟨a,e,⟨xs,hq⟩,q⟩:=q1
 subst e
 cases r1
 obtain ⟨its,rv,p,hz⟩:=I1.list hq
 refine wpAny_pyIter_list p.isList ?_
 refine ⟨s1.heap.objs.size,[s1.heap.objs.size],_,_,H1,rfl,I1.kept (t':=s1.toks) fun b o e=>Heap.get?_push_of_some _ e,v7 a _,⟨_,Heap.get?_push_size _ rfl,rfl,rfl⟩,fun b hb=>?_,q⟩
 have e:b=s1.heap.objs.size:=by simpa using hb
 subst e
 exact I1.v5 (Nat.le_refl _) (I1.hok.fresh (Nat.le_refl _))
theorem xU {l:Expr} {tl:TE} (hl:PE X l tl):PI X tg l (xT X.K tl):=by
 intro pins s σ H R I h
 refine thn (hl pins s σ H _ I h) fun v s1 ⟨x,H1,I1,r1,q1⟩=>?_
 obtain ⟨a,e,⟨xs,hq⟩,q⟩:=q1
 subst e
 cases r1
 obtain ⟨its,rv,p,hz⟩:=I1.tuple hq
 refine wpAny_pyIter_tuple (show s1.heap.IsTuple a its.toArray from p) ?_
 refine ⟨s1.heap.objs.size,[s1.heap.objs.size],_,_,H1,rfl,I1.kept (t':=s1.toks) fun b o e=>Heap.get?_push_of_some _ e,rU a _,⟨_,Heap.get?_push_size _ rfl,rfl,rfl⟩,fun b hb=>?_,q⟩
 have e:b=s1.heap.objs.size:=by simpa using hb
 subst e
 exact I1.v5 (Nat.le_refl _) (I1.hok.fresh (Nat.le_refl _))
theorem pB {pins:List (Addr×Obj)} {σ:St} {H:Hp} {s:Shared} {R:It→Hp→Prop} {E:Value→Shared→Prop} {lo hi:Int} {t u v:Tok} {tk:Nat} (I:Inv X pins σ H s) (h1:-(2 ^ 62)≤lo) (h2:lo<2 ^ 62) (h3:-(2 ^ 62)≤hi) (h4:hi<2 ^ 62)
  (q:R (Itr lo (hi-lo).toNat) H):wpAny (model X.prog X.w) X.A (pyIter (.ref s.heap.objs.size)) (PIE X pins σ tg R) E { s with heap:=s.heap.push { cls:=.type "range",data:=.fields #[.int lo t,.int hi u,.int 1 v] },toks:=tk }:=by
 refine wpAny_pyIter_range (IsRange.new ..) (small_one h1 h2 h3 h4) ?_
 have I1:Inv X pins σ H { s with heap:=s.heap.push { cls:=.type "range",data:=.fields #[.int lo t,.int hi u,.int 1 v] },toks:=tk }:=I.kept fun b o e=>Heap.get?_push_of_some _ e
 refine ⟨(s.heap.push { cls:=.type "range",data:=.fields #[.int lo t,.int hi u,.int 1 v] }).objs.size,[(s.heap.push { cls:=.type "range",data:=.fields #[.int lo t,.int hi u,.int 1 v] }).objs.size],_,_,H,rfl,
  I1.kept (t':=tk) fun b o e=>Heap.get?_push_of_some _ e,rV _ lo (hi-lo).toNat,?_,fun b hb=>?_,q⟩
 ·have e1:lo+((0:Nat):Int)*1=lo:=by simp
  have e2:(((hi-lo).toNat:Nat):Int)-((0:Nat):Int)=Builtin.Range.rangeSize lo hi 1:=by rw [rangeSize_one];split<;>omega
  show IsRangeIter _ _ (lo+((0:Nat):Int)*1) ((((hi-lo).toNat:Nat):Int)-((0:Nat):Int)) 1
  rw [e1,e2]
  exact Heap.get?_push_size _ rfl
 ·have e:b=(s.heap.push { cls:=.type "range",data:=.fields #[.int lo t,.int hi u,.int 1 v] }).objs.size:=by simpa using hb
  subst e
  exact I1.v5 (Nat.le_refl _) (I1.hok.fresh (Nat.le_refl _))
noncomputable def DG (ta:TA):TI:=fun σ H R=>ta σ H fun vs H1=>∃ j:Int,vs=[.int j]∧-(2 ^ 62)≤j∧j<2 ^ 62∧R (Itr 0 j.toNat) H1
noncomputable def DH (ta:TA):TI:=fun σ H R=>ta σ H fun vs H1=>∃ i j:Int,vs=[.int i,.int j]∧(-(2 ^ 62)≤i∧i<2 ^ 62∧-(2 ^ 62)≤j∧j<2 ^ 62)∧R (Itr i (j-i).toNat) H1
theorem v8 {a:Expr} {ta:TA} {p pos:Pos} (hg:Gl X "range") (hm:X.mg "range" = none) (ha:PA X [a] ta) (hs:starEach [a] X.env=[(false,eval a X.env)]:=by rfl):PI X tg (.Call (.Name "range" p) [a] [] pos) (DG ta):=by
 intro pins s σ H R I h
 refine Call_ (cB I hg hm boot_range (PyProof.Rows.callWith_type1 (thn (ha pos pins s σ H _ I h) fun us s1 ⟨vs,H1,I1,r1,q1⟩=>?_) hs rfl))
 obtain ⟨j,e,q1,q2,q⟩:=q1
 subst e
 cases r1 with
 | cons r rr=>
  cases rr
  obtain ⟨t,rfl⟩:=r
  exact call_range_1 (pB I1 (by omega) (by omega) q1 q2 (by simpa using q))
theorem v9 {a b:Expr} {ta:TA} {p pos:Pos} (hg:Gl X "range") (hm:X.mg "range" = none) (ha:PA X [a,b] ta) (hs:starEach [a,b] X.env=[(false,eval a X.env),(false,eval b X.env)]:=by rfl) (hs2:starEach [b] X.env=[(false,eval b X.env)]:=by rfl) :
  PI X tg (.Call (.Name "range" p) [a,b] [] pos) (DH ta):=by
 intro pins s σ H R I h
 refine Call_ (cB I hg hm boot_range (PyProof.Rows.callWith_type1 (thn (ha pos pins s σ H _ I h) fun us s1 ⟨vs,H1,I1,r1,q1⟩=>?_) (by rw [hs,hs2]) (by rw [hs2];rfl)))
 obtain ⟨i,j,e,⟨q1,q2,q3,q4⟩,q⟩:=q1
 subst e
 cases r1 with
 | cons r rr=>
  cases rr with
  | cons r' rr=>
   cases rr
   obtain ⟨t,rfl⟩:=r
   obtain ⟨t',rfl⟩:=r'
   exact call_range_2 (pB I1 q1 q2 q3 q4 q)
noncomputable def Fi (wi:TI) (g:TG) (tb:TS):TS:=fun D σ H=>wi σ H fun J H1=>∃ W:Nat→Nat→St→Hp→Prop,(∃ m,W 0 m σ H1)∧∀ i m σ H,W i m σ H →
 (J.stop i H∧D.nx σ H)∨(J.go i H∧∃ N:St→Hp→Prop,(∀ σ' H',N σ' H'→∃ m',m'<m∧W (i+1) m' σ' H')∧∀ x H',J.yld i H x H'→g x σ H' fun σ2 H2=>tb { D with nx:=N,ct:=N,bk:=D.nx } σ2 H2)
noncomputable def jQ (fp:List Addr) (h:Heap):List (Addr×Obj):=fp.filterMap fun b=>(h.get? b).map fun o=>(b,o)
theorem dj {fp:List Addr} {h:Heap} {b:Addr} {o:Obj} (hb:b∈fp) (e:h.get? b=some o):(b,o)∈jQ fp h:=List.mem_filterMap.mpr ⟨b,hb,by rw [e];rfl⟩
theorem v_ {fp:List Addr} {h:Heap} {p:Addr×Obj} (hp:p∈jQ fp h):p.1∈fp∧h.get? p.1=some p.2:=by
 obtain ⟨b,hb,e⟩:=List.mem_filterMap.mp hp
 cases q:h.get? b with
 | none=>rw [q] at e;cases e
 | some o=>
  rw [q] at e
  have e':(b,o)=p:=Option.some.inj e
  subst e'
  exact ⟨hb,q⟩
theorem Inv.pinned {pins:List (Addr×Obj)} {σ:St} {H:Hp} {s:Shared} {fp:List Addr} (I:Inv X pins σ H s) (hf:∀ b∈fp,mE X pins H b) (ho:∀ b∈fp,∃ o,s.heap.get? b=some o∧∀ v,o.data≠.cell v):Inv X (pins++jQ fp s.heap) σ H s:=
 I.uf fun p hp=>(List.mem_append.mp hp).elim (fun z=>I.pin p (List.mem_append_right _ z)) fun z=>by
  obtain ⟨hb,e⟩:=v_ z
  obtain ⟨f0,f1,f2,_⟩:=hf p.1 hb
  obtain ⟨o,e',d⟩:=ho p.1 hb
  rw [e] at e';cases e'
  exact ⟨e,f0,f1,f2,d⟩
theorem Inv.gQ {pins pl:List (Addr×Obj)} {σ:St} {H:Hp} {s:Shared} (I:Inv X (pins++pl) σ H s):Inv X pins σ H s:=I.uf fun p hp=>I.pin p (List.mem_append_right _ (List.mem_append_left _ hp))
theorem xV {iter:Expr} {body:List Stmt} {wi:TI} {g:TG} {tb:TS} {pos:Pos} (hp:PassesOwn (model X.prog X.w) X.A X.env X.xe) (hc:X.calm=true) (hi:PI X tg iter wi) (hg:PG X tg g) (hb:PSs X body tb)
  (hs:∀ x,foldedSetIterable iter X.env x=pure x:=by intro _;rfl):PS X (.For tg iter body [] pos) (Fi wi g tb):=by
 intro pins s σ H D I h
 refine wpAny_For (thn (hi pins s σ H _ I h) fun v s1 h1=>thn h1 fun itv s2 h2=>?_) hs
 obtain ⟨it,fp,tn,J,H2,e,I2,T,st2,f2,W,⟨m0,w0⟩,turn⟩:=h2
 subst e
 have stat:∀ {H':Hp},(∀ b∈fp,H' b=none)→∀ b∈fp,mE X pins H' b:=fun hn b hb=>⟨hn b hb,(f2 b hb).2⟩
 refine codeAny_forLoop_any (fun n s'=>∃ i σ' H',Inv X pins σ' H' s'∧tn i s'.heap∧(∀ b∈fp,H' b=none)∧W i n σ' H') ?_ m0 ⟨0,σ,H2,I2,st2,fun b hb=>(f2 b hb).1,w0⟩
 rintro n s3 ⟨i,σ3,H3,I3,st3,fr3,w3⟩
 rcases turn i n σ3 H3 w3 with ⟨stop,qn⟩ | ⟨go,N,hN,step⟩
 ·refine wpAny_passesOwn hp (thn (T.done X rfl rfl rfl hc i pins s3 σ3 H3 X.xe I3 (stat fr3) st3 stop) fun r s4 ⟨hr,I4⟩=>?_)
  subst hr
  exact wpAny_execs_nil ⟨σ3,H3,I4,qn⟩
 ·refine wpAny_passesOwn hp (thn (T.item X rfl rfl rfl hc i pins s3 σ3 H3 X.xe I3 (stat fr3) st3 go) fun r s4 ⟨u,hr,h4⟩=>?_)
  subst hr
  refine wpAny_passesOwn hp (thn h4 fun _ s5 ⟨x,H5,I5,r5,y5,st5,fr5⟩=>?_)
  have I5':=I5.pinned (stat fr5) (T.obj _ _ st5)
  refine wpAny_passesOwn hp (thn (hg _ s5 σ3 H5 x u _ I5' r5 (step x H5 y5)) fun _ s6 ⟨σ6,H6,I6,q6⟩=>?_)
  refine wpAny_passesOwn hp (thn (hb _ s6 σ6 H6 _ I6 q6) fun f s7 q7=>?_)
  have again:∀ {σ7:St} {H7:Hp},Inv X (pins++jQ fp s5.heap) σ7 H7 s7→N σ7 H7→∃ m,m<n∧∃ i σ' H',Inv X pins σ' H' s7∧tn i s7.heap∧(∀ b∈fp,H' b=none)∧W i m σ' H':=fun {σ7 H7} I7 n7=>by
   obtain ⟨m',hm,w7⟩:=hN σ7 H7 n7
   refine ⟨m',hm,i+1,σ7,H7,I7.gQ,T.keep _ _ _ st5 fun b hb o e=>(I7.pin (b,o) (List.mem_append_right _ (List.mem_append_right _ (dj hb e)))).1,fun b hb=>?_,w7⟩
   obtain ⟨o,e,d⟩:=T.obj _ _ st5 b hb
   exact (I7.pin (b,o) (List.mem_append_right _ (List.mem_append_right _ (dj hb e)))).2.1
  cases f with
  | next=>obtain ⟨σ7,H7,I7,n7⟩:=q7;exact again I7 n7
  | cont=>obtain ⟨σ7,H7,I7,n7⟩:=q7;exact again I7 n7
  | brk=>obtain ⟨σ7,H7,I7,q7⟩:=q7;exact ⟨σ7,H7,I7.gQ,q7⟩
  | ret v=>obtain ⟨x7,σ7,H7,I7,r7,q7⟩:=q7;exact ⟨x7,σ7,H7,I7.gQ,r7,q7⟩
end
noncomputable abbrev R2:=V→V→Hp→VK→Prop
noncomputable def OpR (X:Cx) (f:Value→Value→Sem Value) (r:R2):Prop:=
 ∀ (pins:List (Addr×Obj)) (s:Shared) (σ:St) (H:Hp) (x y:V) (v u:Value) (Q:VK),Inv X pins σ H s→RelV x v→RelV y u→r x y H Q →
  wpAny (model X.prog X.w) X.A (f v u) (EP X pins σ Q) X.xe s
noncomputable def cM (X:Cx) (f:Value) (r:List V→Hp→VK→Prop):Prop:=
 ∀ (pins:List (Addr×Obj)) (s:Shared) (σ:St) (H:Hp) (xs:List V) (us:List Value) (Q:VK),Inv X pins σ H s→Vals xs us→r xs H Q →
  wpAny (model X.prog X.w) X.A (call f us) (EP X pins σ Q) X.xe s
noncomputable def Ly (X:Cx) (r:V→Hp→(Bool→Hp→Prop)→Prop):Prop:=
 ∀ (pins:List (Addr×Obj)) (s:Shared) (σ:St) (H:Hp) (x:V) (v:Value) (Q:Bool→Hp→Prop),Inv X pins σ H s→RelV x v→r x H Q →
  wpAny (model X.prog X.w) X.A (truthy v) (TP X pins σ Q) X.xe s
noncomputable def tOp (r:R2) (ta tb:TE):TE:=fun σ H Q=>ta σ H fun x H1=>tb σ H1 fun y H2=>r x y H2 Q
noncomputable def tUn (r:V→Hp→VK→Prop) (ta:TE):TE:=fun σ H Q=>ta σ H fun x H1=>r x H1 Q
noncomputable def rI (C:Int→Int→Prop) (g:Int→Int→V):R2:=fun x y H Q=>∃ i j,x=.int i∧y=.int j∧C i j∧Q (g i j) H
noncomputable def rI0 (g:Int→Int→V):R2:=fun x y H Q=>∃ i j,x=.int i∧y=.int j∧Q (g i j) H
section
variable {X:Cx} {a b c:Expr} {ta tb tc:TE} {pos:Pos}
theorem Fj (ha:PE X a ta) (hb:PE X b tb) {pins:List (Addr×Obj)} {s:Shared} {σ:St} {H:Hp} {R:V→V→Hp→Prop} (I:Inv X pins σ H s)
  (h:ta σ H fun x H1=>tb σ H1 fun y H2=>R x y H2) {Q:Value→Shared→Prop} {f:Value→Value→Sem Value}
  (hf:∀ v u s2 x y H2,Inv X pins σ H2 s2→RelV x v→RelV y u→R x y H2→wpAny (model X.prog X.w) X.A (f v u) Q X.xe s2) :
  wpAny (model X.prog X.w) X.A (eval a X.env) (fun v s₁=>wpAny (model X.prog X.w) X.A (eval b X.env) (fun u s₂=>wpAny (model X.prog X.w) X.A (f v u) Q X.xe s₂) X.xe s₁) X.xe s:=by
 refine thn (ha pins s σ H _ I h) fun v s1 ⟨x,H1,I1,r1,q1⟩=>?_
 refine thn (hb pins s1 σ H1 _ I1 q1) fun u s2 ⟨y,H2,I2,r2,q2⟩=>?_
 exact hf v u s2 x y H2 I2 r1 r2 q2
theorem Jc {op:Operator} {r:R2} (ho:OpR X (binaryOp op) r) (ha:PE X a ta) (hb:PE X b tb):PE X (.BinOp a op b pos) (tOp r ta tb):=by
 intro pins s σ H Q I h
 exact wpAny_BinOp (Fj ha hb I h fun v u s2 x y H2 I2 rx ry q=>ho pins s2 σ H2 x y v u Q I2 rx ry q)
theorem opI {f:Value→Value→Sem Value} {C:Int→Int→Prop} {g:Int→Int→Int}
  (rule:∀ (i j:Int) (t u:Tok) (s:Shared) (Q:Value→Shared→Prop) (E:Value→Shared→Prop),C i j→Q (.int (g i j) s.toks) { s with toks:=s.toks+1 }→wpAny (model X.prog X.w) X.A (f (.int i t) (.int j u)) Q E s) :
  OpR X f (rI C fun i j=>.int (g i j)):=by
 intro pins s σ H x y v u Q I rx ry h
 obtain ⟨i,j,rfl,rfl,hc,q⟩:=h
 obtain ⟨t,rfl⟩:=rx
 obtain ⟨t',rfl⟩:=ry
 exact rule i j t t' s _ _ hc ⟨.int (g i j),H,I.tok _,⟨_,rfl⟩,q⟩
theorem Fo {f:Value→Value→Sem Value} {g:Int→Int→Int}
  (rule:∀ (i j:Int) (t u:Tok) (s:Shared) (Q:Value→Shared→Prop) (E:Value→Shared→Prop),Q (.int (g i j) s.toks) { s with toks:=s.toks+1 }→wpAny (model X.prog X.w) X.A (f (.int i t) (.int j u)) Q E s) :
  OpR X f (rI0 fun i j=>.int (g i j)):=by
 intro pins s σ H x y v u Q I rx ry h
 obtain ⟨i,j,rfl,rfl,q⟩:=h
 obtain ⟨t,rfl⟩:=rx
 obtain ⟨t',rfl⟩:=ry
 exact rule i j t t' s _ _ ⟨.int (g i j),H,I.tok _,⟨_,rfl⟩,q⟩
theorem BH {f:Value→Value→Sem Value} {g:Int→Int→Bool}
  (rule:∀ (i j:Int) (t u:Tok) (s:Shared) (Q:Value→Shared→Prop) (E:Value→Shared→Prop),Q (.bool (g i j)) s→wpAny (model X.prog X.w) X.A (f (.int i t) (.int j u)) Q E s) :
  OpR X f (rI0 fun i j=>.bl (g i j)):=by
 intro pins s σ H x y v u Q I rx ry h
 obtain ⟨i,j,rfl,rfl,q⟩:=h
 obtain ⟨t,rfl⟩:=rx
 obtain ⟨t',rfl⟩:=ry
 exact rule i j t t' s _ _ ⟨.bl (g i j),H,I,rfl,q⟩
noncomputable def BI (i j:Int):Prop:=0≤j∧j≤1000000∧i.natAbs<2 ^ 64
noncomputable def xW (i j:Int):Prop:=(-(2 ^ 64)<i∧i<2 ^ 64)∨(-(2 ^ 64)<j∧j<2 ^ 64)
theorem xW.ok {i j:Int} (h:xW i j):IntMulOk i j:=by
 rcases h with ⟨h1,h2⟩ | ⟨h1,h2⟩
 ·exact .of_left (intBits_le_64 h1 h2)
 ·exact .of_right (intBits_le_64 h1 h2)
theorem two_pow_nn (k:Nat):(0:Int)≤2 ^ k:=by
 rw [two_pow_cast]
 exact Int.natCast_nonneg _
theorem Fq:OpR X (binaryOp .Add) (rI0 fun i j=>.int (i+j)):=Fo fun _ _ _ _ _ _ _ q=>add_int q
theorem Ft:OpR X (binaryOp .Sub) (rI0 fun i j=>.int (i-j)):=Fo fun _ _ _ _ _ _ _ q=>sub_int q
theorem Fv:OpR X (binaryOp .Mult) (rI xW fun i j=>.int (i*j)):=opI fun _ _ _ _ _ _ _ hc q=>mul_int q hc.ok
theorem Fw:OpR X (binaryOp .Mod) (rI (fun _ j=>0<j) fun i j=>.int (i % j)):=opI fun i j _ _ _ _ _ hc q=>by
 have h1:(0:Int)<j:=hc
 exact mod_int' (by omega) (by rw [Int.fmod_eq_emod_of_nonneg i (by omega)];exact q)
theorem Fx:OpR X (binaryOp .Pow) (rI BI fun i j=>.int (i ^ j.toNat)):=opI fun _ _ _ _ _ _ _ hc q=>pow_int_small hc.1 hc.2.1 hc.2.2 q
theorem Fy:OpR X (binaryOp .LShift) (rI BI fun i j=>.int (i*2 ^ j.toNat)):=opI fun _ _ _ _ _ _ _ hc q=>lshift_int_small hc.1 hc.2.1 hc.2.2 q
theorem Fz:OpR X (binaryOp .RShift) (rI (fun _ j=>0≤j) fun i j=>.int (i / 2 ^ j.toNat)):=opI fun i j _ _ _ _ _ hc q=>
 rshift_int hc (by rw [Int.fdiv_eq_ediv_of_nonneg i (two_pow_nn _)];exact q)
theorem FA:OpR X (binaryOp .BitAnd) (rI0 fun i j=>.int (Builtin.bitAnd i j)):=Fo fun _ _ _ _ _ _ _ q=>and_int q
end
section
variable {X:Cx} {a b c:Expr} {ta tb tc:TE} {pos:Pos}
theorem DJ:OpR X (compareOp .Lt) (rI0 fun i j=>.bl (decide (i<j))):=BH fun _ _ _ _ _ _ _ q=>lt_int q
theorem xX:OpR X (compareOp .LtE) (rI0 fun i j=>.bl (decide (i≤j))):=BH fun _ _ _ _ _ _ _ q=>le_int q
theorem Jd:OpR X (compareOp .Gt) (rI0 fun i j=>.bl (decide (j<i))):=BH fun _ _ _ _ _ _ _ q=>gt_int q
theorem Je:OpR X (compareOp .GtE) (rI0 fun i j=>.bl (decide (j≤i))):=BH fun _ _ _ _ _ _ _ q=>ge_int q
theorem OpR.or {f:Value→Value→Sem Value} {r r':R2} (h:OpR X f r) (h':OpR X f r'):OpR X f (fun x y H Q=>r x y H Q∨r' x y H Q):=by
 intro pins s σ H x y v u Q I rx ry q
 rcases q with q | q
 ·exact h pins s σ H x y v u Q I rx ry q
 ·exact h' pins s σ H x y v u Q I rx ry q
theorem cC (b:Expr) {op:CmpOp} (h:op≠.In:=by decide) (h2:op≠.NotIn:=by decide):behindInMarks op b=false:=by
 have e1:(op == CmpOp.In)=false:=by cases op<;>first | rfl | exact absurd rfl h
 have e2:(op == CmpOp.NotIn)=false:=by cases op<;>first | rfl | exact absurd rfl h2
 cases b<;>simp [behindInMarks,e1,e2]
theorem BJ {op:CmpOp} {r:R2} (ho:OpR X (compareOp op) r) (ha:PE X a ta) (hb:PE X b tb) (hm:behindInMarks op b=false):PE X (.Compare a [op] [b] pos) (tOp r ta tb):=by
 intro pins s σ H Q I h
 exact wpAny_Compare1 (Fj ha hb I h fun v u s2 x y H2 I2 rx ry q=>ho pins s2 σ H2 x y v u Q I2 rx ry q) hm
noncomputable def DK (t:TE):TT:=fun σ H Q=>t σ H fun x H'=>∃ k,x=.bl k∧Q k H'
theorem BK {op:CmpOp} {r:R2} (ho:OpR X (compareOp op) r) (ha:PE X a ta) (hb:PE X b tb) (hm:behindInMarks op b=false):PT X (.Compare a [op] [b] pos) (DK (tOp r ta tb)):=by
 intro pins s σ H Q I h
 refine wpAny_isTrue_Compare1 (thn (ha pins s σ H _ I h) fun v s1 ⟨x,H1,I1,r1,q1⟩=>thn (hb pins s1 σ H1 _ I1 q1) fun u s2 ⟨y,H2,I2,r2,q2⟩=>
  thn (ho pins s2 σ H2 x y v u _ I2 r1 r2 q2) fun c s3 ⟨z,H3,I3,r3,k,e,q3⟩=>?_) hm
 subst e
 cases r3
 exact wpAny_truthy_bool ⟨H3,I3,q3⟩
noncomputable def xY (r r':R2) (ta tb tc:TE):TE:=fun σ H Q=>ta σ H fun x H1=>tb σ H1 fun y H2=>r x y H2 fun z H3=>∃ k,z=.bl k ∧
 (if k=true then tc σ H3 fun w' H4=>r' y w' H4 Q else Q (.bl false) H3)
theorem xZ {op op':CmpOp} {r r':R2} (ho:OpR X (compareOp op) r) (ho':OpR X (compareOp op') r') (ha:PE X a ta) (hb:PE X b tb) (hc:PE X c tc)
  (hm:lastMarks [op,op'] [b,c]=false:=by with_unfolding_all rfl):PE X (.Compare a [op,op'] [b,c] pos) (xY r r' ta tb tc):=by
 intro pins s σ H Q I h
 refine Compare_chain (thn (ha pins s σ H _ I h) fun v s1 ⟨x,H1,I1,r1,q1⟩=>chain_link (thn (hb pins s1 σ H1 _ I1 q1) fun u s2 ⟨y,H2,I2,r2,q2⟩=>
  thn (ho pins s2 σ H2 x y v u _ I2 r1 r2 q2) fun d s3 ⟨z,H3,I3,r3,k,e,q3⟩=>?_)) hm
 subst e
 cases r3
 refine wpAny_truthy_bool ?_
 cases k with
 | false=>exact ite_ff ⟨.bl false,H3,I3,rfl,q3⟩
 | true=>exact ite_tt (chain_last (thn (hc pins s3 σ H3 _ I3 q3) fun w' s4 ⟨z',H4,I4,r4,q4⟩=>ho' pins s4 σ H4 y z' u w' Q I4 r2 r4 q4))
noncomputable def FD (K:PySem.W.Frag) (x:V) (H:Hp) (k:Bool):Prop:=
 match x with
 | .non=>k=false
 | .bl b=>k=b
 | .int i=>k=(i != 0)
 | .str y=>y.length≤sizeLine∧k=((y.length:Int) != 0)
 | .byt y=>y.size≤sizeLine∧k=((y.size:Int) != 0)
 | .ref p=>(∃ xs,SqL K H p xs∧k=!xs.isEmpty)∨(∃ xs,SqT K H p xs∧k=!xs.isEmpty)∨∃ kvs,H p=some (.dK kvs)∧k=!kvs.isEmpty
 | _=>False
theorem rW {κ:Type} {kvs:List (κ×V)} {vs:List (κ×Value)} (r:KV kvs vs):(!vs.isEmpty)=!kvs.isEmpty:=by
 cases r<;>rfl
theorem jR {xs:List V} {its:List Value} (r:Vals xs its):(!its.toArray.isEmpty)=!xs.isEmpty:=by
 cases r<;>simp
theorem jS:(sizeLine:Nat)<2 ^ 63:=by rw [sizeLine_eq];decide
theorem FF:Ly X (fun x H Q=>∃ k,FD X.K x H k∧Q k H):=by
 intro pins s σ H x v Q I rx h
 obtain ⟨k,e,q⟩:=h
 have hl:=jS
 have hs:sizeLine=16777216:=sizeLine_eq
 cases x with
 | non=>
  cases rx
  have e':k=false:=e
  subst e'
  exact truthy_none ⟨H,I,q⟩
 | bl b=>
  cases rx
  have e':k=b:=e
  subst e'
  exact wpAny_truthy_bool ⟨H,I,q⟩
 | int i=>
  obtain ⟨t,rfl⟩:=rx
  have e':k=(i != 0):=e
  subst e'
  exact PySem.P.truthy_int ⟨H,I,q⟩
 | str y=>
  obtain ⟨t,rfl⟩:=rx
  obtain ⟨hy,e'⟩:y.length≤sizeLine∧k=((y.length:Int) != 0):=e
  subst e'
  exact PySem.P.truthy_str (by omega) ⟨H,I.tok _,q⟩
 | byt y=>
  obtain ⟨t,rfl⟩:=rx
  obtain ⟨hy,e'⟩:y.size≤sizeLine∧k=((y.size:Int) != 0):=e
  subst e'
  exact PySem.W.truthy_bytes (by omega) ⟨H,I.tok _,q⟩
 | ref p=>
  cases rx
  have e':(∃ xs,SqL X.K H p xs∧k=!xs.isEmpty)∨(∃ xs,SqT X.K H p xs∧k=!xs.isEmpty)∨∃ kvs,H p=some (.dK kvs)∧k=!kvs.isEmpty:=e
  rcases e' with ⟨xs,hx,e'⟩ | ⟨xs,hx,e'⟩ | ⟨kvs,hx,e'⟩
  ·subst e'
   obtain ⟨its,r,pl,hz⟩:=I.list hx
   have hlen:=r.length
   exact wpAny_truthy_list pl.isList (by simp only [List.size_toArray];omega) ⟨H,I.tok _,by rw [jR r];exact q⟩
  ·subst e'
   obtain ⟨its,r,pl,hz⟩:=I.tuple hx
   have hlen:=r.length
   exact truthy_tuple pl (by simp only [List.size_toArray];omega) ⟨H,I.tok _,by rw [jR r];exact q⟩
  ·subst e'
   obtain ⟨hz,hS,vs,r,m⟩:kvs.length≤sizeLine∧(p == sysModules)=false∧∃ vs,KV kvs vs∧s.heap.DictOf (aT X.prog X.w) p vs:=I.hok p _ hx
   have hlen:kvs.length=vs.length:=Paired.length r
   exact wpAny_truthy_dict hS m (by omega) ⟨H,I.tok _,by rw [rW r];exact q⟩
 | _=>exact (show False from e).elim
theorem x6 (ha:PE X a ta) (he:∀ whole,isTrue a X.env whole=(do let v ← whole;standAt a.pos;holding [v] (truthy v))) :
  PT X a (fun σ H Q=>ta σ H fun x H'=>∃ k,FD X.K x H' k∧Q k H'):=by
 intro pins s σ H Q I h
 exact isTrue_plain (thn (ha pins s σ H _ I h) fun v s1 ⟨x,H1,I1,r1,q1⟩=>FF pins s1 σ H1 x v Q I1 r1 q1) (he _)
theorem vals1 {x:V} {us:List Value} (r:Vals [x] us):∃ u,us=[u]∧RelV x u:=by
 cases r with
 | cons r1 r2=>cases r2;exact ⟨_,rfl,r1⟩
theorem vals2 {x y:V} {us:List Value} (r:Vals [x,y] us):∃ u w',us=[u,w']∧RelV x u∧RelV y w':=by
 cases r with
 | cons r1 r2=>
  cases r2 with
  | cons r3 r4=>cases r4;exact ⟨_,_,rfl,r1,r3⟩
theorem wc (hc:X.calm=true):cM X (.builtin "max") (fun xs H Q=>∃ i j,xs=[.int i,.int j]∧Q (.int (if j>i then j else i)) H):=by
 intro pins s σ H xs us Q I r h
 obtain ⟨i,j,rfl,q⟩:=h
 obtain ⟨u,w',rfl,⟨t,rfl⟩,⟨t',rfl⟩⟩:=vals2 r
 refine max_two_ints (I.ok.hd hc) fun h' tk k=>⟨_,H,I.kept k,?_,q⟩
 by_cases hj:j>i
 ·rw [if_pos hj,if_pos hj];exact ⟨_,rfl⟩
 ·rw [if_neg hj,if_neg hj];exact ⟨_,rfl⟩
theorem we (hc:X.calm=true):cM X (.builtin "min") (fun xs H Q=>∃ i j,xs=[.int i,.int j]∧Q (.int (if j<i then j else i)) H):=by
 intro pins s σ H xs us Q I r h
 obtain ⟨i,j,rfl,q⟩:=h
 obtain ⟨u,w',rfl,⟨t,rfl⟩,⟨t',rfl⟩⟩:=vals2 r
 refine min_two_ints (I.ok.hd hc) fun h' tk k=>⟨_,H,I.kept k,?_,q⟩
 by_cases hj:j<i
 ·rw [if_pos hj,if_pos hj];exact ⟨_,rfl⟩
 ·rw [if_neg hj,if_neg hj];exact ⟨_,rfl⟩
end
structure FG (h:Heap) (x dx C:Addr) (mA:Str→Option Value):Prop where
 obj:h.get? x=some (PySem.W.instObj C dx)
 ns:h.Ns1 dx mA
 ne:dx≠x
theorem wg {h:Heap} {dx:Addr} {mA:Str→Option Value} (n:h.Ns1 dx mA):∃ od,h.get? dx=some od∧∀ name,PySem.W.lookIn name od=some (mA name):=by
 obtain ⟨o,es,ep,ho,hd,hk,_,hm⟩:=n
 refine ⟨o,ho,fun name=>?_⟩
 have e:=hm name
 unfold nsFind findBy at e
 rw [← Array.find?_toList] at e
 unfold PySem.W.lookIn
 rw [hd]
 dsimp only
 split
 ·rename_i y q
  rw [q] at e
  exact congrArg some e
 ·rename_i q
  rw [q] at e
  have a:es.toList.any (·.refKey)=false:=by
   rw [List.any_eq_false]
   intro y hy
   obtain ⟨z,t,hkey⟩:=hk y (Array.mem_toList_iff.mp hy)
   simp [DictEntry.refKey,hkey]
  have a':¬ es.toList.any (·.refKey)=true:=by rw [a];exact Bool.false_ne_true
  rw [if_neg a']
  exact congrArg some e
theorem FG.look {h:Heap} {x dx C:Addr} {mA:Str→Option Value} (I:FG h x dx C mA):∃ od,PySem.W.InstAt h x (PySem.W.instObj C dx) C (some od)∧∀ name,PySem.W.lookIn name od=some (mA name):=
 let ⟨od,ho,hl⟩:=wg I.ns
 ⟨od,⟨I.obj,rfl,rfl,ho⟩,hl⟩
section
variable {prog:Program} {w:World} {A:Around} {E:Value→Shared→Prop} {s:Shared} {K:PySem.W.Frag} {x dx C f:Addr} {mA:Str→Option Value} {name:Str} {v:Value}
end
theorem gM.some_of {v:V} {o:Option Value} (r:gM (some v) o):∃ u,o=some u∧RelV v u:=by
 cases o with
 | none=>exact (show False from r).elim
 | some u=>exact ⟨u,rfl,r⟩
section
variable {P:Program} {w:World} {H H':Hp} {h h':Heap} {a C dx:Addr} {fs fs':List (Str×V)}
theorem BL (hok:HOk P w H h) (e:H a=some (.ins C dx fs)):∃ mA,FG h a dx C mA∧(∀ f,gM (fs.lookup f) (mA f))∧PySem.Within mA (fs.map (·.1))∧fs.length≤1000∧H dx=some (.own a):=by
 obtain ⟨d,z,ne,ob,mA,n,r,q⟩:=(show aY P w H h a (.ins C dx fs) from hok a _ e)
 exact ⟨mA,⟨ob,n,ne⟩,r,q,z,d⟩
end
structure Cls (K:PySem.W.Frag) (C:Addr):Prop where
 pg:PySem.W.plainGet K C Str.empty=true
 hd:PySem.W.hasDictIn K C=true
 po:PySem.W.plainOver K C=true
 sa:PySem.W.findIn K (.ref C) "__setattr__" = some (some (.builtin "object.__setattr__"))
theorem Cls.get {K:PySem.W.Frag} {C:Addr} (c:Cls K C) (f:Str):PySem.W.plainGet K C f=true:=c.pg
section
variable {X:Cx} {pins:List (Addr×Obj)} {σ:St} {H:Hp} {s:Shared} {a C dx:Addr} {fs:List (Str×V)} {f:Str} {v:V} {A:Around} {E:Value→Shared→Prop}
end
section
variable {X:Cx} {o e value:Expr} {f:Str} {pos pos' tpos:Pos} {ta tv:TE}
end
section
variable {X:Cx} {pins:List (Addr×Obj)} {σ:St} {H:Hp} {s:Shared} {A:Around} {E:Value→Shared→Prop} {Q:Value→Shared→Prop} {c:Value} {b:Bool}
inductive gR (K:PySem.W.Frag) (H:Hp):V→Value→Prop where
 | non:gR K H .non (.type "NoneType")
 | bl (x:Bool):gR K H (.bl x) (.type "bool")
 | int (i:Int):gR K H (.int i) (.type "int")
 | str (x:Str):gR K H (.str x) (.type "str")
 | flt (x:UInt64):gR K H (.flt x) (.type "float")
 | lst {a:Addr} {xs:List V} (e:H a=some (.lst xs)):gR K H (.ref a) (.type "list")
 | frz {a:Addr} {o:Obj} {xs:List V} (e:H a=some (.frz o (.lst xs))):gR K H (.ref a) (.type "list")
 | tup {a:Addr} {xs:List V} (e:H a=some (.tup xs)):gR K H (.ref a) (.type "tuple")
 | dK {a:Addr} {kvs:List (Key×V)} (e:H a=some (.dK kvs)):gR K H (.ref a) (.type "dict")
 | dT {a:Addr} {kvs:List (List Key×V)} (e:H a=some (.dT kvs)):gR K H (.ref a) (.type "dict")
 | ins {a C dx:Addr} {fs:List (Str×V)} (e:H a=some (.ins C dx fs)) (cl:Cls K C) (ha:PySem.W.findIn K (.ref C) "__class__" = some (some (.builtin "object.__class__")))
   (hn:PySem.W.specialIn K (.builtin "object.__class__") "__get__" = some (some (.builtin "getset_descriptor.__get__"))) (htk:PySem.W.takesIn K (.builtin "object.__class__")=some true)
   (hm:PySem.W.mroIn K C (.type "object")=some true):gR K H (.ref a) (.ref C)
theorem wj {x:V} {u t:Value} (I:Inv X pins σ H s) (rx:RelV x u) (ty:gR X.K H x t) (e:PySem.W.kitOne X.K t c=some b) (h:∀ tk,Q (.bool b) { s with toks:=tk }) :
  wpAny (model X.prog X.w) A (call (.builtin "isinstance") [u,c]) Q E s:=by
 cases ty with
 | non=>cases (show u=Value.none from rx);exact PySem.W.kia_one PySem.W.kitx_none I.kIn True.intro e (fun z=>nomatch z) h
 | bl y=>cases (show u=Value.bool y from rx);exact PySem.W.kia_one PySem.W.kitx_bool I.kIn True.intro e (fun z=>nomatch z) h
 | int i=>obtain ⟨t,q⟩:=(show ∃ t,u=Value.int i t from rx);cases q;exact PySem.W.kia_one PySem.W.kitx_int I.kIn True.intro e (fun z=>nomatch z) h
 | str y=>obtain ⟨t,q⟩:=(show ∃ t,u=Value.str y t from rx);cases q;exact PySem.W.kia_one PySem.W.kitx_str I.kIn True.intro e (fun z=>nomatch z) h
 | flt y=>obtain ⟨t,q⟩:=(show ∃ t,u=Value.float y t from rx);cases q;exact PySem.W.kia_one PySem.W.kitx_float I.kIn True.intro e (fun z=>nomatch z) h
 | @lst a xs ea=>
  cases (show u=Value.ref a from rx)
  obtain ⟨_,_,n,_,h1⟩:=(show aY X.prog X.w H s.heap a (.lst xs) from I.hok a _ ea)
  exact PySem.W.kia_one PySem.W.kitx_list I.kIn ⟨_,h1,rfl⟩ e (fun z=>nomatch z) h
 | @frz a ob xs ea=>
  cases (show u=Value.ref a from rx)
  obtain ⟨_,_,_,n,_,h1⟩:=(show aY X.prog X.w H s.heap a (.frz ob (.lst xs)) from I.hok a _ ea)
  exact PySem.W.kia_one PySem.W.kitx_list I.kIn ⟨_,h1,rfl⟩ e (fun z=>nomatch z) h
 | @tup a xs ea=>
  cases (show u=Value.ref a from rx)
  obtain ⟨_,_,_,p⟩:=(show aY X.prog X.w H s.heap a (.tup xs) from I.hok a _ ea)
  obtain ⟨o,h1,h2,_⟩:=p
  exact PySem.W.kia_one PySem.W.kitx_tuple I.kIn ⟨o,h1,h2⟩ e (fun z=>nomatch z) h
 | @dK a kvs ea=>
  cases (show u=Value.ref a from rx)
  obtain ⟨_,_,vs,_,p⟩:=(show aY X.prog X.w H s.heap a (.dK kvs) from I.hok a _ ea)
  obtain ⟨o,es,ep,h1,h2,_⟩:=p
  exact PySem.W.kia_one PySem.W.kitx_dict I.kIn ⟨o,h1,h2.1⟩ e (fun z=>nomatch z) h
 | @dT a kvs ea=>
  cases (show u=Value.ref a from rx)
  obtain ⟨_,_,xs,_,o,es,ep,h1,h2,_⟩:=(show aY X.prog X.w H s.heap a (.dT kvs) from I.hok a _ ea)
  exact PySem.W.kia_one PySem.W.kitx_dict I.kIn ⟨o,h1,h2.1⟩ e (fun z=>nomatch z) h
 | @ins a C dx fs ea cl ha hn htk hm=>
  cases (show u=Value.ref a from rx)
  obtain ⟨mA,O,_⟩:=BL I.hok ea
  obtain ⟨od,J,_⟩:=O.look
  exact PySem.W.kia_one (PySem.W.kitx_own (cl.get _) cl.hd ha hn htk hm) I.kIn J e (fun z=>nomatch z) h
end
structure bf (k:Nat) (A:Around):Prop where
 hd:A.handled=none
 dp:A.depth+3*k+5<recursionLimit
 un:A.units+16*k+200<cLine
theorem bf.mono {j k:Nat} {A:Around} (r:bf k A) (h:j≤k):bf j A:=⟨r.hd,by have:=r.dp;omega,by have:=r.un;omega⟩
theorem bf.deeper {k:Nat} {A:Around} (r:bf (k+1) A) (env:Env):bf k (A.deeper env):=
 ⟨r.hd,by have:=r.dp;show A.depth+1+3*k+5<_;omega,by have:=r.un;show A.units+3+16*k+200<_;omega⟩
theorem bf.depth {k:Nat} {A:Around} (r:bf k A):A.depth<recursionLimit:=by have:=r.dp;omega
theorem bf.units {k:Nat} {A:Around} (r:bf k A):A.units+64<cLine:=by have:=r.un;omega
noncomputable def x8:TA:=fun _ H Q=>Q [] H
noncomputable def uv (ta:TE) (tr:TA):TA:=fun σ H Q=>ta σ H fun x H1=>tr σ H1 fun xs H2=>Q (x::xs) H2
section
variable {X:Cx} {e:Expr} {es:List Expr} {te:TE} {t:TA} {pos:Pos}
theorem rX:PA X [] x8:=fun _ _ _ _ H Q I h=>Calls.spliced_nil ⟨[],H,I,.nil,h⟩
theorem nK (ha:PE X e te) (hr:PA X es t) (hs:starEach (e::es) X.env=(false,eval e X.env)::starEach es X.env:=by rfl):PA X (e::es) (uv te t):=by
 intro pos pins s σ H Q I h
 rw [hs]
 show wpAny _ _ (spliced ((false,eval e X.env)::backTo pos (starEach es X.env))) _ _ s
 refine Calls.spliced_cons (thn (ha pins s σ H _ I h) fun u s1 ⟨x,H1,I1,r1,q1⟩=>?_)
 exact thn (hr pos pins s1 σ H1 _ I1 q1) fun us s2 ⟨xs,H2,I2,r2,q2⟩=>⟨x::xs,H2,I2,.cons r1 r2,q2⟩
noncomputable def Jf (t:TA):TE:=fun σ H Q=>t σ H fun xs H1=>xs.length≤sizeLine∧∀ p,H1 p=none→Q (.ref p) (upd H1 p (.tup xs))
noncomputable def BN (t:TA):TE:=fun σ H Q=>t σ H fun xs H1=>xs.length≤sizeLine∧∀ p,H1 p=none→Q (.ref p) (upd H1 p (.lst xs))
theorem FH {x1} (h:PA X es t):PE X (.Tuple es x1 pos) (Jf t):=by
 intro pins s σ H Q I hq
 refine wpAny_Tuple_spliced (thn (h pos pins s σ H _ I hq) fun us s1 ⟨xs,H1,I1,r,z,q⟩=>⟨by rw [← r.length];exact z,?_⟩)
 have hf:H1 s1.heap.objs.size=none:=I1.hok.fresh (Nat.le_refl _)
 refine ⟨.ref s1.heap.objs.size,upd H1 s1.heap.objs.size (.tup xs),I1.laid (t':=s1.toks) (fun b u e=>Heap.get?_push_of_some _ e) (Nat.le_refl _) ?_,rfl,q _ hf⟩
 exact ⟨z,us,r,⟨_,Heap.get?_push_size _ rfl,rfl,_,rfl⟩⟩
theorem x9 (h:PA X es t):PE X (.List es pos) (BN t):=by
 intro pins s σ H Q I hq
 refine wpAny_List_spliced (thn (h pos pins s σ H _ I hq) fun us s1 ⟨xs,H1,I1,r,z,q⟩=>⟨by rw [← r.length];exact z,?_⟩)
 have hf:H1 s1.heap.objs.size=none:=I1.hok.fresh (Nat.le_refl _)
 refine ⟨.ref s1.heap.objs.size,upd H1 s1.heap.objs.size (.lst xs),I1.laid (t':=s1.toks) (fun b u e=>Heap.get?_push_of_some _ e) (Nat.le_refl _) ?_,rfl,q _ hf⟩
 exact ⟨z,us,0,r,Heap.get?_push_size _ rfl⟩
end
noncomputable abbrev Sp:=List V→Hp→VK→XK→Prop
noncomputable abbrev CXT:=List Env→Hp→Shared→XK→Value→Shared→Prop
structure BO (P:Program) (w:World) (K:PySem.W.Frag) (mg:Str→Option Value) (base:Heap) (A:Around) (outer:List Env) (s:Shared) (H:Hp):Prop where
 frames:A.frames=some outer
 mod:Mod K mg base
 bs:∀ b o,base.get? b=some o→s.heap.get? b=some o∧H b=none
 bsz:base.objs.size≤s.heap.objs.size
 jP:s.heap.FunFrames base outer
 frf:∀ b∈frs outer,H b=none
 hok:HOk P w H s.heap
 bare:AllBare s.gens
noncomputable def CE (outer:List Env) (P:Program) (w:World) (H:Hp) (s:Shared) (Q:VK) (u:Value) (s':Shared):Prop:=
 ∃ v H',s'.os=s.os∧AllBare s'.gens∧Un (frs outer) [] H H' s.heap s'.heap∧HOk P w H' s'.heap∧RelV v u∧Q v H'
noncomputable def CR (CX:CXT) (outer:List Env) (P:Program) (w:World) (H:Hp) (s:Shared) (Q:VK) (E:XK) (r:Result) (s':Shared):Prop:=
 match r with
 | .ok (.ret u)=>CE outer P w H s Q u s'
 | .ok _=>False
 | .error e=>CX outer H s E e s'
structure aQ (P:Program) (w:World) (K:PySem.W.Frag) (mg:Str→Option Value) (base:Heap) (CX:CXT) (k:Nat) (f:Addr) (fd:FuncData) (ps:List Str) (sp:Sp):Prop where
 len:∀ vs H Q E,sp vs H Q E→vs.length=ps.length
 run:∀ (A:Around) (outer:List Env) (s:Shared) (H:Hp) (args:Args) (us:List Value) (vs:List V) (Q:VK) (E:XK),bf k A→BO P w K mg base A outer s H→BindsTo s fd args (ps.zip us)→Vals vs us→sp vs H Q E →
  codeAny (model P w) A (.call (.ref f) args) (CR CX outer P w H s Q E) s
section
variable {X:Cx} {pins:List (Addr×Obj)} {σ:St} {H:Hp} {s s':Shared}
theorem Inv.Lz (I:Inv X pins σ H s):BO X.prog X.w X.K X.mg X.base X.A X.stack s H:=
 ⟨I.ok.frames,I.ok.mod,I.bs,Nat.le_trans I.ok.bsz I.sz,I.stack,I.ue,I.hok,I.bare⟩
theorem Inv.after {Q:VK} {u:Value} (I:Inv X pins σ H s) (h:CE X.stack X.prog X.w H s Q u s'):EP X pins σ Q u s':=by
 obtain ⟨v,H',os,bare,un,hok,r,q⟩:=h
 obtain ⟨hh,g,d,t,os'⟩:=s'
 obtain rfl:os'=s.os:=os
 exact ⟨v,H',I.call (h':=hh) (g':=g) (d':=d) (t':=t) (ch:=[]) un hok bare (fun b z=>absurd z (by simp)),r,q⟩
end
noncomputable def jT (sp:Sp) (dvs:List V) (E:XK) (t:TA):TE:=fun σ H Q=>t σ H fun vs H1=>sp (vs++dvs) H1 Q E
noncomputable def Binds (K:PySem.W.Frag) (fd:FuncData) (ps:List Str) (ds:List Value):Prop:=
 ∀ (s:Shared) (us:List Value),K.In s.heap→(us++ds).length=ps.length→BindsTo s fd ⟨us,[]⟩ (ps.zip (us++ds))
theorem Binds.all {K:PySem.W.Frag} {fd:FuncData} {ps:List Str} (h:∀ us:List Value,us.length=ps.length→bindArgs fd ⟨us,[]⟩=pure (ps.zip us)):Binds K fd ps []:=fun s us _ hl=>by
 rw [List.append_nil] at hl ⊢
 exact .of_eq (h us hl)
noncomputable def Passes (CX:CXT) (X:Cx) (E:XK):Prop:=∀ (pins:List (Addr×Obj)) (σ:St) (H:Hp) (s:Shared) (e:Value) (s':Shared),Inv X pins σ H s→CX X.stack H s E e s'→X.xe e s'
section
variable {X:Cx} {CX:CXT} {k:Nat} {f C:Addr} {fd:FuncData} {ps:List Str} {sp:Sp} {dvs:List V} {ds:List Value} {E:XK} {x m:Str} {p pos apos:Pos} {e o:Expr} {es:List Expr} {ta:TE} {t:TA}
theorem x_ {pins:List (Addr×Obj)} {σ:St} {H:Hp} {s:Shared} {Q:VK} {us:List Value} {vs:List V} (F:aQ X.prog X.w X.K X.mg X.base CX k f fd ps sp) (hr:bf k X.A) (hb:Binds X.K fd ps ds) (hd:Vals dvs ds) (hx:Passes CX X E)
  (I:Inv X pins σ H s) (r:Vals vs us) (h:sp (vs++dvs) H Q E):wpAny (model X.prog X.w) X.A (call (.ref f) us) (EP X pins σ Q) X.xe s:=by
 have r2:Vals (vs++dvs) (us++ds):=r.append hd
 have hl:(us++ds).length=ps.length:=by rw [← r2.length];exact F.len _ _ _ _ h
 refine wpAny_call (codeAny_mono (F.run X.A X.stack s H ⟨us,[]⟩ (us++ds) (vs++dvs) Q E hr I.Lz (hb s us I.kIn hl) r2 h) fun r s' hq=>?_)
 cases r with
 | error e=>exact hx pins σ H s e s' I hq
 | ok fl=>
  cases fl with
  | ret u=>exact I.after hq
  | next=>exact False.elim hq
  | brk=>exact False.elim hq
  | cont=>exact False.elim hq
theorem jH (F:aQ X.prog X.w X.K X.mg X.base CX k f fd ps sp) (hr:bf k X.A) (hg:Gl X x) (hm:X.mg x=some (.ref f)) (hk:PySem.W.keepIn X.K (.ref f)=true) (hb:Binds X.K fd ps ds) (hd:Vals dvs ds) (hx:Passes CX X E)
  (ha:PA X (e::es) t) (hdb:(x == ("__debug__" : Str))=false:=by decide) (he:starEach (e::es) X.env=(false,eval e X.env)::starEach es X.env:=by rfl) (hpl:(backTo pos (starEach es X.env)).any (·.1)=false:=by rfl) :
  PE X (.Call (.Name x p) (e::es) [] pos) (jT sp dvs E t):=by
 intro pins s σ H Q I h
 refine wpAny_Call_Name_kw (ug I hg hm ?_ hdb)
 refine PySem.W.callWith_K (h₀:=X.base) I.ok.mod.kin hk (thn (ha pos pins s σ H _ I h) fun us s1 ⟨vs,H1,I1,r,q⟩=>⟨I1.kIn,?_⟩) he hpl
 exact x_ F hr hb hd hx I1 r q
end
section
variable {X:Cx} {CX:CXT} {k:Nat} {f C:Addr} {fd:FuncData} {ps ks:List Str} {sp:Sp} {E:XK} {x m:Str} {p pos apos kpos:Pos} {e o:Expr} {es:List Expr} {kws:List Keyword} {te ta:TE} {t tk:TA} {nm:Option Str}
variable {g:List Value→List Value→List Value} {gV:List V→List V→List V}
end
structure ao (N P:List Str) (sc:Scope):Prop where
 kind:sc.kind=.function
 co:sc.isCoroutine=false
 gen:sc.isGenerator=false
 nd:N.Nodup
 pre:N.take P.length=P
 par:∀ x∈P,sc.names.lookup x=some .local∨sc.names.lookup x=some .cell
 FJ:∀ y∈sc.names,y.2≠.free
theorem mT {kindOf:Str→Option NameKind} {x:Str}:∀ {binds:List (Str×Value)} {m:Str→Option Value},(∀ v,(x,v)∉binds)→bindL kindOf binds m x=m x
 | [],_,_=>rfl
 | (n,v)::r,m,h=>by
  unfold bindL
  rw [mT fun w hw=>h w (List.mem_cons_of_mem _ hw)]
  split
  ·have:x≠n:=by rintro rfl;exact h v List.mem_cons_self
   simp [this]
  ·rfl
theorem mU {kindOf:Str→Option NameKind} {x:Str}:∀ {binds:List (Str×Value)} {m:Str→Option Value},(∀ v,(x,v)∉binds)→bindC kindOf binds m x=m x
 | [],_,_=>rfl
 | (n,v)::r,m,h=>by
  unfold bindC
  rw [mU fun w hw=>h w (List.mem_cons_of_mem _ hw)]
  split
  ·rfl
  ·have:x≠n:=by rintro rfl;exact h v List.mem_cons_self
   simp [this]
theorem mV {kindOf:Str→Option NameKind} {x:Str} {v:Value}:∀ {P:List Str} {vs:List Value} {i:Nat} {m:Str→Option Value},P.Nodup→P[i]?=some x→vs[i]?=some v→kindOf x=some .local →
  bindL kindOf (P.zip vs) m x=some v
 | [],_,_,_,_,h,_,_=>by simp at h
 | _::_,[],_,_,_,_,h,_=>by simp at h
 | p::P,w::vs,0,m,nd,h1,h2,hk=>by
  simp at h1 h2;subst h1;subst h2
  show bindL kindOf ((p,w)::P.zip vs) m p=_
  unfold bindL
  rw [mT fun v hv=>(List.nodup_cons.mp nd).1 (List.of_mem_zip hv).1,if_pos hk]
  simp
 | p::P,w::vs,i+1,m,nd,h1,h2,hk=>by
  show bindL kindOf ((p,w)::P.zip vs) m x=_
  unfold bindL
  exact mV (i:=i) (List.nodup_cons.mp nd).2 (by simpa using h1) (by simpa using h2) hk
theorem mW {kindOf:Str→Option NameKind} {x:Str} {v:Value}:∀ {P:List Str} {vs:List Value} {i:Nat} {m:Str→Option Value},P.Nodup→P[i]?=some x→vs[i]?=some v→kindOf x≠some .local →
  bindC kindOf (P.zip vs) m x=some v
 | [],_,_,_,_,h,_,_=>by simp at h
 | _::_,[],_,_,_,_,h,_=>by simp at h
 | p::P,w::vs,0,m,nd,h1,h2,hk=>by
  simp at h1 h2;subst h1;subst h2
  show bindC kindOf ((p,w)::P.zip vs) m p=_
  unfold bindC
  rw [mU fun v hv=>(List.nodup_cons.mp nd).1 (List.of_mem_zip hv).1,if_neg hk]
  simp
 | p::P,w::vs,i+1,m,nd,h1,h2,hk=>by
  show bindC kindOf ((p,w)::P.zip vs) m x=_
  unfold bindC
  exact mW (i:=i) (List.nodup_cons.mp nd).2 (by simpa using h1) (by simpa using h2) hk
noncomputable def start (N:List Str) (vs:List V):St:=vs.map some++List.replicate (N.length-vs.length) none
noncomputable def rY (CX:CXT) (P:Program) (w:World) (K:PySem.W.Frag) (mg:Str→Option Value) (base:Heap) (N:List Str) (qual:Str) (scope:Scope) (f:Addr) (cd:Value) (A:Around) (outer:List Env) (s:Shared) (H:Hp) (E:XK):Cx where
 prog:=P
 w:=w
 K:=K
 mg:=mg
 base:=base
 A:=A.deeper (envOfC qual scope s.heap.objs.size f cd)
 N:=N
 s₀:=s
 H₀:=H
 env:=envOfC qual scope s.heap.objs.size f cd
 outer:=outer
 stack:=envOfC qual scope s.heap.objs.size f cd::outer
 ex:=[]
 calm:=true
 fn:=fun _=>true
 pn:=[]
 xe:=fun e s'=>wpAny (model P w) (A.deeper (envOfC qual scope s.heap.objs.size f cd)) (leaving (envOfC qual scope s.heap.objs.size f cd) e) (fun _ s''=>CX outer H s E e s'') (fun e' s''=>CX outer H s E e' s'') s'
theorem pC {sc:Scope} {n:Nat} {x:Str} (h:sc.names.lookup x=some .cell):∃ c,(cellsFrom n sc.names []).lookup x=some c:=by
 have q:=PySem.W.cellsFrom_some sc.names n [] (.inl h)
 exact Option.isSome_iff_exists.mp q
theorem wk {CX:CXT} {P:Program} {w:World} {K:PySem.W.Frag} {mg:Str→Option Value} {base:Heap} {N ps:List Str} {qual:Str} {scope:Scope} {f:Addr} {cd:Value} {A:Around} {outer:List Env} {s s1:Shared} {H:Hp} {E:XK} {us:List Value} {vs:List V}
  (S:ao N ps scope) (hd:A.handled=none) (e0:BO P w K mg base A outer s H) (hl:vs.length=ps.length) (r:Vals vs us)
  (x:InCallC s s.heap.objs.size (bindL (envOfC qual scope s.heap.objs.size f cd).kindOf (ps.zip us) fun _=>none) (cellsFrom (s.heap.objs.size+1) scope.names []) (bindC (envOfC qual scope s.heap.objs.size f cd).kindOf (ps.zip us) fun _=>none) s1) :
  Inv (rY CX P w K mg base N qual scope f cd A outer s H E) [] (start N vs) H s1:=by
 have hpl:ps.length≤N.length:=by have:=congrArg List.length S.pre;rw [List.length_take] at this;omega
 obtain ⟨h1,tk,rfl,hk⟩:=x.done
 have noA:∀ b:Addr,b∉(rY CX P w K mg base N qual scope f cd A outer s H E).ex:=fun b z=>absurd (show b∈([]:List Addr) from z) (by simp)
 refine ⟨⟨e0.mod,S.kind,rfl,rfl,Nat.le_refl _,fun y z c h1 h2=>?_,fun y hy=>?_,fun y c _ h=>?_,fun _=>hd,Around.frames_deeper e0.frames,.inr ⟨rfl,rfl⟩,fun b z=>absurd z (noA b),e0.bs,e0.bsz,fun b _ _=>noA b,fun b z=>absurd z (noA b),e0.jP,e0.frf⟩,
  rfl,e0.bare,Un.kept hk,⟨_,x.toInCall.ns,fun i y v h1 h2 h3=>?_⟩,fun y c h=>⟨_,x.cell y c h⟩,e0.hok.fresh (Nat.le_refl _),fun y c h=>?_,fun p hp=>absurd (show p∈([]:List (Addr×Obj)) from hp) (by simp),e0.hok.kept hk,?_⟩
 ·exact name_of_addr x.apart (PySem.mem_of_lookup h1) (PySem.mem_of_lookup h2)
 ·have hy:scope.names.lookup y=some .cell∨scope.names.lookup y=some .free:=hy
  rcases hy with hy | hy
  ·exact pC hy
  ·exact absurd rfl (S.FJ _ (PySem.mem_of_lookup hy))
 ·exact Nat.le_of_lt (x.above y c (PySem.mem_of_lookup h))
 ·have hi:i<vs.length:=by
   unfold start at h2
   by_cases hi:i<vs.length
   ·exact hi
   ·rw [List.getElem?_append_right (by simpa using hi)] at h2
    rw [List.getElem?_replicate] at h2
    split at h2<;>cases h2
  have ha:vs[i]?=some v:=by
   unfold start at h2
   rw [List.getElem?_append_left (by simpa using hi),List.getElem?_map] at h2
   cases e:vs[i]? with
   | none=>rw [e] at h2;cases h2
   | some a=>rw [e] at h2;cases h2;rfl
  obtain ⟨u,hu,rv⟩:=r.get ha
  have hp:ps[i]?=some y:=by
   rw [← S.pre,List.getElem?_take_of_lt (by omega)];exact h1
  have ndP:ps.Nodup:=by rw [← S.pre];exact S.nd.sublist (List.take_sublist _ _)
  refine ⟨u,rv,?_⟩
  rcases S.par y (List.mem_of_getElem? hp) with k | k
  ·exact .inl ⟨k,mV ndP hp hu k⟩
  ·obtain ⟨c,e⟩:=pC (n:=s.heap.objs.size+1) k
   refine .inr ⟨.inl k,c,e,?_⟩
   have q:=x.cell y c e
   rw [mW ndP hp hu (by show scope.names.lookup y≠_;rw [k];decide)] at q
   exact q
 ·exact e0.hok.fresh (Nat.le_of_lt (x.above y c (PySem.mem_of_lookup h)))
 ·unfold start
  show _=N.length
  rw [List.length_append,List.length_map,List.length_replicate]
  omega
theorem DL {CX:CXT} {P:Program} {w:World} {K:PySem.W.Frag} {mg:Str→Option Value} {base:Heap} {k:Nat} {f:Addr} {name qual:Str} {params:Arguments} {body:List Stmt} {scope:Scope} {dV kV doc pm cdv ct oc:Value} {an od:Option Addr}
  {osl:Array (Option Value)} {N ps:List Str} {sp:Sp} (lk:K.lookup f=some ⟨oc,od,.func (PySem.W.fnOf name qual params body scope dV kV doc pm an cdv ct),osl⟩) (hcd:PySem.W.codeIn K cdv qual=true) (S:ao N ps scope)
  (len:∀ vs H Q E,sp vs H Q E→vs.length=ps.length)
  (hbody:∀ (A:Around) (outer:List Env) (s:Shared) (H:Hp) (vs:List V) (Q:VK) (E:XK),bf k (A.deeper (envOfC qual scope s.heap.objs.size f cdv))→sp vs H Q E →
   ∃ t,PSs (rY CX P w K mg base N qual scope f cdv A outer s H E) body t∧t { nx:=fun _ H'=>Q .non H',rt:=Q } (start N vs) H) :
  aQ P w K mg base CX (k+1) f (PySem.W.fnOf name qual params body scope dV kV doc pm an cdv ct) ps sp:=by
 refine ⟨len,fun A outer s H args us vs Q E hr e0 hb r hsp=>?_⟩
 have hl:=len _ _ _ _ hsp
 have KX:K.In s.heap:=e0.mod.kin.keeps fun b o e=>(e0.bs b o e).1
 have lim:s.heap.NoLimit:=e0.mod.nolimit.keeps fun b o e=>(e0.bs b o e).1
 have hkind:∀ y∈ps.zip us,scope.names.lookup y.1=some .local∨(scope.names.lookup y.1=some .cell∧((cellsFrom (s.heap.objs.size+1) scope.names []).lookup y.1).isSome=true):=fun ⟨n,v⟩ hy=>by
  rcases S.par n (List.of_mem_zip hy).1 with q | q
  ·exact .inl q
  ·exact .inr ⟨q,PySem.W.cellsFrom_some _ _ _ (.inl q)⟩
 refine codeAny_call_function hr.depth (KX _ _ lk) rfl S.co S.gen rfl (PySem.W.codeRec_of KX hcd) (hb _ _ _ _ ?_)
 refine wpAny_newFunctionEnv_cells S.kind hkind fun env he s1 x=>?_
 subst he
 refine ⟨lim.keeps x.toInCall.keep,codeAny_func ?_⟩
 obtain ⟨t,ht,hq⟩:=hbody A outer s H vs Q E (hr.deeper _) hsp
 have I:Inv (rY CX P w K mg base N qual scope f cdv A outer s H E) [] (start N vs) H s1:=wk S hr.hd e0 hl r x
 refine wpAny_mono (ht [] s1 (start N vs) H _ I hq) (fun fl s' hs=>?_) fun e s' hs=>hs
 have fin:∀ {σ':St} {H':Hp} {v:V} {u:Value},Inv (rY CX P w K mg base N qual scope f cdv A outer s H E) [] σ' H' s'→RelV v u→Q v H'→CE outer P w H s Q u s':=
  fun {σ' H' v u} J rv q=>⟨v,H',J.os,J.bare,J.base,J.hok,rv,q⟩
 cases fl with
 | ret u=>
  obtain ⟨v,σ',H',J,rv,q⟩:=hs
  exact fin J rv q
 | next=>
  obtain ⟨σ',H',J,q⟩:=hs
  exact fin (v:=V.non) (u:=Value.none) J rfl q
 | brk=>
  obtain ⟨_,_,_,q⟩:=hs
  exact False.elim q
 | cont=>
  obtain ⟨_,_,_,q⟩:=hs
  exact False.elim q
section
variable {X:Cx} {x:Str} {p pos:Pos} {e:Expr} {es:List Expr} {t:TA} {id T:String} {r:List V→Hp→VK→Prop}
noncomputable def tCB (r:List V→Hp→VK→Prop) (t:TA):TE:=fun σ H Q=>t σ H fun vs H1=>r vs H1 Q
theorem pD (hc:cM X (.builtin id) r) (hg:Gl X x) (hm:X.mg x=none) (hv:bootBuiltins x=some (.builtin id)) (ha:PA X (e::es) t) (hn:x ≠ "__name__" := by decide) (hdb:(x == ("__debug__" : Str))=false:=by decide)
  (he:starEach (e::es) X.env=(false,eval e X.env)::starEach es X.env:=by rfl) (hpl:(backTo pos (starEach es X.env)).any (·.1)=false:=by rfl):PE X (.Call (.Name x p) (e::es) [] pos) (tCB r t):=by
 intro pins s σ H Q I h
 refine wpAny_Call_Name_kw (cB I hg hm hv ?_ hn hdb)
 exact PyProof.Rows.callWith_builtin1 (thn (ha pos pins s σ H _ I h) fun us s1 ⟨vs,H1,I1,r1,q1⟩=>hc pins s1 σ H1 vs us Q I1 r1 q1) he hpl
theorem wo (hc:cM X (.type T) r) (hg:Gl X x) (hm:X.mg x=none) (hv:bootBuiltins x=some (.type T)) (ha:PA X (e::es) t) (hn:x ≠ "__name__" := by decide) (hdb:(x == ("__debug__" : Str))=false:=by decide)
  (he:starEach (e::es) X.env=(false,eval e X.env)::starEach es X.env:=by rfl) (hpl:(backTo pos (starEach es X.env)).any (·.1)=false:=by rfl):PE X (.Call (.Name x p) (e::es) [] pos) (tCB r t):=by
 intro pins s σ H Q I h
 refine wpAny_Call_Name_kw (cB I hg hm hv ?_ hn hdb)
 exact PyProof.Rows.callWith_type1 (thn (ha pos pins s σ H _ I h) fun us s1 ⟨vs,H1,I1,r1,q1⟩=>hc pins s1 σ H1 vs us Q I1 r1 q1) he hpl
end
end L2
namespace HT
open PySem PyProof.Rows
section
open PySem.SeqAt
open PySem.AutoSeq1 (wpAny_loadPart')
open PySem.MeetsSeq PySem.MeetsSeq2 PySem.MeetsSeq3
end
section
variable {prog:Program} {w:World} {A:Around} {E:Value→Shared→Prop} {s:Shared}
end
end HT
namespace L2
open PySem PySem.Spec PyProof.Rows
section
variable {X:Cx} {e:Expr} {te:TE} {lo hi:Option Expr} {tl th:TO} {pos p2:Pos}
end
noncomputable def ixN (n:Nat) (i:Int):Option Nat:=if 0≤i then (if i<n then some i.toNat else none) else if -(n:Int)≤i then some (i+n).toNat else none
noncomputable def atI {α:Type} (xs:List α) (i:Int):Option α:=(ixN xs.length i).bind fun j=>xs[j]?
theorem uw {n:Nat} {i:Int} {j:Nat} (h:ixN n i=some j):seqIndex? i n=some j∧j<n∧-(n:Int)≤i∧i<n:=by
 unfold ixN at h
 by_cases h0:0≤i
 ·rw [if_pos h0] at h
  by_cases h1:i<n
  ·rw [if_pos h1] at h
   have e:i.toNat=j:=Option.some.inj h
   exact ⟨by rw [seqIndex_of h0 h1,e],by omega,by omega,h1⟩
  ·rw [if_neg h1] at h;cases h
 ·rw [if_neg h0] at h
  by_cases h1:-(n:Int)≤i
  ·rw [if_pos h1] at h
   have e:(i+n).toNat=j:=Option.some.inj h
   exact ⟨by rw [seqIndex_neg (by omega) h1,e],by omega,h1,by omega⟩
  ·rw [if_neg h1] at h;cases h
theorem ux {α:Type} {xs:List α} {i:Int} {v:α} (h:atI xs i=some v):∃ j,seqIndex? i xs.length=some j∧xs[j]?=some v∧j<xs.length∧-(xs.length:Int)≤i∧i<xs.length:=by
 unfold atI at h
 cases e:ixN xs.length i with
 | none=>rw [e] at h;cases h
 | some j=>
  rw [e] at h
  obtain ⟨h1,h2,h3,h4⟩:=uw e
  exact ⟨j,h1,h,h2,h3,h4⟩
noncomputable def nM (b:Expr):Prop:=∀ o i,subscripted b false o i=operate [o,i] (getItem o i)
noncomputable def IxR (X:Cx) (r:R2):Prop:=
 ∀ (value slice:Expr) (pins:List (Addr×Obj)) (s:Shared) (σ:St) (H:Hp) (x y:V) (v u:Value) (Q:VK),Inv X pins σ H s→RelV x v→RelV y u→r x y H Q →
  subscripted slice false v u=operate [v,u] (getItem v u)→wpAny (model X.prog X.w) X.A (subscriptTail value slice v u) (EP X pins σ Q) X.xe s
noncomputable def MtR (X:Cx) (id:String) (r:V→List V→Hp→VK→Prop):Prop:=
 ∀ (pins:List (Addr×Obj)) (s:Shared) (σ:St) (H:Hp) (x:V) (xs:List V) (v:Value) (us:List Value) (Q:VK),Inv X pins σ H s→RelV x v→Vals xs us→r x xs H Q →
  wpAny (model X.prog X.w) X.A (call (.builtin id) (v::us)) (EP X pins σ Q) X.xe s
section
variable {X:Cx} {a b:Expr} {ta tb:TE} {pos:Pos}
theorem IxR.or {r r':R2} (h:IxR X r) (h':IxR X r'):IxR X (fun x y H Q=>r x y H Q∨r' x y H Q):=by
 intro value slice pins s σ H x y v u Q I rx ry q hs
 rcases q with q | q
 ·exact h value slice pins s σ H x y v u Q I rx ry q hs
 ·exact h' value slice pins s σ H x y v u Q I rx ry q hs
theorem DM {r:R2} (hr:IxR X r) (ha:PE X a ta) (hb:PE X b tb) (hs:nM b):PE X (.Subscript a b pos) (tOp r ta tb):=by
 intro pins s σ H Q I h
 exact Subscript_ (Fj ha hb I h fun v u s2 x y H2 I2 rx ry q=>hr a b pins s2 σ H2 x y v u Q I2 rx ry q (hs _ _))
noncomputable def FL (K:PySem.W.Frag):R2:=fun x y H Q=>∃ p xs i v,x=.ref p∧y=.int i∧SqL K H p xs∧atI xs i=some v∧Q v H
noncomputable def Jg (K:PySem.W.Frag):R2:=fun x y H Q=>∃ p xs i v,x=.ref p∧y=.int i∧SqT K H p xs∧atI xs i=some v∧Q v H
theorem uy:IxR X (FL X.K):=by
 intro value slice pins s σ H x y v u Q I rx ry h hs
 obtain ⟨p,xs,i,z,rfl,rfl,hq,he,q⟩:=h
 cases rx
 obtain ⟨t,rfl⟩:=ry
 obtain ⟨its,r,pl,hz⟩:=I.list hq
 obtain ⟨j,h1,h2,h3,h4,h5⟩:=ux he
 obtain ⟨w,ew,rw'⟩:=r.get h2
 have hl:=r.length
 have hn:=jS
 have fin:EP X pins σ Q w s:=⟨z,H,I,rw',q⟩
 by_cases h0:0≤i
 ·have hj:i.toNat=j:=by
   rw [seqIndex_of h0 h5] at h1
   exact Option.some.inj h1
  exact item_listR pl.isList h0 (by omega) (by rw [hj];simpa using ew) fin hs
 ·have hj:(i+(its.toArray.size:Int)).toNat=j:=by
   rw [seqIndex_neg (by omega) h4] at h1
   rw [List.size_toArray,← hl]
   exact Option.some.inj h1
  exact subscriptTail_builtinR (x:=w) pl.isList.typeIs slot_list_getitem.lookup
   (wpAny_getItem_list_neg (Q:=fun r s'=>r=w∧EP X pins σ Q r s') pl.isList (by omega) (by rw [List.size_toArray]<;>omega) (by omega) (by rw [hj];simpa using ew) ⟨rfl,fin⟩) hs
theorem FO:IxR X (Jg X.K):=by
 intro value slice pins s σ H x y v u Q I rx ry h hs
 obtain ⟨p,xs,i,z,rfl,rfl,hq,he,q⟩:=h
 cases rx
 obtain ⟨t,rfl⟩:=ry
 obtain ⟨its,r,pl,hz⟩:=I.tuple hq
 obtain ⟨j,h1,h2,h3,h4,h5⟩:=ux he
 obtain ⟨w,ew,rw'⟩:=r.get h2
 have hl:=r.length
 have hn:=jS
 have fin:EP X pins σ Q w s:=⟨z,H,I,rw',q⟩
 exact subscriptTail_builtinR (x:=w) pl.typeIs slot_tuple_getitem.lookup
  (getItem_tuple (j:=j) (Q:=fun r s'=>r=w∧EP X pins σ Q r s') pl (by omega) (by omega) (by rw [List.size_toArray,← hl];exact h1) (by simpa using ew) ⟨rfl,fin⟩) hs
theorem rZ (its:List Value) (n j:Nat) (u:Value):Obj.mapSeq (·.setIfInBounds j u) { cls:=.type "list",data:=.seq its.toArray n }={ cls:=.type "list",data:=.seq (its.set j u).toArray n }:=by
 simp [Obj.mapSeq]
theorem Inv.lst {pins:List (Addr×Obj)} {σ:St} {H:Hp} {s:Shared} {p:Addr} {xs:List V} (I:Inv X pins σ H s) (h:H p=some (.lst xs)) :
  ∃ (its:List Value) (n:Nat),Vals xs its∧s.heap.get? p=some { cls:=.type "list",data:=.seq its.toArray n }∧xs.length≤sizeLine:=by
 obtain ⟨z,its,n,r,e⟩:=I.hok p _ h
 exact ⟨its,n,r,e,z⟩
theorem Inv.FP {pins:List (Addr×Obj)} {σ:St} {H:Hp} {s:Shared} {p:Addr} {xs ys:List V} {its its':List Value} {n n':Nat} {f:Obj→Obj} (I:Inv X pins σ H s) (h:H p=some (.lst xs))
  (ho:s.heap.get? p=some { cls:=.type "list",data:=.seq its.toArray n }) (hf:f { cls:=.type "list",data:=.seq its.toArray n }={ cls:=.type "list",data:=.seq its'.toArray n' }) (r:Vals ys its') (hz:ys.length≤sizeLine) (t:Nat) :
  Inv X pins σ (upd H p (.lst ys)) { s with heap:=s.heap.update p f,toks:=t }:=by
 have e:(s.heap.update p f).get? p=some { cls:=.type "list",data:=.seq its'.toArray n' }:=by
  rw [Heap.get?_update_self f ho (by rw [hf]<;>rfl),hf]
 refine I.write (x:=p) (e:=p) (by rw [h];trivial) (.inl rfl) (fun b u hb q=>(Heap.get?_update_other _ _ (Ne.symm hb)).trans q) ⟨_,e⟩ ?_
 exact ⟨hz,its',n',r,e⟩
noncomputable def DO:V→V→V→Hp→(Hp→Prop)→Prop:=fun o i v H Q=>∃ p xs k j,o=.ref p∧i=.int k∧H p=some (.lst xs)∧ixN xs.length k=some j∧Q (upd H p (.lst (xs.set j v)))
theorem set_list:I_ X DO:=by
 intro pins s σ H o i v ov iv u Q I ro ri rv h
 obtain ⟨p,xs,k,j,rfl,rfl,hp,hj,q⟩:=h
 cases ro
 obtain ⟨t,rfl⟩:=ri
 obtain ⟨its,n,r,ho,hz⟩:=I.lst hp
 obtain ⟨h1,h2,h3,h4⟩:=uw hj
 have hl:=r.length
 have hn:=jS
 have I':Inv X pins σ (upd H p (.lst (xs.set j v))) { s with heap:=s.heap.update p (Obj.mapSeq (·.setIfInBounds j u)) }:=
  I.FP hp ho (rZ its n j u) (r.set rv j) (by rw [List.length_set];exact hz) s.toks
 by_cases h0:0≤k
 ·have hk:k.toNat=j:=by
   rw [seqIndex_of h0 h4] at h1
   exact Option.some.inj h1
  exact PySem.W.ki_setAt ho h0 (by omega) (by rw [List.size_toArray,← hl];exact h4) (by rw [hk];exact ⟨_,I',q⟩)
 ·have hk:(k+(its.toArray.size:Int)).toNat=j:=by
   rw [seqIndex_neg (by omega) h3] at h1
   rw [List.size_toArray,← hl]
   exact Option.some.inj h1
  exact PySem.W.ki_setBack ho (by omega) (by rw [List.size_toArray,← hl];exact h3) (by omega) (by rw [hk];exact ⟨_,I',q⟩)
theorem nN:cM X (.builtin "len") (fun xs H Q=>∃ p ys,xs=[.ref p]∧(SqL X.K H p ys∨SqT X.K H p ys)∧Q (.int ys.length) H):=by
 intro pins s σ H xs us Q I r h
 obtain ⟨p,ys,rfl,hq,q⟩:=h
 obtain ⟨u,rfl,rx⟩:=vals1 r
 cases rx
 have hn:=jS
 rcases hq with hq | hq
 ·obtain ⟨its,r',pl,hz⟩:=I.list hq
  have hlen:=r'.length
  exact Calls.call_len_list pl.isList (by simp only [List.size_toArray]<;>omega) ⟨.int ys.length,H,I.tok _,⟨s.toks+1,by rw [List.size_toArray,hlen]⟩,q⟩
 ·obtain ⟨its,r',pl,hz⟩:=I.tuple hq
  have hlen:=r'.length
  exact len_tuple pl (by simp only [List.size_toArray]<;>omega) ⟨.int ys.length,H,I.tok _,⟨s.toks+1,by rw [List.size_toArray,hlen]⟩,q⟩
theorem nP:cM X (.type "list") (fun xs H Q=>∃ p ys,xs=[.ref p]∧(SqL X.K H p ys∨SqT X.K H p ys)∧∀ l,H l=none→Q (.ref l) (upd H l (.lst ys))):=by
 intro pins s σ H xs us Q I r h
 obtain ⟨p,ys,rfl,hq,q⟩:=h
 obtain ⟨u,rfl,rx⟩:=vals1 r
 cases rx
 have fin:∀ (its:List Value),Vals ys its→ys.length≤sizeLine→∀ (h':Heap) (c':Nat),(∀ b o',s.heap.get? b=some o'→h'.get? b=some o') →
   h'.get? s.heap.objs.size=some { cls:=.type "list",dict:=none,data:=.seq its.toArray c',slots:=#[] }→EP X pins σ Q (.ref s.heap.objs.size) { s with heap:=h' }:=fun its r' hz h' c' kp e=>
  ⟨.ref s.heap.objs.size,_,I.laid (t':=s.toks) kp (Nat.le_refl _) (show aY X.prog X.w _ h' _ (.lst ys) from ⟨hz,its,c',r',e⟩),rfl,q _ (I.hok.fresh (Nat.le_refl _))⟩
 rcases hq with hq | hq
 ·obtain ⟨its,r',pl,hz⟩:=I.list hq
  have hlen:=r'.length
  obtain ⟨o,ho,hc,n,hd⟩:=pl.isList
  exact call_list_seq p (.inl rfl) ho hc hd (fun h' c' kp e=>fin its r' hz h' c' kp e) (by simp only [List.size_toArray]<;>omega)
 ·obtain ⟨its,r',pl,hz⟩:=I.tuple hq
  have hlen:=r'.length
  obtain ⟨o,ho,hc,n,hd⟩:=pl
  exact call_list_seq p (.inr rfl) ho hc hd (fun h' c' kp e=>fin its r' hz h' c' kp e) (by simp only [List.size_toArray]<;>omega)
theorem mF:cM X (.type "tuple") (fun xs H Q=>∃ p ys,xs=[.ref p]∧((SqL X.K H p ys∧∀ l,H l=none→Q (.ref l) (upd H l (.tup ys)))∨(SqT X.K H p ys∧Q (.ref p) H))):=by
 intro pins s σ H xs us Q I r h
 obtain ⟨p,ys,rfl,h⟩:=h
 obtain ⟨u,rfl,rx⟩:=vals1 r
 cases rx
 rcases h with ⟨hq,q⟩ | ⟨hq,q⟩
 ·obtain ⟨its,r',pl,hz⟩:=I.list hq
  have hlen:=r'.length
  refine call_tuple_list pl.isList (fun h' kp=>?_) (by simp only [List.size_toArray]<;>omega)
  have I1:Inv X pins σ H { s with heap:=h' }:=I.kept (t':=s.toks) kp
  have I2:Inv X pins σ (upd H h'.objs.size (.tup ys)) { s with heap:=h'.push { cls:=.type "tuple",data:=.seq its.toArray } }:=
   I1.laid (t':=s.toks) (fun b o e=>Heap.get?_push_of_some _ e) (Nat.le_refl _) (show aY X.prog X.w _ _ _ (.tup ys) from ⟨hz,its,r',IsTup.new _ _⟩)
  exact ⟨.ref h'.objs.size,_,I2,rfl,q _ (I1.hok.fresh (Nat.le_refl _))⟩
 ·obtain ⟨its,r',pl,hz⟩:=I.tuple hq
  exact call_tuple_same pl ⟨.ref p,H,I,rfl,q⟩
noncomputable def tyV (K:PySem.W.Frag) (T:String) (x:V) (H:Hp):Prop:=match x with
 | .str _=>T = "str"
 | .int _=>T = "int"
 | .ref p=>(T = "list" ∧ ∃ xs,SqL K H p xs)∨(T = "tuple" ∧ ∃ o,K.lookup p=some o∧o.cls=.type "tuple" ∧ o.dict=none) ∨
   (T = "dict" ∧ ((∃ kvs,H p=some (.dK kvs))∨∃ kvs,H p=some (.dT kvs)))∨(T = "set" ∧ ∃ S n,H p=some (.set S n))
 | _=>False
theorem FQ {pins:List (Addr×Obj)} {σ:St} {H:Hp} {s:Shared} {T:String} {x:V} {v:Value} (I:Inv X pins σ H s) (r:RelV x v) (ty:tyV X.K T x H) :
  s.TypeIs v T∧∀ a,v=.ref a→∃ ob,s.heap.get? a=some ob∧ob.dict=none:=by
 cases x with
 | str z=>
  obtain ⟨t,rfl⟩:=r
  cases (show T = "str" from ty)
  exact ⟨typeIs_str s z t,fun _ e=>nomatch e⟩
 | int i=>
  obtain ⟨t,rfl⟩:=r
  cases (show T = "int" from ty)
  exact ⟨typeIs_int s i t,fun _ e=>nomatch e⟩
 | ref p=>
  cases r
  rcases ty with ⟨rfl,xs,hq⟩ | ⟨rfl,o,hk,hc,hd⟩ | ⟨rfl,hk⟩ | ⟨rfl,S,n,hk⟩
  ·obtain ⟨its,_,pl,_⟩:=I.list hq
   refine ⟨pl.isList.typeIs,fun a e=>?_⟩
   cases e
   obtain ⟨o,n,e,c,hd,_⟩:=pl
   exact ⟨o,e,hd⟩
  ·refine ⟨⟨o,I.kIn p o hk,hc⟩,fun a e=>?_⟩
   cases e
   exact ⟨o,I.kIn _ o hk,hd⟩
  ·have z:∃ o,s.heap.get? p=some o∧o.ExactDict:=by
    rcases hk with ⟨kvs,hk⟩ | ⟨kvs,hk⟩
    ·obtain ⟨_,_,_,_,o,_,_,e,ex,_⟩:=I.hok p _ hk
     exact ⟨o,e,ex⟩
    ·obtain ⟨_,_,_,_,o,_,_,e,ex,_⟩:=I.hok p _ hk
     exact ⟨o,e,ex⟩
   obtain ⟨o,e,ex⟩:=z
   refine ⟨⟨o,e,ex.1⟩,fun a e2=>?_⟩
   cases e2
   exact ⟨o,e,ex.2.1⟩
  ·obtain ⟨o,_,_,_,e,ex,_⟩:=I.hok p _ hk
   refine ⟨⟨o,e,ex.1⟩,fun a e2=>?_⟩
   cases e2
   exact ⟨o,e,ex.2.1⟩
 | _=>exact False.elim ty
noncomputable def tBM (K:PySem.W.Frag) (T:String) (r:V→List V→Hp→VK→Prop) (to:TE) (t:TA):TE:=fun σ H Q=>to σ H fun x H1=>tyV K T x H1∧t σ H1 fun xs H2=>r x xs H2 Q
variable {o e:Expr} {es:List Expr} {to:TE} {t:TA} {name:Str} {apos cpos:Pos} {T id:String} {r:V→List V→Hp→VK→Prop}
theorem ya (pa:PlainAttrs T) (slot:Slot T name id) (hty:typeOf (.builtin id)=pure (.type "method_descriptor")) (hm:MtR X id r) (ho:PE X o to) (ha:PA X (e::es) t)
  (hbase:attributeBase o name X.env (eval o X.env)=eval o X.env:=by rfl)
  (hfew:((backTo cpos (starEach (e::es) X.env)).all (fun x=>!x.1)&&(backToKw cpos (keywordEach [] X.env)).all (fun x=>x.1.isSome)
   && decide ((e::es).length+([]:List Keyword).length+(if ([]:List Keyword).isEmpty then 0 else 1)<30))=true:=by rfl)
  (hline:(apos.endLine == cpos.line)=true:=by rfl) (hs:starEach (e::es) X.env=(false,eval e X.env)::starEach es X.env:=by rfl) (hplain:(backTo cpos (starEach es X.env)).any (·.1)=false:=by rfl) :
  PE X (.Call (.Attribute o name apos) (e::es) [] cpos) (tBM X.K T r to t):=by
 intro pins s σ H Q I h
 refine wpAny_Call_method_late hbase hfew hline rfl (thn (ho pins s σ H _ I h) fun v s1 ⟨x,H1,I1,r1,ty,q1⟩=>?_)
 obtain ⟨h1,h2⟩:=FQ I1 r1 ty
 refine ⟨T,id,pa,slot,hty,h1,h2,?_⟩
 have hA:=ha cpos pins s1 σ H1 _ I1 q1
 rw [hs] at hA ⊢
 refine Calls.callWith_builtin (by show (false||(backTo cpos (starEach es X.env)).any (·.1))=false;rw [hplain]<;>rfl) (Calls.evalArgs_plain ?_)
 exact thn hA fun us s2 ⟨vs,H2,I2,r2,q2⟩=>hm pins s2 σ H2 x vs v us Q I2 r1 r2 q2
end
noncomputable def MtM (X:Cx) (id:String) (r:V→List V→Hp→VK→Prop):Prop:=
 ∀ (pins:List (Addr×Obj)) (s:Shared) (σ:St) (H:Hp) (x:V) (xs:List V) (v:Value) (us:List Value) (Q:VK),Inv X pins σ H s→RelV x v→Vals xs us→r x xs H Q →
  wpAny (model X.prog X.w) X.A (call (.builtin id) (v::us)) (EP X pins σ Q) X.xe s
theorem Vals.one:∀ {x:V} {us:List Value},Vals [x] us→∃ u,us=[u]∧RelV x u
 | _,_,.cons r .nil=>⟨_,rfl,r⟩
theorem Vals.eraseIdx:∀ {xs:List V} {us:List Value} (i:Nat),Vals xs us→Vals (xs.eraseIdx i) (us.eraseIdx i)
 | _,_,_,.nil=>.nil
 | _,_,0,.cons _ t=>t
 | _,_,i+1,.cons r t=>.cons r (Vals.eraseIdx i t)
theorem Vals.rep {xs:List V} {us:List Value} (h:Vals xs us):∀ k:Nat,Vals (List.replicate k xs).flatten (List.replicate k us).flatten
 | 0=>.nil
 | k+1=>by
  rw [List.replicate_succ,List.replicate_succ,List.flatten_cons,List.flatten_cons]
  exact Vals.append h (Vals.rep h k)
theorem mX {α:Type}:∀ (l:List α) (i:Nat),(l.eraseIdx i).length≤l.length
 | [],_=>Nat.le_refl _
 | _::_,0=>Nat.le_succ _
 | _::r,i+1=>Nat.succ_le_succ (mX r i)
theorem foldl_rep (its:List Value):∀ (k:Nat) (acc:List Value),
  List.foldl (fun x1 x2=>x1++x2) acc.toArray (List.replicate k its.toArray)=(acc++(List.replicate k its).flatten).toArray
 | 0,acc=>by simp
 | k+1,acc=>by
  have e:acc.toArray++its.toArray=(acc++its).toArray:=by simp
  have e2:(acc++its)++(List.replicate k its).flatten=acc++(List.replicate (k+1) its).flatten:=by
   rw [List.replicate_succ,List.flatten_cons,List.append_assoc]
  rw [← e2,← foldl_rep its k (acc++its),← e,List.replicate_succ,List.foldl_cons]
section
variable {X:Cx} {pins:List (Addr×Obj)} {σ:St} {H:Hp} {s:Shared} {l b:Addr} {xs ys zs:List V}
theorem Inv.Jh {its its':List Value} {n:Nat} {f:Array Value→Array Value} {t':Nat} (I:Inv X pins σ H s) (hH:H l=some (.lst xs))
  (e:s.heap.get? l=some { cls:=.type "list",data:=.seq its.toArray n }) (hf:f its.toArray=its'.toArray) (hv:Vals ys its') (hz:ys.length≤sizeLine) :
  Inv X pins σ (upd H l (.lst ys)) { s with heap:=s.heap.update l (Obj.mapSeq f),toks:=t' }:=by
 have q:=PySem.IsL.update e f
 rw [hf] at q
 refine I.write (x:=l) (e:=l) (by rw [hH];exact trivial) (.inl rfl) (fun b' u hb hu=>(Heap.get?_update_other s.heap (Obj.mapSeq f) (Ne.symm hb)).trans hu) ⟨_,q⟩ ?_
 exact ⟨hz,its',_,hv,q⟩
theorem Inv.FU {its:List Value} {t':Nat} (I:Inv X pins σ H s) (hv:Vals ys its) (hz:ys.length≤sizeLine) :
  Inv X pins σ (upd H s.heap.objs.size (.lst ys)) { s with heap:=s.heap.push { cls:=.type "list",data:=.seq its.toArray },toks:=t' }:=
 I.laid (fun _ _ q=>Heap.get?_push_of_some _ q) (Nat.le_refl _) ⟨hz,its,0,hv,Heap.get?_push_size _ rfl⟩
theorem Inv.fresh (I:Inv X pins σ H s):H s.heap.objs.size=none:=I.hok.fresh (Nat.le_refl _)
theorem Inv.Ji (I:Inv X pins σ H s) (hH:H l=some (.lst xs)):xs.length≤sizeLine∧∃ (its:List Value) (n:Nat),Vals xs its∧xs.length=its.length∧s.heap.get? l=some { cls:=.type "list",data:=.seq its.toArray n }:=by
 obtain ⟨z,its,n,r,e⟩:=I.hok l _ hH
 exact ⟨z,its,n,r,r.length,e⟩
theorem yb {n:Nat} (h:n≤sizeLine):Builtin.List.listTooLong n=false:=by
 unfold Builtin.List.listTooLong
 exact decide_eq_false (by omega)
end
section
variable {X:Cx}
noncomputable def nQ:V→List V→Hp→VK→Prop:=fun x vs H Q=>∃ l xs y,x=.ref l∧vs=[y]∧H l=some (.lst xs)∧xs.length<sizeLine∧Q .non (upd H l (.lst (xs++[y])))
theorem iG:MtM X "list.append" nQ:=by
 intro pins s σ H x vs v us Q I rx rv h
 obtain ⟨l,xs,y,rfl,rfl,hH,hz,q⟩:=h
 cases rx
 obtain ⟨u,rfl,ru⟩:=rv.one
 obtain ⟨z,its,n,r,hl,e⟩:=I.Ji hH
 refine call_meets F.slot_list_append ⟨_,e,rfl⟩ F.entry_list_append (F.args_list_append_2 _ _) (PySem.list_append l its.toArray n u (by rw [List.size_toArray];omega)) ⟨e,?_⟩
 refine ⟨.non,_,I.Jh (its':=its++[u]) hH e (by simp) (r.append (.cons ru .nil)) ?_,rfl,q⟩
 rw [List.length_append,List.length_singleton]
 omega
noncomputable def yc:V→List V→Hp→VK→Prop:=fun x vs H Q=>∃ l xs i k y,x=.ref l∧vs=[.int i]∧H l=some (.lst xs)∧-(2 ^ 63)≤i∧i<2 ^ 63∧seqIndex? i xs.length=some k∧xs[k]?=some y∧Q y (upd H l (.lst (xs.eraseIdx k)))
theorem yd:MtM X "list.pop" yc:=by
 intro pins s σ H x vs v us Q I rx rv h
 obtain ⟨l,xs,i,k,y,rfl,rfl,hH,h1,h2,hk,hy,q⟩:=h
 cases rx
 obtain ⟨u,rfl,ru⟩:=rv.one
 obtain ⟨t,rfl⟩:=ru
 obtain ⟨z,its,n,r,hl,e⟩:=I.Ji hH
 obtain ⟨w,hw,rw'⟩:=r.get hy
 refine call_meets F.slot_list_pop ⟨_,e,rfl⟩ F.entry_list_pop (F.args_list_pop_2 _ _)
  (MeetsSeq.list_pop_at l its.toArray n i t k w (fitsIndex_both h1 h2) (by rw [List.size_toArray,← hl];exact hk) (by rw [← Array.getElem?_toList];exact hw) (by rw [List.size_toArray];omega)) ⟨e,?_⟩
 refine ⟨y,_,I.Jh (its':=its.eraseIdx k) hH e ?_ (r.eraseIdx k) ?_,rw',q⟩
 ·show its.toArray.eraseIdxIfInBounds k=(its.eraseIdx k).toArray
  rw [List.eraseIdxIfInBounds_toArray]
 ·have:=mX xs k
  omega
theorem len_rep {α:Type} (xs:List α) (k:Nat):(List.replicate k xs).flatten.length=k*xs.length:=by
 induction k with
 | zero=>simp
 | succ k ih=>rw [List.replicate_succ,List.flatten_cons,List.length_append,ih,Nat.succ_mul,Nat.add_comm]
end
section
variable {prog:Program} {w:World} {A:Around} {E:Value→Shared→Prop} {s:Shared}
set_option maxRecDepth 100000 in
end
section
variable {X:Cx}
end
end L2
namespace Att
open PySem PySem.W PySem.Calls PyProof.Rows
theorem jF {P:Params} {h:Heap}:∀ (ns:List Int) (vs:List Value),WellAll P h vs (ns.map WData.int)→IntsAre vs ns:=by
 intro ns
 induction ns with
 | nil=>
  intro vs w
  rw [List.map_nil] at w
  cases w
  exact .nil
 | cons n ns ih=>
  intro vs w
  rw [List.map_cons] at w
  cases w with
  | cons a b=>
   cases a
   exact .cons _ _ (ih _ b)
theorem wu {l:OpenLaw} {n:Nat} (hn:l.most=some n) {P:Params} {h:Heap} {args:List WData} {vals:List Value}
  (hpre:l.row.toRowW.claim.pre args=true) (hwl:WellAll P h vals args) :
  ∃ a vs ns,vals=[Value.ref a]∧args=[WData.list (ns.map WData.int)]∧h.get? a=some { cls:=.type "list",data:=.seq vs.toArray }∧IntsAre vs ns∧ns.length≤n:=by
 have hsh:WShape.hasAll [] args [.list .int]=true:=(pre_splitW hpre).1
 have hc:l.pre.holds [] { args:=args }=true:=(pre_splitW hpre).2
 obtain ⟨d,r,rfl,h1,h2⟩:=hasAllW_cons hsh
 obtain rfl:=hasAllW_nil h2
 obtain ⟨xs,rfl,h3⟩:=hasW_list h1
 obtain ⟨ns,rfl⟩:=items_int h3
 have hlen:ns.length≤n:=by
  unfold OpenLaw.pre at hc
  have h4:(WTm.not (.lt (.lit (.int (n:Int))) (.len (.arg 0)))).holds [] { args:=[.list (ns.map .int)] }=true:=by
   have h4:=(holds_andW hc).1
   rw [hn] at h4
   exact h4
  have h5:=condW_of h4 (w_not (w_lt w_lit (w_len_list (w_arg rfl))))
  rw [List.length_map] at h5
  refine Nat.le_of_not_lt fun q=>?_
  have q':(n:Int)<((ns.length:Nat):Int):=by omega
  first
   | (rw [decide_eq_true q'] at h5;exact absurd h5 (by decide))
   | (simp at h5;omega)
 cases hwl with
 | cons w1 w2=>
  cases w2
  cases w1 with
  | list ho hall=>exact ⟨_,_,ns,rfl,rfl,ho,jF ns _ hall,hlen⟩
theorem wz (l:OpenLaw) (args:List WData):l.row.toRowW.claim.post args (.bool true) args=true:=
 postW_of (r:=l.row.toRowW) (X:=(true == true))
  (show WShape.has [] (.bool true) .bool=true by first | rfl | decide | simp [WShape.has,WShape.arms,WShape.armsAll])
  (show (WTm.eq .res (.lit (.bool true))).value [] { args:=args,res:=some (.bool true),after:=args }=some (.bool (true == true)) from w_eq_bool (w_res rfl) w_lit) rfl
theorem pF {l:OpenLaw} {n:Nat} {q:Program} {loose:List Str} {XP:(Str→Option Value)→Heap→Prop} {YP:World→Heap→Prop} {d:DefRec}
  (hn:l.most=some n) (hdf:d.params.defaults=[])
  (call:∀ (w:World) (s₀ s₁:Shared) (mg mb:Str→Option Value) (fa:Addr) (o:Obj) (pm cd doc:Value) (a:Addr) (vs:List Value) (ns:List Int),
   Ground q loose [] XP w s₀ mg mb s₁.heap→YP w s₁.heap →
   s₁.heap.get? fa=some o→o.data=.func (docDef d.name d.params d.body d.scope pm cd doc)→s₁.heap.CodeRec cd d.name→mg d.name=some (.ref fa) →
   s₁.heap.get? a=some { cls:=.type "list",data:=.seq vs.toArray }→IntsAre vs ns→ns.length≤n→s₁.gens=#[] →
   codeAny (model l.prog w) callerA (.call (.ref fa) ⟨[.ref a],[]⟩) (fun r s'=>r=.ok (.ret (.bool true))∧OldK s₁.heap s'.heap∧s'.os=s₁.os∧AllBare s'.gens) s₁) :
  WalkO q loose XP YP l.row.toRowW d [] (fun f vs=>PySem.call f vs):=by
 intro w s₀ s₁ mg mb G Y fa o pm cd doc dV kV ho hd hcd hD hmg hg args vals as hpre hlay hrd hwl hlo
 obtain rfl:dV=.none:=Dflts.none hD hdf
 obtain rfl:kV=.none:=Dflts.noKw hD
 obtain ⟨a,vs,ns,rfl,rfl,hobj,hints,hlen⟩:=wu hn hpre hwl
 refine enter_call (codeAny_mono (call w s₀ s₁ mg mb fa o pm cd doc a vs ns G Y ho (fd_plain hd) hcd hmg hobj hints hlen hg) fun r s' hq=>?_)
 obtain ⟨rfl,h2,h3,h4⟩:=hq
 exact ⟨.inl ⟨.bool true,.bool true,[],rfl,fun _=>rfl,.bool true,wz l _,fun _=>⟨List.Pairwise.nil,fun _ hm=>(nomatch hm)⟩⟩,h2,h3,h4⟩
section
variable {prog:Program} {w:World} {A:Around} {E:Value→Shared→Prop} {s:Shared} {K:Frag}
end
end Att
namespace L2
open PySem PySem.Spec PyProof.Rows
theorem cU:∀ {vs:List Value} {ns:List Int},IntsAre vs ns→Vals (ns.map V.int) vs
 | _,_,.nil=>.nil
 | _,_,.cons n t h=>.cons ⟨t,rfl⟩ (cU h)
noncomputable def FW (H:Hp):Prop:=∀ b,H b=none∨∃ o xs,H b=some (.frz o (.lst xs))
theorem ye {P:Program} {w:World} {K:PySem.W.Frag} {mg mb:Str→Option Value} {CX:CXT} {k:Nat} {fa a:Addr} {fd:FuncData} {x:Str} {sp:Sp} {s₁:Shared} {vs:List Value} {ns:List Int}
  (KX:K.In s₁.heap) (hns:s₁.heap.Ns mainGlobals mg) (hb:s₁.heap.Ns builtinsNs mb) (hbb:∀ x:Str,x ≠ "__name__" → mb x=bootBuiltins x) (hlim:s₁.heap.NoLimit) (hg:s₁.gens=#[])
  (ha:s₁.heap.get? a=some { cls:=.type "list",data:=.seq vs.toArray }) (hi:IntsAre vs ns) (hl:ns.length≤sizeLine) (hr:bf k callerA)
  (F:∀ base:Heap,K.In base→base.Ns mainGlobals mg→aQ P w K mg base CX k fa fd [x] sp) (hbind:∀ (s:Shared) (u:Value),BindsTo s fd ⟨[u],[]⟩ [(x,u)])
  (hsp:∀ H:Hp,FW H→SqL K H a (ns.map V.int)→sp [.ref a] H (fun v _=>v=.bl true) fun _ _ _=>False)
  (hCX:∀ H e s',CX [] H s₁ (fun _ _ _=>False) e s'→False) :
  codeAny (model P w) callerA (.call (.ref fa) ⟨[.ref a],[]⟩) (fun r s'=>r=.ok (.ret (.bool true))∧OldK s₁.heap s'.heap∧s'.os=s₁.os∧AllBare s'.gens) s₁:=by
 have rv:=cU hi
 have LA:=hi.length
 have core:∀ H:Hp,FW H→SqL K H a (ns.map V.int)→HOk P w H s₁.heap→(∀ b,H b≠none→b=a)→(H a≠none→K.lookup a=none) →
   codeAny (model P w) callerA (.call (.ref fa) ⟨[.ref a],[]⟩) (fun r s'=>r=.ok (.ret (.bool true))∧OldK s₁.heap s'.heap∧s'.os=s₁.os∧AllBare s'.gens) s₁:=by
  intro H hO hS hok hA hK
  have uz:∀ {b:Addr} {o:Obj},s₁.heap.get? b=some o→H b=none→(nH s₁.heap H).get? b=some o:=fun e n=>xH e n
  have noA:∀ {b:Addr} {o:Obj} {es:Array DictEntry} {ep:Nat},s₁.heap.get? b=some o→o.data=.dict es ep→H b=none:=fun {b o es ep} e d=>by
   cases q:H b with
   | none=>rfl
   | some u=>
    have e':b=a:=hA b (by rw [q];simp)
    subst e'
    rw [ha] at e;cases e
    have d':Data.seq vs.toArray _=Data.dict es ep:=d
    cases d'
  have nsK:∀ {b:Addr} {m:Str→Option Value},s₁.heap.Ns b m→(nH s₁.heap H).Ns b m:=fun {b m} ⟨o,es,ep,e,d,r⟩=>⟨o,es,ep,uz e (noA e d),d,r⟩
  have hKb:K.In (nH s₁.heap H):=fun b o e=>uz (KX b o e) (by
   cases q:H b with
   | none=>rfl
   | some u=>
    have e':b=a:=hA b (by rw [q];simp)
    subst e'
    rw [hK (by rw [q];simp)] at e;cases e)
  have hM:Mod K mg (nH s₁.heap H):=⟨hKb,nsK hns,⟨mb,nsK hb,hbb⟩,let ⟨mc,h1,h2⟩:=hlim;⟨mc,nsK h1,h2⟩⟩
  have e0:BO P w K mg (nH s₁.heap H) callerA [] s₁ H:=⟨rfl,hM,fun b o e=>BC e,Nat.le_of_eq (vW _ _),trivial,fun b hb=>absurd (show b∈([]:List Addr) from hb) (by simp),hok,.of_eq hg⟩
  refine codeAny_mono ((F _ hKb (nsK hns)).run callerA [] s₁ H ⟨[.ref a],[]⟩ [.ref a] [.ref a] _ _ hr e0 (hbind s₁ (.ref a)) (.cons rfl .nil) (hsp H hO hS)) fun r s' h=>?_
  cases r with
  | error e=>exact (hCX H e s' h).elim
  | ok fl=>
   cases fl with
   | next=>exact False.elim h
   | brk=>exact False.elim h
   | cont=>exact False.elim h
   | ret u=>
    obtain ⟨v,H',os,bare,un,LB,r',q⟩:=h
    have q':v=.bl true:=q
    subst q'
    obtain rfl:u=Value.bool true:=r'
    refine ⟨rfl,OldK.of_keep fun b o e=>?_,os,bare⟩
    cases q:H b with
    | none=>exact un.keep b o e q (by intro z;exact absurd (show b∈([]:List Addr) from z) (by simp)) (by simp)
    | some u=>
     rcases hO b with z | ⟨ob,xs,z⟩
     ·rw [q] at z;cases z
     ·have z2:=un.nG b ob _ z
      obtain ⟨e1,_⟩:=hok b _ z
      obtain ⟨e2,_⟩:=LB b _ z2
      rw [e] at e1;cases e1
      exact e2
 cases hk:K.lookup a with
 | some o=>
  have e:=KX a o hk
  rw [ha] at e
  cases e
  refine core (fun _=>none) (fun _=>.inl rfl) (.inr ⟨_,vs.toArray,_,hk,rfl,rfl,rfl,by rw [List.size_toArray,LA];exact hl,by simpa using rv⟩) (fun b u z=>by have z':(none:Option HO)=some u:=z;cases z') (fun b z=>absurd rfl z) fun z=>absurd rfl z
 | none=>
  refine core (fun b=>if b=a then some (.frz { cls:=.type "list",data:=.seq vs.toArray } (.lst (ns.map V.int))) else none) (fun b=>?_) (.inl (.inr ⟨{ cls:=.type "list",data:=.seq vs.toArray },if_pos rfl⟩)) (fun b u z=>?_) (fun b z=>?_) fun _=>hk
  ·by_cases hb:b=a
   ·exact .inr ⟨_,_,if_pos hb⟩
   ·exact .inl (if_neg hb)
  ·by_cases hb:b=a
   ·have z':=(if_pos hb).symm.trans z
    cases z'
    subst hb
    exact ⟨ha,by rw [List.length_map];exact hl,vs,_,rv,ha⟩
   ·have z':=(if_neg hb).symm.trans z
    cases z'
  ·by_cases hb:b=a
   ·exact hb
   ·exact absurd (if_neg hb) z
theorem BP {l:PySem.W.OpenLaw} {n k:Nat} {q:Program} {loose:List Str} {XP:(Str→Option Value)→Heap→Prop} {YP:World→Heap→Prop} {d:DefRec} {K:Params→PySem.W.Frag} {CX:World→CXT} {sp:World→Sp} {x:Str}
  (hn:l.most=some n) (hn2:n≤sizeLine) (hdf:d.params.defaults=[]) (hr:bf k callerA)
  (hY:∀ (w:World) (h:Heap),YP w h→(K w.params).In h)
  (F:∀ (w:World) (mg:Str→Option Value) (fa:Addr) (h:Heap),(K w.params).In h→h.Ns mainGlobals mg→mg d.name=some (.ref fa) →
   ∃ fd:FuncData,(∀ (s:Shared) (u:Value),BindsTo s fd ⟨[u],[]⟩ [(x,u)]) ∧
    ∀ base:Heap,(K w.params).In base→base.Ns mainGlobals mg→aQ l.prog w (K w.params) mg base (CX w) k fa fd [x] (sp w))
  (hsp:∀ (w:World) (H:Hp) (a:Addr) (ns:List Int),ns.length≤n→FW H→SqL (K w.params) H a (ns.map V.int)→sp w [.ref a] H (fun v _=>v=.bl true) fun _ _ _=>False)
  (hCX:∀ (w:World) (H:Hp) (s:Shared) (e:Value) (s':Shared),CX w [] H s (fun _ _ _=>False) e s'→False) :
  PySem.W.WalkO q loose XP YP l.row.toRowW d [] (fun f vs=>PySem.call f vs):=by
 refine Att.pF hn hdf fun w s₀ s₁ mg mb fa o pm cd doc a vs ns G Y ho hd hcd hmg hobj hints hlen hg=>?_
 have KX:=hY w _ Y
 obtain ⟨fd,hb,hF⟩:=F w mg fa _ KX G.T.g hmg
 exact ye KX G.T.g G.T.b G.T.builtins G.T.nolimit hg hobj hints (Nat.le_trans hlen hn2) hr hF hb (fun H hO hS=>hsp w H a ns hlen hO hS) fun H e s'=>hCX w H s₁ e s'
noncomputable def aJ (s:Stmt):Arguments:=match s with
 | .FunctionDef _ a _ _ _ _ _ _ _ _=>a
 | _=>{ posonlyargs:=[],args:=[],vararg:=none,kwonlyargs:=[],kw_defaults:=[],kwarg:=none,defaults:=[] }
noncomputable def aI (s:Stmt):List Stmt:=match s with
 | .FunctionDef _ _ b _ _ _ _ _ _ _=>b
 | _=>[]
noncomputable def af (s:Stmt):Scope:=match s with
 | .FunctionDef _ _ _ _ _ _ sc _ _ _=>sc
 | _=>{ kind:=.function,names:=[],isGenerator:=false,isCoroutine:=false }
noncomputable abbrev CX0:CXT:=fun _ _ _ _ _ _=>False
noncomputable abbrev E0:XK:=fun _ _ _=>False
theorem pG {X:Cx}:Passes CX0 X E0:=fun _ _ _ _ _ _ _ h=>h.elim
structure Fun (K:PySem.W.Frag) (x qual:Str) (st:Stmt) (f:Addr) (fd:FuncData):Prop where
 ex:∃ (oc:Value) (od:Option Addr) (kV doc pm:Value) (an:Option Addr) (cdv ct:Value) (osl:Array (Option Value)),
  fd=PySem.W.fnOf x qual (aJ st) (aI st) (af st) .none kV doc pm an cdv ct∧K.lookup f=some ⟨oc,od,.func fd,osl⟩∧PySem.W.codeIn K cdv qual=true
 kp:PySem.W.keepIn K (.ref f)=true
section
variable {P:Program} {w:World} {K:PySem.W.Frag} {mg:Str→Option Value} {base:Heap}
theorem Fun.ok {x qual:Str} {st:Stmt} {f:Addr} {fd:FuncData} {N ps:List Str} {k:Nat} {sp:Sp} (F:Fun K x qual st f fd) (S:ao N ps (af st)) (len:∀ vs H Q E,sp vs H Q E→vs.length=ps.length)
  (hbody:∀ (cdv:Value) (A:Around) (outer:List Env) (s:Shared) (H:Hp) (vs:List V) (Q:VK) (E:XK),bf k (A.deeper (envOfC qual (af st) s.heap.objs.size f cdv))→sp vs H Q E →
   ∃ t,PSs (rY CX0 P w K mg base N qual (af st) f cdv A outer s H E).nox (aI st) t∧t { nx:=fun _ H'=>Q .non H',rt:=Q } (start N vs) H):aQ P w K mg base CX0 (k+1) f fd ps sp:=by
 obtain ⟨oc,od,kV,doc,pm,an,cdv,ct,osl,rfl,lk,hcd⟩:=F.ex
 refine DL lk hcd S len fun A outer s H vs Q E hr hsp=>?_
 obtain ⟨t,h,q⟩:=hbody cdv A outer s H vs Q E hr hsp
 exact ⟨t,h.nox,q⟩
theorem Fun.binds {x qual:Str} {st:Stmt} {f:Addr} {fd:FuncData} {ps:List Str} (F:Fun K x qual st f fd)
  (h:∀ (kV doc pm:Value) (an:Option Addr) (cdv ct:Value) (us:List Value),us.length=ps.length→bindArgs (PySem.W.fnOf x qual (aJ st) (aI st) (af st) .none kV doc pm an cdv ct) ⟨us,[]⟩=pure (ps.zip us)):Binds K fd ps []:=by
 obtain ⟨oc,od,kV,doc,pm,an,cdv,ct,osl,rfl,lk,hcd⟩:=F.ex
 exact .all (h kV doc pm an cdv ct)
theorem FY {x qual:Str} {st:Stmt} {f:Addr} {oc:Value} {od an:Option Addr} {osl:Array (Option Value)} {kV doc pm cdv ct:Value} (l:K.lookup f=some ⟨oc,od,.func (PySem.W.fnOf x qual (aJ st) (aI st) (af st) .none kV doc pm an cdv ct),osl⟩)
  (c:PySem.W.codeIn K cdv qual=true) (k:PySem.W.keepIn K (.ref f)=true):Fun K x qual st f (PySem.W.fnOf x qual (aJ st) (aI st) (af st) .none kV doc pm an cdv ct):=⟨⟨oc,od,kV,doc,pm,an,cdv,ct,osl,rfl,l,c⟩,k⟩
end
section
variable {X:Cx}
end
noncomputable def ak (H H':Hp):Prop:=∀ b o,H b=some o→H' b=some o
theorem ak.refl (H:Hp):ak H H:=fun _ _ h=>h
theorem ak.trans {H H1 H2:Hp} (a:ak H H1) (b:ak H1 H2):ak H H2:=fun c o h=>b c o (a c o h)
theorem ak.free {H H':Hp} (e:ak H H') {l:Addr} (h:H' l=Option.none):H l=Option.none:=by
 cases q:H l with
 | none=>rfl
 | some o=>
  rw [e l o q] at h
  cases h
section
variable {κ:Type} [DecidableEq κ]
noncomputable def fF (kvs:List (κ×V)) (k:κ):Option V:=(kvs.find? fun kv=>decide (kv.1=k)).map (·.2)
noncomputable def putK (kvs:List (κ×V)) (k:κ) (v:V):List (κ×V):=
 if (kvs.any fun kv=>decide (kv.1=k))=true then kvs.map (fun kv=>if kv.1=k then (kv.1,v) else kv) else kvs++[(k,v)]
noncomputable def jb (kvs:List (κ×V)) (k:κ):List (κ×V):=kvs.filter fun kv=>decide (kv.1≠k)
theorem gS {p:κ×V} {r:List (κ×V)} {k:κ} (e:p.1=k):fF (p::r) k=some p.2:=by simp [fF,List.find?_cons,e]
theorem gT {p:κ×V} {r:List (κ×V)} {k:κ} (e:¬ p.1=k):fF (p::r) k=fF r k:=by simp [fF,List.find?_cons,e]
theorem pH (k:κ):∀ kvs:List (κ×V),(kvs.any fun kv=>decide (kv.1=k))=(fF kvs k).isSome
 | []=>rfl
 | p::r=>by
  rw [List.any_cons]
  by_cases e:p.1=k
  ·simp only [gS e,decide_eq_true e,Bool.true_or,Option.isSome_some]
  ·rw [gT e,decide_eq_false e,Bool.false_or];exact pH k r
theorem d7 (kvs:List (κ×V)) (k:κ) (v:V):(putK kvs k v).length≤kvs.length+1:=by
 unfold putK
 split
 ·rw [List.length_map];omega
 ·rw [List.length_append,List.length_cons,List.length_nil];omega
theorem gM.cV {o:Option V} {u:Option Value} (r:gM o u):o.isSome=u.isSome:=by
 cases o with
 | none=>cases u with
  | none=>rfl
  | some _=>exact (show False from r).elim
 | some _=>cases u with
  | none=>exact (show False from r).elim
  | some _=>rfl
theorem gM.getD {o:Option V} {u:Option Value} {d:V} {d':Value} (r:gM o u) (rd:RelV d d'):RelV (o.getD d) (u.getD d'):=by
 cases o with
 | none=>cases u with
  | none=>exact rd
  | some _=>exact (show False from r).elim
 | some _=>cases u with
  | none=>exact (show False from r).elim
  | some _=>exact r
theorem KV.val {kvs:List (κ×V)} {vs:List (κ×Value)} (r:KV kvs vs) (k:κ):gM (fF kvs k) (valueAt vs k):=by
 unfold KV at r
 induction r with
 | nil=>exact True.intro
 | @cons p q ps qs h t ih=>
  obtain ⟨h1,h2⟩:=h
  by_cases e:p.1=k
  ·have e':q.1=k:=h1.symm.trans e
   have b:valueAt (q::qs) k=some q.2:=by simp [valueAt,List.find?_cons,e']
   rw [gS e,b];exact h2
  ·have e':¬ q.1=k:=fun z=>e (h1.trans z)
   have b:valueAt (q::qs) k=valueAt qs k:=by simp [valueAt,List.find?_cons,e']
   rw [gT e,b];exact ih
theorem KV.any {kvs:List (κ×V)} {vs:List (κ×Value)} (r:KV kvs vs) (k:κ):(kvs.any fun kv=>decide (kv.1=k))=vs.any fun kv=>decide (kv.1=k):=by
 unfold KV at r
 induction r with
 | nil=>rfl
 | cons h t ih=>rw [List.any_cons,List.any_cons,ih,h.1]
theorem KV.repl {kvs:List (κ×V)} {vs:List (κ×Value)} (r:KV kvs vs) (k:κ) {y:V} {u:Value} (ry:RelV y u) :
  KV (kvs.map fun kv=>if kv.1=k then (kv.1,y) else kv) (vs.map fun kv=>if kv.1=k then (kv.1,u) else kv):=by
 unfold KV at r ⊢
 induction r with
 | nil=>exact .nil
 | @cons p q ps qs h t ih=>
  rw [List.map_cons,List.map_cons]
  refine .cons ?_ ih
  obtain ⟨h1,h2⟩:=h
  by_cases e:p.1=k
  ·rw [if_pos e,if_pos (h1.symm.trans e)];exact ⟨h1,ry⟩
  ·rw [if_neg e,if_neg (fun z=>e (h1.trans z))];exact ⟨h1,h2⟩
theorem KV.put {kvs:List (κ×V)} {vs:List (κ×Value)} (r:KV kvs vs) (k:κ) {y:V} {u:Value} (ry:RelV y u):KV (putK kvs k y) (stored vs k u):=by
 unfold putK stored
 rw [r.any k]
 by_cases e:(vs.any fun kv=>decide (kv.1=k))=true
 ·rw [if_pos e,if_pos e];exact r.repl k ry
 ·rw [if_neg e,if_neg e];exact Paired.snoc r ⟨rfl,ry⟩
theorem KV.drop {kvs:List (κ×V)} {vs:List (κ×Value)} (r:KV kvs vs) (k:κ):KV (jb kvs k) (without vs k):=by
 unfold KV at r ⊢
 unfold jb without
 induction r with
 | nil=>exact .nil
 | @cons p q ps qs h t ih=>
  obtain ⟨h1,h2⟩:=h
  rw [List.filter_cons,List.filter_cons]
  by_cases e:p.1=k
  ·have a:¬ decide (p.1≠k)=true:=by simp [e]
   have b:¬ decide (q.1≠k)=true:=by simp [h1.symm.trans e]
   rw [if_neg a,if_neg b];exact ih
  ·have e':¬ q.1=k:=fun z=>e (h1.trans z)
   have a:decide (p.1≠k)=true:=by simp [e]
   have b:decide (q.1≠k)=true:=by simp [e']
   rw [if_pos a,if_pos b];exact .cons ⟨h1,h2⟩ ih
theorem KV.length {kvs:List (κ×V)} {vs:List (κ×Value)} (r:KV kvs vs):kvs.length=vs.length:=Paired.length r
theorem yf (kvs:List (κ×V)) (k:κ):(jb kvs k).length≤kvs.length:=List.length_filter_le _ _
end
theorem jc {P:Program} {w:World} {k:Key} {u:Value} (r:RelV (kV k) u):(aT P w).is k u=true:=by
 cases k with
 | inl i=>obtain ⟨t,e⟩:=(show ∃ t,u=Value.int i t from r);subst e;exact o8 P w i t
 | inr x=>obtain ⟨t,e⟩:=(show ∃ t,u=Value.str x t from r);subst e;exact o9 P w x t
theorem mY {P:Program} {w:World}:∀ {ks:List Key} {us:List Value},Vals (ks.map kV) us→ItemsAre (aT P w) ks us
 | [],_,r=>by rw [List.map_nil] at r;cases r;exact .nil
 | k::ks,_,r=>by
  rw [List.map_cons] at r
  cases r with
  | cons h t=>exact .cons (jc h) (mY t)
noncomputable abbrev KT (H:Hp):List (List Key×V)→List (List Key×Addr×Value)→Prop:=Paired fun p q=>p.1=q.1∧H q.2.1=some (.tup (p.1.map kV))∧RelV p.2 q.2.2
theorem KT.val {H:Hp} {kvs:List (List Key×V)} {xs:List (List Key×Addr×Value)} (r:KT H kvs xs) (k:List Key):gM (fF kvs k) ((atKey xs k).map (·.2)):=by
 induction r with
 | nil=>exact True.intro
 | @cons p q ps qs h t ih=>
  obtain ⟨h1,_,h2⟩:=h
  by_cases e:p.1=k
  ·have e':q.1=k:=h1.symm.trans e
   have b:atKey (q::qs) k=some q.2:=by simp [atKey,List.find?_cons,e']
   rw [gS e,b];exact h2
  ·have e':¬ q.1=k:=fun z=>e (h1.trans z)
   have b:atKey (q::qs) k=atKey qs k:=by simp [atKey,List.find?_cons,e']
   rw [gT e,b];exact ih
theorem KT.repl {H:Hp} {kvs:List (List Key×V)} {xs:List (List Key×Addr×Value)} (r:KT H kvs xs) (k:List Key) {y:V} {u:Value} (ry:RelV y u) :
  KT H (kvs.map fun kv=>if kv.1=k then (kv.1,y) else kv) (xs.map (putAt k u)):=by
 induction r with
 | nil=>exact .nil
 | @cons p q ps qs h t ih=>
  rw [List.map_cons,List.map_cons]
  refine .cons ?_ ih
  obtain ⟨h1,h2,h3⟩:=h
  unfold putAt
  by_cases e:p.1=k
  ·rw [if_pos e,if_pos (h1.symm.trans e)];exact ⟨h1,h2,ry⟩
  ·rw [if_neg e,if_neg (fun z=>e (h1.trans z))];exact ⟨h1,h2,h3⟩
theorem KT.put {H:Hp} {kvs:List (List Key×V)} {xs:List (List Key×Addr×Value)} (r:KT H kvs xs) (k:List Key) {b:Addr} {y:V} {u:Value} (hb:H b=some (.tup (k.map kV))) (ry:RelV y u) :
  KT H (putK kvs k y) (storedH xs k b u):=by
 have e:(kvs.any fun kv=>decide (kv.1=k))=(atKey xs k).isSome:=by
  rw [pH,(r.val k).cV,Option.isSome_map]
 unfold putK storedH
 rw [e]
 by_cases q:(atKey xs k).isSome=true
 ·rw [if_pos q,if_pos q];exact r.repl k ry
 ·rw [if_neg q,if_neg q];exact Paired.snoc r ⟨rfl,hb,ry⟩
theorem KT.keeps {H H':Hp} {kvs:List (List Key×V)} {xs:List (List Key×Addr×Value)} (r:KT H kvs xs) (ht:∀ b ys,H b=some (.tup ys)→H' b=some (.tup ys)):KT H' kvs xs:=
 Paired.E1 r fun _ _ z=>⟨z.1,ht _ _ z.2.1,z.2.2⟩
section
variable {P:Program} {w:World} {H:Hp} {h:Heap} {a:Addr}
theorem DP {u:HO} (ok:HOk P w H h) (e:Rd H a u):aY P w H h a u:=e.ok ok
theorem jd {kvs:List (Key×V)} (ok:HOk P w H h) (e:Rd H a (.dK kvs)):kvs.length≤sizeLine∧(a == sysModules)=false∧∃ vs,KV kvs vs∧h.DictOf (aT P w) a vs:=
 show aY P w H h a (.dK kvs) from DP ok e
theorem uA {kvs:List (Key×V)} (ok:HOk P w H h) (e:H a=some (.dK kvs)):kvs.length≤sizeLine∧(a == sysModules)=false∧∃ vs,KV kvs vs∧h.DictOf (aT P w) a vs:=jd ok (.inl e)
theorem iH {ks:List Key} (ok:HOk P w H h) (e:H a=some (.tup (ks.map kV))):(tupleKind (aT P w)).is h ks a:=by
 obtain ⟨_,its,r,o,h1,h2,n,h3⟩:=(show aY P w H h a (.tup (ks.map kV)) from ok a _ e)
 exact ⟨o,its.toArray,n,h1,h2,h3,by simpa using mY r⟩
theorem jU {kvs:List (List Key×V)} (ok:HOk P w H h) (e:Rd H a (.dT kvs)):kvs.length≤sizeLine∧(a == sysModules)=false ∧
  ∃ xs,KT H kvs xs∧h.DictOfH (tupleKind (aT P w)) a xs:=by
 obtain ⟨z,y,xs,r,o,es,ep,h1,h2,h3,h4,h5⟩:=(show aY P w H h a (.dT kvs) from DP ok e)
 refine ⟨z,y,xs,r,o,es,ep,h1,h2,h3,h4,fun x hx=>?_,h5⟩
 have all:∀ {l:List (List Key×V)} {m:List (List Key×Addr×Value)},KT H l m→∀ x∈m,(tupleKind (aT P w)).is h x.1 x.2.1:=by
  intro l m q
  induction q with
  | nil=>intro x hx;exact nomatch hx
  | @cons p q ps qs hq t ih=>
   intro x hx
   rcases List.mem_cons.mp hx with e | hx
   ·subst e
    exact iH ok (by rw [← hq.1];exact hq.2.1)
   ·exact ih x hx
 exact all r x hx
theorem Jj {kvs:List (List Key×V)} (ok:HOk P w H h) (e:H a=some (.dT kvs)):kvs.length≤sizeLine∧(a == sysModules)=false ∧
  ∃ xs,KT H kvs xs∧h.DictOfH (tupleKind (aT P w)) a xs:=jU ok (.inl e)
end
noncomputable def dU (H:Hp) (a:Addr) (y:V) (r:Option V):Prop:=
 (∃ kvs k,Rd H a (.dK kvs)∧y=kV k∧r=fF kvs k)∨∃ kvs k b,Rd H a (.dT kvs)∧y=.ref b∧H b=some (.tup (k.map kV))∧r=fF kvs k
noncomputable def yg (H:Hp) (a:Addr) (y v:V) (H':Hp):Prop:=
 (∃ kvs k,H a=some (.dK kvs)∧y=kV k∧kvs.length<sizeLine∧H'=upd H a (.dK (putK kvs k v))) ∨
 ∃ kvs k b,H a=some (.dT kvs)∧y=.ref b∧H b=some (.tup (k.map kV))∧kvs.length<sizeLine∧H'=upd H a (.dT (putK kvs k v))
theorem dU.k {H:Hp} {a:Addr} {kvs:List (Key×V)} {k:Key} (e:H a=some (.dK kvs)):dU H a (kV k) (fF kvs k):=.inl ⟨kvs,k,.inl e,rfl,rfl⟩
theorem yg.k {H:Hp} {a:Addr} {kvs:List (Key×V)} {k:Key} {v:V} (e:H a=some (.dK kvs)) (hl:kvs.length<sizeLine):yg H a (kV k) v (upd H a (.dK (putK kvs k v))):=.inl ⟨kvs,k,e,rfl,hl,rfl⟩
section
variable {X:Cx} {pins:List (Addr×Obj)} {σ:St} {H:Hp} {s:Shared} {a:Addr} {y v:V} {u r:Value} {o:Option V} {A:Around} {E:Value→Shared→Prop}
theorem Inv.big (I:Inv X pins σ H s):sysModules<s.heap.objs.size:=by
 have h:mainGlobals<s.heap.objs.size:=(I.mod.glob.keeps I.bk).lt
 exact Nat.lt_trans (by decide) h
theorem wA {Q:Value→Shared→Prop} (hu:A.units+1<cLine) (I:Inv X pins σ H s) (g:dU H a y (some v)) (ry:RelV y u) (h:∀ w' s',Inv X pins σ H s'→RelV v w'→Q w' s') :
  wpAny (model X.prog X.w) A (getItem (.ref a) u) Q E s:=by
 rcases g with ⟨kvs,k,e,ey,l⟩ | ⟨kvs,k,b,e,ey,eb,l⟩
 ·subst ey
  obtain ⟨z,hd,vs,rel,dd⟩:=jd I.hok e
  obtain ⟨w',hw,rw'⟩:=gM.some_of (v:=v) (o:=valueAt vs k) (by rw [l];exact rel.val k)
  exact wpAny_getItem_of (jc ry) dd.mapOf hw (h w' _ (I.tok _) rw')
 ·subst ey
  cases (show u=Value.ref b from ry)
  obtain ⟨z,hd,xs,rel,dd⟩:=jU I.hok e
  obtain ⟨w',hw,rw'⟩:=gM.some_of (v:=v) (o:=(atKey xs k).map (·.2)) (by rw [l];exact rel.val k)
  obtain ⟨p,hp,hp2⟩:=Option.map_eq_some_iff.mp hw
  refine wpAny_getItem_heap (tupleKind_room_in1 hu) (iH I.hok eb) dd hp ?_
  rw [hp2]
  exact h w' _ (I.tok _) rw'
theorem wB {Q:Value→Shared→Prop} (hu:A.units+1<cLine) (I:Inv X pins σ H s) (g:dU H a y o) (ry:RelV y u) (h:∀ s',Inv X pins σ H s'→Q (.bool o.isSome) s') :
  wpAny (model X.prog X.w) A (compareOp .In u (.ref a)) Q E s:=by
 rcases g with ⟨kvs,k,e,ey,l⟩ | ⟨kvs,k,b,e,ey,eb,l⟩
 ·subst ey
  obtain ⟨z,hd,vs,rel,dd⟩:=jd I.hok e
  refine wpAny_in_of (jc ry) hd dd.mapOf ?_
  rw [← (rel.val k).cV,← l]
  exact h _ (I.tok _)
 ·subst ey
  cases (show u=Value.ref b from ry)
  obtain ⟨z,hd,xs,rel,dd⟩:=jU I.hok e
  refine wpAny_in_heap (tupleKind_room_in1 hu) (iH I.hok eb) hd dd ?_
  have q:=(rel.val k).cV
  rw [Option.isSome_map] at q
  rw [← q,← l]
  exact h _ (I.tok _)
theorem BQ {Q:Value→Shared→Prop} (hu:A.units+1<cLine) (I:Inv X pins σ H s) (g:dU H a y o) (ry:RelV y u) (h:∀ s',Inv X pins σ H s'→Q (.bool (!o.isSome)) s') :
  wpAny (model X.prog X.w) A (compareOp .NotIn u (.ref a)) Q E s:=by
 rcases g with ⟨kvs,k,e,ey,l⟩ | ⟨kvs,k,b,e,ey,eb,l⟩
 ·subst ey
  obtain ⟨z,hd,vs,rel,dd⟩:=jd I.hok e
  refine wpAny_notIn_of (jc ry) hd dd.mapOf ?_
  rw [← (rel.val k).cV,← l]
  exact h _ (I.tok _)
 ·subst ey
  cases (show u=Value.ref b from ry)
  obtain ⟨z,hd,xs,rel,dd⟩:=jU I.hok e
  refine wpAny_notIn_heap (tupleKind_room_in1 hu) (iH I.hok eb) hd dd ?_
  have q:=(rel.val k).cV
  rw [Option.isSome_map] at q
  rw [← q,← l]
  exact h _ (I.tok _)
theorem jI {h':Heap} {t':Nat} {ob:HO} (I:Inv X pins σ H s) (mu:Mut (H a)) (hs:Heap.SameBut a s.heap h') (he:∃ q,h'.get? a=some q) (new:aY X.prog X.w (upd H a ob) h' a ob) :
  Inv X pins σ (upd H a ob) { s with heap:=h',toks:=t' }:=
 I.write (x:=a) (e:=a) mu (.inl rfl) (fun b q hb z=>(hs.2 b hb).trans z) he new
theorem nR {P:Program} {w:World} {H':Hp} {h':Heap} {kvs:List (Key×V)} {vs:List (Key×Value)} (z:kvs.length≤sizeLine) (hd:(a == sysModules)=false) (rel:KV kvs vs) (dd:h'.DictOf (aT P w) a vs) :
  aY P w H' h' a (.dK kvs):=⟨z,hd,vs,rel,dd⟩
theorem wC {H':Hp} {Q:Unit→Shared→Prop} (hu:A.units+1<cLine) (I:Inv X pins σ H s) (g:yg H a y v H') (ry:RelV y u) (rv:RelV v r) (h:∀ s',Inv X pins σ H' s'→Q () s') :
  wpAny (model X.prog X.w) A (setItem (.ref a) u r) Q E s:=by
 rcases g with ⟨kvs,k,e,ey,l,eH⟩ | ⟨kvs,k,b,e,ey,eb,l,eH⟩
 ·subst ey eH
  obtain ⟨z,hd,vs,rel,dd⟩:=uA I.hok e
  have hz:vs.length≤sizeLine:=by rw [← rel.length];exact z
  have hl:(putK kvs k v).length≤sizeLine:=by have:=d7 kvs k v;omega
  refine wpAny_setItem_pairs (hsz:=hz) (jc ry) dd fun h' dd' hs=>h _ ?_
  have he:∃ q,h'.get? a=some q:=let ⟨q,_,_,hq,_⟩:=dd';⟨q,hq⟩
  exact jI I (by rw [e];exact True.intro) hs he (nR hl hd (rel.put k rv) dd')
 ·subst ey eH
  cases (show u=Value.ref b from ry)
  obtain ⟨z,hd,xs,rel,dd⟩:=Jj I.hok e
  have hz:xs.length≤sizeLine:=by rw [← Paired.length rel];exact z
  have hl:(putK kvs k v).length≤sizeLine:=by have:=d7 kvs k v;omega
  refine wpAny_setItem_heap (hsz:=hz) (tupleKind_room_in1 hu) (iH I.hok eb) dd fun h' dd' hs=>h _ ?_
  obtain ⟨q,es,ep,hq,h2,h3,h4,_,h5⟩:=dd'
  refine jI I (by rw [e];exact True.intro) hs ⟨q,hq⟩ ⟨hl,hd,_,(rel.put k eb rv).keeps fun c ys ec=>?_,q,es,ep,hq,h2,h3,h4,h5⟩
  rw [av (IV ec e (fun z=>nomatch z))]
  exact ec
end
section
variable {X:Cx} {pins:List (Addr×Obj)} {σ:St} {H:Hp} {s:Shared} {a:Addr} {kvs:List (Key×V)} {k:Key} {u:Value} {A:Around} {E:Value→Shared→Prop}
theorem Jk {v:V} {more:List Value} {Q:Value→Shared→Prop} (I:Inv X pins σ H s) (e:H a=some (.dK kvs)) (ry:RelV (kV k) u) (l:fF kvs k=some v) (hm:more=[]∨∃ x,more=[x])
  (h:∀ w' s',Inv X pins σ (upd H a (.dK (jb kvs k))) s'→RelV v w'→Q w' s'):wpAny (model X.prog X.w) A (call (.builtin "dict.pop") (.ref a::u::more)) Q E s:=by
 obtain ⟨z,hd,vs,rel,dd⟩:=uA I.hok e
 obtain ⟨w',hw,rw'⟩:=gM.some_of (v:=v) (o:=valueAt vs k) (by rw [← l];exact rel.val k)
 have hp:(keyPart u).isSome=true:=by
  cases k with
  | inl i=>obtain ⟨t,q⟩:=(show ∃ t,u=Value.int i t from ry);subst q;rfl
  | inr x=>obtain ⟨t,q⟩:=(show ∃ t,u=Value.str x t from ry);subst q;rfl
 have ha:argsOk "dict.pop" ⟨.ref a::u::more,[]⟩:=by
  rcases hm with q | ⟨x,q⟩
  ·subst q;exact PySem.F.args_dict_pop_2 _ _
  ·subst q;exact PySem.F.args_dict_pop_3 _ _ _
 refine call_meetsIn PySem.F.slot_dict_pop dd.typeIs PySem.F.entry_dict_pop ha (meets_dict_pop_there (aT X.prog X.w) a (jc ry) more hm hp)
  ⟨vs,w',dd,by rw [← rel.length];exact z,hw,fun h' dd' hs=>h w' _ ?_ rw'⟩
 have he:∃ q,h'.get? a=some q:=let ⟨q,_,_,hq,_⟩:=dd';⟨q,hq⟩
 exact jI I (by rw [e];exact True.intro) hs he (nR (Nat.le_trans (yf kvs k) z) hd (rel.drop k) dd')
end
noncomputable def FZ (i:Expr):Prop:=∀ ov iv,subscripted i false ov iv=operate [ov,iv] (getItem ov iv)
theorem BR {prog:Program} {w:World} {A:Around} {E:Value→Shared→Prop} {s:Shared} {env:Env} {value slice:Expr} {pos:Pos} {T id:String} {Q:Value→Shared→Prop}
  (hl:typeLookup (.type T) "__getitem__" = pure (some (.builtin id))) (hs:FZ slice)
  (h:wpAny (model prog w) A (eval value env) (fun o s₁=>wpAny (model prog w) A (eval slice env) (fun i s₂=>s₂.TypeIs o T∧wpAny (model prog w) A (getItem o i) Q E s₂) E s₁) E s) :
  wpAny (model prog w) A (eval (.Subscript value slice pos) env) Q E s:=by
 refine Subscript_ (wpAny_mono h (fun o s₁ h₁=>wpAny_mono h₁ (fun i s₂ h₂=>?_) fun _ _ x=>x) fun _ _ x=>x)
 obtain ⟨hT,h₂⟩:=h₂
 unfold subscriptTail
 refine wpAny_bind ?_
 rw [getitemInPython_of_ne hT.not_modules]
 refine wpAny_bind (wpAny_specialOf hT hl ?_)
 have fin:wpAny (model prog w) A (subscripted slice false o i) (fun r s₃=>wpAny (model prog w) A (letTemporaryGo value o r >>= fun _=>pure r) Q E s₃) E s₂:=by
  rw [hs o i]
  exact wpAny_operating (wpAny_mono h₂ (fun r s₃ h₃=>wpAny_bind (wpAny_letTemporaryGo (wpAny_pure h₃))) fun _ _ x=>x)
 first
  | exact wpAny_pure (wpAny_bind fin)
  | exact wpAny_bind (wpAny_pure (wpAny_bind fin))
  | exact wpAny_bind fin
theorem pI {X:Cx} {pins:List (Addr×Obj)} {σ:St} {H:Hp} {s:Shared} {a:Addr} {y:V} {o:Option V} (I:Inv X pins σ H s) (g:dU H a y o):s.TypeIs (.ref a) "dict" := by
 rcases g with ⟨kvs,k,e,_,_⟩ | ⟨kvs,k,b,e,_,_,_⟩
 ·obtain ⟨_,_,vs,_,dd⟩:=jd I.hok e
  exact dd.typeIs
 ·obtain ⟨_,_,xs,_,dd⟩:=jU I.hok e
  exact dd.typeIs
noncomputable def Jl (td ty:TE):TE:=fun σ H Q=>td σ H fun x H1=>ty σ H1 fun y H2=>∃ a v,x=.ref a∧dU H2 a y (some v)∧Q v H2
noncomputable def LC (ty td:TE):TE:=fun σ H Q=>ty σ H fun y H1=>td σ H1 fun x H2=>∃ a o,x=.ref a∧dU H2 a y o∧Q (.bl o.isSome) H2
noncomputable def BS (ty td:TE):TE:=fun σ H Q=>ty σ H fun y H1=>td σ H1 fun x H2=>∃ a o,x=.ref a∧dU H2 a y o∧Q (.bl (!o.isSome)) H2
noncomputable def DQ (td ty tv:TE):TS:=fun D σ H=>tv σ H fun v H1=>td σ H1 fun x H2=>ty σ H2 fun y H3=>∃ a H4,x=.ref a∧yg H3 a y v H4∧D.nx σ H4
section
variable {X:Cx} {o i e value:Expr} {pos pos' tpos:Pos} {td ty tv:TE}
theorem BU (hu:X.A.units+1<cLine) (ho:PE X o td) (hi:PE X i ty) (hs:FZ i):PE X (.Subscript o i pos) (Jl td ty):=by
 intro pins s σ H Q I h
 refine BR PySem.F.slot_dict_getitem.lookup hs (thn (ho pins s σ H _ I h) fun u s1 ⟨x,H1,I1,rx,q1⟩=>thn (hi pins s1 σ H1 _ I1 q1) fun iv s2 ⟨y,H2,I2,ry,a,v,ex,g,q2⟩=>?_)
 subst ex
 obtain rfl:u=Value.ref a:=rx
 exact ⟨pI I2 g,wA hu I2 g ry fun w' s3 I3 rw'=>⟨v,H2,I3,rw',q2⟩⟩
theorem F0 (hu:X.A.units+1<cLine) (hi:PE X i ty) (ho:PE X o td):PC X .In i o (LC ty td):=by
 intro pins s σ H Q I h
 refine thn (hi pins s σ H _ I h) fun iv s1 ⟨y,H1,I1,ry,q1⟩=>thn (ho pins s1 σ H1 _ I1 q1) fun u s2 ⟨x,H2,I2,rx,a,ov,ex,g,q2⟩=>?_
 subst ex
 obtain rfl:u=Value.ref a:=rx
 exact wB hu I2 g ry fun s3 I3=>⟨.bl ov.isSome,H2,I3,rfl,q2⟩
theorem wD (hu:X.A.units+1<cLine) (hi:PE X i ty) (ho:PE X o td):PC X .NotIn i o (BS ty td):=by
 intro pins s σ H Q I h
 refine thn (hi pins s σ H _ I h) fun iv s1 ⟨y,H1,I1,ry,q1⟩=>thn (ho pins s1 σ H1 _ I1 q1) fun u s2 ⟨x,H2,I2,rx,a,ov,ex,g,q2⟩=>?_
 subst ex
 obtain rfl:u=Value.ref a:=rx
 exact BQ hu I2 g ry fun s3 I3=>⟨.bl (!ov.isSome),H2,I3,rfl,q2⟩
theorem BV (hu:X.A.units+1<cLine) (ho:PE X o td) (hi:PE X i ty) (hv:PE X value tv) (hs:swapsWith value (some (.Subscript o i pos')) pos.line X.env=pure false) :
  PS X (.Assign [.Subscript o i pos'] value pos) (DQ td ty tv):=by
 intro pins s σ H D I h
 refine wpAny_Assign_Subscript (thn (hv pins s σ H _ I h) fun r s1 ⟨v,H1,I1,rv,q1⟩=>thn (ho pins s1 σ H1 _ I1 q1) fun u s2 ⟨x,H2,I2,rx,q2⟩=>thn (hi pins s2 σ H2 _ I2 q2) fun iv s3 ⟨y,H3,I3,ry,a,H4,ex,g,q3⟩=>?_) hs
 subst ex
 obtain rfl:u=Value.ref a:=rx
 exact wC hu I3 g ry rv fun s4 I4=>⟨σ,H4,I4,q3⟩
end
theorem pJ {P:Program} {w:World} {H:Hp} (h:Heap) (hb:sysModules<h.objs.size):aY P w H (h.push { cls:=.type "dict",data:=.dict #[] }) h.objs.size (.dK []):=
 ⟨Nat.zero_le _,beq_eq_false_iff_ne.mpr (Ne.symm (Nat.ne_of_lt hb)),[],.nil,Heap.DictOf.new h⟩
noncomputable def yh:TE:=fun _ H Q=>∀ p,H p=none→Q (.ref p) (upd H p (.dK []))
section
variable {X:Cx} {pos:Pos}
theorem yi:PE X (.Dict [] [] pos) yh:=fun pins s σ H Q I h=>
 wpAny_Dict_empty ⟨.ref s.heap.objs.size,_,I.laid (a:=s.heap.objs.size) (o:=.dK []) (t':=s.toks) (fun _ _ q=>Heap.get?_push_of_some _ q) (Nat.le_refl _) (pJ s.heap I.big),rfl,h _ (I.hok.fresh (Nat.le_refl _))⟩
end
noncomputable def r8:List (TE×TE)→St→Hp→(List (V×V)→Hp→Prop)→Prop
 | [],_,H,Q=>Q [] H
 | (tk,tv)::r,σ,H,Q=>tk σ H fun x H1=>tv σ H1 fun y H2=>r8 r σ H2 fun ps H3=>Q ((x,y)::ps) H3
noncomputable abbrev VV:List (V×V)→List (Value×Value)→Prop:=Paired fun p q=>RelV p.1 q.1∧RelV p.2 q.2
noncomputable def PPs (X:Cx) (pos:Pos) (keys:List (Option Expr)) (values:List Expr) (trs:List (TE×TE)):Prop:=
 ∀ (pins:List (Addr×Obj)) (s:Shared) (σ:St) (H:Hp) (Q:List (V×V)→Hp→Prop),Inv X pins σ H s→r8 trs σ H Q →
  wpAny (model X.prog X.w) X.A (evalPairs (pairTrees keys values X.env pos)) (fun vs s'=>∃ ps H',Inv X pins σ H' s'∧VV ps vs∧Q ps H') X.xe s
theorem BW {X:Cx} {pos:Pos}:PPs X pos [] [] []:=fun pins s σ H Q I h=>pairTrees_nil_walk ⟨[],H,I,.nil,h⟩
theorem yj {X:Cx} {pos:Pos} {k v:Expr} {ks:List (Option Expr)} {vs:List Expr} {tk tv:TE} {trs:List (TE×TE)} (hk:PE X k tk) (hv:PE X v tv) (hr:PPs X pos ks vs trs) :
  PPs X pos (some k::ks) (v::vs) ((tk,tv)::trs):=fun pins s σ H Q I h=>
 pairTrees_cons_walk (thn (hk pins s σ H _ I h) fun u s1 ⟨x,H1,I1,rx,q1⟩=>thn (hv pins s1 σ H1 _ I1 q1) fun w2 s2 ⟨y,H2,I2,ry,q2⟩=>
  thn (hr pins s2 σ H2 _ I2 q2) fun ws s3 ⟨ps,H3,I3,rel,q3⟩=>⟨(x,y)::ps,H3,I3,.cons ⟨rx,ry⟩ rel,q3⟩)
noncomputable def iI (kvs more:List (Key×V)):List (Key×V):=more.foldl (fun acc kv=>putK acc kv.1 kv.2) kvs
theorem KV.merge:∀ {more:List (Key×V)} {rs:List (Key×Value)} {kvs:List (Key×V)} {vs:List (Key×Value)},KV more rs→KV kvs vs→KV (iI kvs more) (merged vs rs):=by
 intro more rs kvs vs r
 unfold KV at r
 induction r generalizing kvs vs with
 | nil=>intro q;exact q
 | @cons p q ps qs h t ih=>
  intro r0
  have e:KV (putK kvs p.1 p.2) (stored vs q.1 q.2):=by
   have:=r0.put p.1 h.2
   rw [← h.1];exact this
  exact ih e
theorem fB:∀ (more kvs:List (Key×V)),(iI kvs more).length≤kvs.length+more.length
 | [],kvs=>by show kvs.length≤kvs.length+0;omega
 | p::r,kvs=>by
  have h1:=fB r (putK kvs p.1 p.2)
  have h2:=d7 kvs p.1 p.2
  show (iI (putK kvs p.1 p.2) r).length≤_
  rw [List.length_cons];omega
theorem jV {P:Program} {w:World}:∀ {kvs:List (Key×V)} {ws:List (Value×Value)},VV (kvs.map fun kv=>(kV kv.1,kv.2)) ws→∃ rs,Carries (aT P w) ws rs∧KV kvs rs
 | [],_,r=>by rw [List.map_nil] at r;cases r;exact ⟨[],True.intro,.nil⟩
 | p::kvs,_,r=>by
  rw [List.map_cons] at r
  cases r with
  | @cons a b as bs h t=>
   obtain ⟨rs,c,q⟩:=jV (P:=P) (w:=w) t
   obtain ⟨b1,b2⟩:=b
   exact ⟨(p.1,b2)::rs,⟨jc h.1,rfl,c⟩,.cons ⟨rfl,h.2⟩ q⟩
noncomputable def DR (trs:List (TE×TE)):TE:=fun σ H Q=>∀ p,H p=none→r8 trs σ (upd H p (.dK [])) fun ps H2=>H2 p=some (.dK [])∧∃ kvs:List (Key×V),ps=kvs.map (fun kv=>(kV kv.1,kv.2))∧kvs.length≤15∧Q (.ref p) (upd H2 p (.dK (iI [] kvs)))
theorem BX {X:Cx} {pos:Pos} {keys:List (Option Expr)} {values:List Expr} {trs:List (TE×TE)} (h:PPs X pos keys values trs) (hall:keys.all (·.isSome)=true) (hl:keys.length=values.length) (h0:keys≠[])
  (h15:keys.length≤15):PE X (.Dict keys values pos) (DR trs):=by
 intro pins s σ H Q I q
 have hn:=I.hok.fresh (Nat.le_refl s.heap.objs.size)
 have I1:=I.laid (a:=s.heap.objs.size) (o:=.dK []) (h':=s.heap.push { cls:=.type "dict",data:=.dict #[] }) (t':=s.toks) (fun _ _ q=>Heap.get?_push_of_some _ q) (Nat.le_refl _) (pJ s.heap I.big)
 refine wpAny_Dict_walk (knd:=aT X.prog X.w) hall hl h0 h15 (thn (h pins _ σ _ _ I1 (q _ hn)) fun ws s2 ⟨ps,H2,I2,rel,e,kvs,ep,lk,q2⟩=>?_)
 subst ep
 obtain ⟨rs,c,rk⟩:=jV (P:=X.prog) (w:=X.w) rel
 obtain ⟨z,hd,vs0,r0,dd⟩:=uA I2.hok e
 cases r0
 refine ⟨rs,c,dd,fun h' dd' hs=>⟨.ref s.heap.objs.size,_,?_,rfl,q2⟩⟩
 have hz:(iI [] kvs).length≤sizeLine:=by
  have h1:=fB kvs []
  rw [List.length_nil] at h1
  rw [sizeLine_eq];omega
 have he:∃ q,h'.get? s.heap.objs.size=some q:=let ⟨q,_,_,hq,_⟩:=dd';⟨q,hq⟩
 exact jI I2 (by rw [e];exact True.intro) hs he (nR hz hd (rk.merge .nil) dd')
structure M1 (X:Cx) (o:Expr) (m:Str) (apos:Pos) (e:Expr) (cpos:Pos):Prop where
 base:attributeBase o m X.env (eval o X.env)=eval o X.env
 few:((backTo cpos (starEach [e] X.env)).all (fun x=>!x.1)&&(backToKw cpos (keywordEach [] X.env)).all (fun x=>x.1.isSome)
  && decide (([e]:List Expr).length+([]:List Keyword).length+(if ([]:List Keyword).isEmpty then 0 else 1)<30))=true
 line:(apos.endLine == cpos.line)=true
 trees:backTo cpos (starEach [e] X.env)=[(false,eval e X.env)]
noncomputable def IsD (H:Hp) (a:Addr):Prop:=(∃ kvs,Rd H a (.dK kvs))∨∃ kvs,Rd H a (.dT kvs)
theorem yk {X:Cx} {pins:List (Addr×Obj)} {σ:St} {H:Hp} {s:Shared} {a:Addr} (I:Inv X pins σ H s) (d:IsD H a) :
  s.TypeIs (.ref a) "dict" ∧ (∀ b,Value.ref a=.ref b→∃ ob,s.heap.get? b=some ob∧ob.dict=none)∧(a == sysModules)=false:=by
 rcases d with ⟨kvs,e⟩ | ⟨kvs,e⟩
 ·obtain ⟨_,hd,vs,_,dd⟩:=jd I.hok e
  refine ⟨dd.typeIs,fun b q=>?_,hd⟩
  cases q
  obtain ⟨ob,_,_,h1,h2,_⟩:=dd
  exact ⟨ob,h1,h2.2.1⟩
 ·obtain ⟨_,hd,xs,_,dd⟩:=jU I.hok e
  refine ⟨dd.typeIs,fun b q=>?_,hd⟩
  cases q
  obtain ⟨ob,_,_,h1,h2,_⟩:=dd
  exact ⟨ob,h1,h2.2.1⟩
section
variable {X:Cx} {pins:List (Addr×Obj)} {σ:St} {H:Hp} {s:Shared} {a:Addr} {y d:V} {u r:Value} {o:Option V} {A:Around} {E:Value→Shared→Prop}
theorem F1 {Q:Value→Shared→Prop} (hu:A.units+1<cLine) (I:Inv X pins σ H s) (g:dU H a y o) (ry:RelV y u) (h:∀ w' s',Inv X pins σ H s'→RelV (o.getD .non) w'→Q w' s') :
  wpAny (model X.prog X.w) A (call (.builtin "dict.get") [.ref a,u]) Q E s:=by
 rcases g with ⟨kvs,k,e,ey,l⟩ | ⟨kvs,k,b,e,ey,eb,l⟩
 ·subst ey
  obtain ⟨z,hd,vs,rel,dd⟩:=jd I.hok e
  refine call_meetsIn PySem.F.slot_dict_get dd.typeIs PySem.F.entry_dict_get (PySem.F.args_dict_get_2 _ _) (meets_dict_get (aT X.prog X.w) a (jc ry) hd) ⟨_,dd.mapOf,h _ _ (I.tok _) ?_⟩
  rw [l]
  exact (rel.val k).getD rfl
 ·subst ey
  cases (show u=Value.ref b from ry)
  obtain ⟨z,hd,xs,rel,dd⟩:=jU I.hok e
  refine call_meetsIn PySem.F.slot_dict_get dd.typeIs PySem.F.entry_dict_get (PySem.F.args_dict_get_2 _ _) (meetsH_dict_get (tupleKind (aT X.prog X.w)) a b hd) ⟨tupleKind_room_in1 hu,k,xs,iH I.hok eb,dd,h _ _ (I.tok _) ?_⟩
  rw [l]
  exact (rel.val k).getD rfl
end
noncomputable def yl (td ty:TE):TE:=fun σ H Q=>td σ H fun x H1=>∃ a,x=.ref a∧IsD H1 a∧ty σ H1 fun y H2=>∃ o,dU H2 a y o∧Q (o.getD .non) H2
noncomputable def ym (td ty:TE):TE:=fun σ H Q=>td σ H fun x H1=>∃ a,x=.ref a∧IsD H1 a∧ty σ H1 fun y H2=>∃ kvs k v,H2 a=some (.dK kvs)∧y=kV k∧fF kvs k=some v∧Q v (upd H2 a (.dK (jb kvs k)))
section
variable {X:Cx} {o e f:Expr} {apos cpos:Pos} {td ty tx:TE}
theorem yo (hu:X.A.units+1<cLine) (ho:PE X o td) (he:PE X e ty) (m:M1 X o "get" apos e cpos):PE X (.Call (.Attribute o "get" apos) [e] [] cpos) (yl td ty):=by
 intro pins s σ H Q I h
 refine wpAny_Call_method m.base m.few m.line PySem.F.plainAttrs_dict PySem.F.slot_dict_get PySem.F.type_dict_get (thn (ho pins s σ H _ I h) fun u s1 ⟨x,H1,I1,rx,a,ex,d,q1⟩=>?_)
 subst ex
 obtain rfl:u=Value.ref a:=rx
 obtain ⟨t1,t2,_⟩:=yk I1 d
 refine ⟨t1,t2,?_⟩
 rw [m.trees]
 refine Calls.callWith_builtin rfl (Calls.evalArgs_plain (Calls.spliced_cons (thn (he pins s1 σ H1 _ I1 q1) fun iv s2 ⟨y,H2,I2,ry,ov,g,q2⟩=>Calls.spliced_nil ?_)))
 exact F1 hu I2 g ry fun w' s3 I3 rw'=>⟨_,H2,I3,rw',q2⟩
theorem yp (ho:PE X o td) (he:PE X e ty) (m:M1 X o "pop" apos e cpos):PE X (.Call (.Attribute o "pop" apos) [e] [] cpos) (ym td ty):=by
 intro pins s σ H Q I h
 refine wpAny_Call_method m.base m.few m.line PySem.F.plainAttrs_dict PySem.F.slot_dict_pop PySem.F.type_dict_pop (thn (ho pins s σ H _ I h) fun u s1 ⟨x,H1,I1,rx,a,ex,d,q1⟩=>?_)
 subst ex
 obtain rfl:u=Value.ref a:=rx
 obtain ⟨t1,t2,_⟩:=yk I1 d
 refine ⟨t1,t2,?_⟩
 rw [m.trees]
 refine Calls.callWith_builtin rfl (Calls.evalArgs_plain (Calls.spliced_cons (thn (he pins s1 σ H1 _ I1 q1) fun iv s2 ⟨y,H2,I2,ry,kvs,k,v,ea,ey,l,q2⟩=>Calls.spliced_nil ?_)))
 subst ey
 exact Jk I2 ea ry l (.inl rfl) fun w' s3 I3 rw'=>⟨v,_,I3,rw',q2⟩
end
section
variable {X:Cx} {pins:List (Addr×Obj)} {σ:St} {H:Hp} {s:Shared} {a:Addr} {kvs:List (Key×V)} {A:Around} {E:Value→Shared→Prop}
theorem yq {Q:Value→Shared→Prop} (I:Inv X pins σ H s) (e:Rd H a (.dK kvs)) (h:∀ p s',H p=none→Inv X pins σ (upd H p (.dK kvs)) s'→Q (.ref p) s'):wpAny (model X.prog X.w) A (call (.type "dict") [.ref a]) Q E s:=by
 obtain ⟨z,hd,vs,rel,dd⟩:=jd I.hok e
 refine kt_call_dict hd dd (by rw [← rel.length];exact z) fun h' dd' hs=>?_
 refine h _ _ (I.hok.fresh (Nat.le_refl _)) (I.laid (a:=s.heap.objs.size) (o:=.dK kvs) (t':=s.toks) (fun b q hq=>?_) (Nat.le_refl _) (nR z (beq_eq_false_iff_ne.mpr (Ne.symm (Nat.ne_of_lt I.big))) rel dd'))
 exact (hs.2 b (Nat.ne_of_lt (Heap.lt_size hq))).trans (Heap.get?_push_of_some _ hq)
end
section
variable {X:Cx} {pins:List (Addr×Obj)} {σ:St} {H:Hp} {s:Shared} {a:Addr} {y:V} {u:Value} {A:Around} {E:Value→Shared→Prop}
end
end L2
namespace Dm
inductive Dat where
 | non
 | bl (b:Bool)
 | int (i:Int)
 | str (s:List Nat)
 | tup (xs:List Dat)
 | lst (xs:List Dat)
 | dct (ks:List Int) (vs:List Dat)
 | exc (C:Nat)
 | fn (a:Nat)
deriving Inhabited
inductive Cell where
 | un
 | sh (d:Dat)
 | ow (d:Dat)
deriving Inhabited
noncomputable abbrev Env:=List Cell
inductive Val where
 | val (d:Dat)
 | slot (i:Nat)
 | new (d:Dat)
inductive RV where
 | val (d:Dat)
 | new (d:Dat)
noncomputable def RV.dat:RV→Dat
 | .val d=>d
 | .new d=>d
noncomputable def RV.bq:RV→Val
 | .val d=>.val d
 | .new d=>.new d
noncomputable def SZ:Nat:=100000
noncomputable def cD:Dat→Bool
 | .tup _=>true
 | .lst _=>true
 | .dct _ _=>true
 | .exc _=>true
 | _=>false
noncomputable def pk (ρ:Env):Val→Option Dat
 | .val d=>some d
 | .new d=>some d
 | .slot i=>match ρ[i]? with
  | some (.ow d)=>some d
  | some (.sh d)=>some d
  | _=>none
noncomputable def tk (ρ:Env):Val→Option (Dat×Env)
 | .val d=>some (d,ρ)
 | .new d=>some (d,ρ)
 | .slot i=>match ρ[i]? with
  | some (.ow d)=>some (d,ρ.set i (.sh d))
  | some (.sh d)=>some (d,ρ)
  | _=>none
noncomputable def pks (ρ:Env):List Val→Option (List Dat)
 | []=>some []
 | x::r=>match pk ρ x with
  | none=>none
  | some d=>match pks ρ r with
   | none=>none
   | some ds=>some (d::ds)
noncomputable def tks (ρ:Env):List Val→Option (List Dat×Env)
 | []=>some ([],ρ)
 | x::r=>match tk ρ x with
  | none=>none
  | some (d,ρ1)=>match tks ρ1 r with
   | none=>none
   | some (ds,ρ2)=>some (d::ds,ρ2)
noncomputable abbrev FE:=Env→Option (Val×Env)
noncomputable abbrev FT:=Env→Option (Bool×Env)
noncomputable def eC (d:Dat):FE:=fun ρ=>some (.val d,ρ)
noncomputable def eV (i:Nat):FE:=fun ρ=>match ρ[i]? with
 | some (.sh d)=>some (.val d,ρ)
 | some (.ow _)=>some (.slot i,ρ)
 | _=>none
noncomputable def e1 (g:Dat→Option RV) (a:FE):FE:=fun ρ=>match a ρ with
 | none=>none
 | some (x,ρ1)=>match pk ρ1 x with
  | none=>none
  | some d=>match g d with
   | none=>none
   | some v=>some (v.bq,ρ1)
noncomputable def e2 (g:Dat→Dat→Option RV) (a b:FE):FE:=fun ρ=>match a ρ with
 | none=>none
 | some (x,ρ1)=>match b ρ1 with
  | none=>none
  | some (y,ρ2)=>match pk ρ2 x with
   | none=>none
   | some d=>match pk ρ2 y with
    | none=>none
    | some e=>match g d e with
     | none=>none
     | some v=>some (v.bq,ρ2)
noncomputable def eAs:List FE→Env→Option (List Val×Env)
 | [],ρ=>some ([],ρ)
 | a::r,ρ=>match a ρ with
  | none=>none
  | some (x,ρ1)=>match eAs r ρ1 with
   | none=>none
   | some (xs,ρ2)=>some (x::xs,ρ2)
noncomputable def eB (g:List Dat→Option RV) (as:List FE):FE:=fun ρ=>match eAs as ρ with
 | none=>none
 | some (xs,ρ1)=>match pks ρ1 xs with
  | none=>none
  | some ds=>match g ds with
   | none=>none
   | some v=>some (v.bq,ρ1)
noncomputable def iJ (as:List FE):FE:=fun ρ=>match eAs as ρ with
 | none=>none
 | some (xs,ρ1)=>match tks ρ1 xs with
  | none=>none
  | some (ds,ρ2)=>if ds.length≤SZ then some (.val (.tup ds),ρ2) else none
noncomputable def dm (as:List FE):FE:=fun ρ=>match eAs as ρ with
 | none=>none
 | some (xs,ρ1)=>match tks ρ1 xs with
  | none=>none
  | some (ds,ρ2)=>if ds.length≤SZ then some (.new (.lst ds),ρ2) else none
noncomputable def eF (f:List Dat→Option RV) (as:List FE):FE:=fun ρ=>match eAs as ρ with
 | none=>none
 | some (xs,ρ1)=>match pks ρ1 xs with
  | none=>none
  | some ds=>match f ds with
   | none=>none
   | some v=>if cD v.dat then (match tks ρ1 xs with
     | none=>none
     | some (_,ρ2)=>some (v.bq,ρ2)) else some (v.bq,ρ1)
noncomputable def eIf (t:FT) (a b:FE):FE:=fun ρ=>match t ρ with
 | none=>none
 | some (true,ρ1)=>a ρ1
 | some (false,ρ1)=>b ρ1
noncomputable def gU (a b:FE):FE:=fun ρ=>match a ρ with
 | some (.val (.bl true),ρ1)=>b ρ1
 | some (.val (.bl false),ρ1)=>some (.val (.bl false),ρ1)
 | _=>none
noncomputable def wF (a:FE):FE:=fun ρ=>match a ρ with
 | some (.val (.bl c),ρ1)=>some (.val (.bl (!c)),ρ1)
 | _=>none
noncomputable def tV (a:FE):FT:=fun ρ=>match a ρ with
 | some (.val (.bl c),ρ1)=>some (c,ρ1)
 | _=>none
noncomputable def di (t:FT):FT:=fun ρ=>match t ρ with
 | some (c,ρ1)=>some (!c,ρ1)
 | none=>none
noncomputable def jE (t u:FT):FT:=fun ρ=>match t ρ with
 | some (true,ρ1)=>u ρ1
 | some (false,ρ1)=>some (false,ρ1)
 | none=>none
noncomputable def tOr (t u:FT):FT:=fun ρ=>match t ρ with
 | some (true,ρ1)=>some (true,ρ1)
 | some (false,ρ1)=>u ρ1
 | none=>none
noncomputable def truth:Dat→Option Bool
 | .non=>some false
 | .bl b=>some b
 | .int i=>some (i != 0)
 | .tup xs=>some (!xs.isEmpty)
 | .lst xs=>some (!xs.isEmpty)
 | _=>none
noncomputable def tTr (a:FE):FT:=fun ρ=>match a ρ with
 | none=>none
 | some (x,ρ1)=>match pk ρ1 x with
  | none=>none
  | some d=>match truth d with
   | none=>none
   | some c=>some (c,ρ1)
noncomputable def bO:FT:=fun ρ=>some (true,ρ)
noncomputable abbrev FI:=Env→Option (List Dat×Env)
noncomputable def iL (a:FE):FI:=fun ρ=>match a ρ with
 | none=>none
 | some (x,ρ1)=>match tk ρ1 x with
  | some (.lst ds,ρ2)=>some (ds,ρ2)
  | _=>none
noncomputable def iT (a:FE):FI:=fun ρ=>match a ρ with
 | none=>none
 | some (x,ρ1)=>match tk ρ1 x with
  | some (.tup ds,ρ2)=>some (ds,ρ2)
  | _=>none
noncomputable def iS (a:FE):FI:=fun ρ=>match a ρ with
 | none=>none
 | some (x,ρ1)=>match tk ρ1 x with
  | some (.lst ds,ρ2)=>some (ds,ρ2)
  | some (.tup ds,ρ2)=>some (ds,ρ2)
  | _=>none
noncomputable def ups (lo:Int) (n:Nat):List Dat:=(List.range n).map fun i=>Dat.int (lo+(i:Nat))
noncomputable def downs (hi:Int) (n:Nat):List Dat:=(List.range n).map fun i=>Dat.int (hi-(i:Nat))
noncomputable def BIG:Int:=1000000000
noncomputable def iR1 (a:FE):FI:=fun ρ=>match a ρ with
 | some (.val (.int j),ρ1)=>if j≤BIG∧-BIG≤j then some (ups 0 j.toNat,ρ1) else none
 | _=>none
noncomputable def iR2 (a b:FE):FI:=fun ρ=>match a ρ with
 | some (.val (.int i),ρ1)=>(match b ρ1 with
  | some (.val (.int j),ρ2)=>if j≤BIG∧-BIG≤j∧i≤BIG∧-BIG≤i then some (ups i (j-i).toNat,ρ2) else none
  | _=>none)
 | _=>none
noncomputable abbrev FB:=Dat→Env→Option Env
noncomputable def bN (i:Nat):FB:=fun d ρ=>if i=0 then none else some (ρ.set i (.sh d))
noncomputable def sets:List Nat→List Dat→Env→Option Env
 | [],[],ρ=>some ρ
 | i::is,d::ds,ρ=>if i=0 then none else sets is ds (ρ.set i (.sh d))
 | _,_,_=>none
noncomputable def bT (is:List Nat):FB:=fun d ρ=>match d with
 | .tup ds=>sets is ds ρ
 | _=>none
noncomputable def cE (bd:FB) (t:FT) (el:FE):List Dat→Env→List Dat→Option (List Dat×Env)
 | [],ρ,acc=>some (acc,ρ)
 | d::r,ρ,acc=>match bd d ρ with
  | none=>none
  | some ρ1=>match t ρ1 with
   | none=>none
   | some (false,ρ2)=>cE bd t el r ρ2 acc
   | some (true,ρ2)=>match el ρ2 with
    | none=>none
    | some (x,ρ3)=>match tk ρ3 x with
     | none=>none
     | some (y,ρ4)=>cE bd t el r ρ4 (acc++[y])
noncomputable def bF (it:FI) (own:Nat) (bd:FB) (t:FT) (el:FE):FE:=fun ρ=>match it ρ with
 | none=>none
 | some (ds,ρ1)=>if ds.length≤SZ then (match cE bd t el ds (ρ1++List.replicate own .un) [] with
  | none=>none
  | some (ys,ρ2)=>some (.new (.lst ys),ρ2.take ρ1.length)) else none
inductive Out where
 | nx (ρ:Env)
 | ret (r:RV) (ρ:Env)
 | bk (ρ:Env)
 | ct (ρ:Env)
noncomputable abbrev FS:=Env→Option Out
noncomputable def sNx:FS:=fun ρ=>some (.nx ρ)
noncomputable def aD (s u:FS):FS:=fun ρ=>match s ρ with
 | some (.nx ρ1)=>u ρ1
 | o=>o
noncomputable def sA (i:Nat) (e:FE):FS:=fun ρ=>if i=0 then none else match e ρ with
 | none=>none
 | some (.new d,ρ1)=>some (.nx (ρ1.set i (.ow d)))
 | some (x,ρ1)=>match tk ρ1 x with
  | none=>none
  | some (d,ρ2)=>some (.nx (ρ2.set i (.sh d)))
noncomputable def sE (e:FE):FS:=fun ρ=>match e ρ with
 | none=>none
 | some (_,ρ1)=>some (.nx ρ1)
noncomputable def sR (e:FE):FS:=fun ρ=>match e ρ with
 | none=>none
 | some (.new d,ρ1)=>some (.ret (.new d) ρ1)
 | some (.val d,ρ1)=>some (.ret (.val d) ρ1)
 | some (.slot i,ρ1)=>match ρ1[i]? with
  | some (.ow d)=>some (.ret (.new d) (ρ1.set i .un))
  | some (.sh d)=>some (.ret (.val d) ρ1)
  | _=>none
noncomputable def sIf (t:FT) (a b:FS):FS:=fun ρ=>match t ρ with
 | none=>none
 | some (true,ρ1)=>a ρ1
 | some (false,ρ1)=>b ρ1
noncomputable def mG (i:Nat) (e:FE):FS:=fun ρ=>match ρ[i]? with
 | some (.ow (.lst _))=>(match e ρ with
  | none=>none
  | some (x,ρ1)=>match tk ρ1 x with
   | none=>none
   | some (d,ρ2)=>match ρ2[i]? with
    | some (.ow (.lst ds))=>if ds.length<SZ then some (.nx (ρ2.set i (.ow (.lst (ds++[d]))))) else none
    | _=>none)
 | _=>none
noncomputable def ixN (n:Nat) (i:Int):Option Nat:=
 if 0≤i then (if i<n then some i.toNat else none) else if -(n:Int)≤i then some (i+n).toNat else none
noncomputable def r9 (i:Nat) (j e:FE):FS:=fun ρ=>match e ρ with
 | none=>none
 | some (x,ρ1)=>match tk ρ1 x with
  | none=>none
  | some (d,ρ2)=>match ρ2[i]? with
   | some (.ow _)=>(match j ρ2 with
    | some (.val (.int k),ρ3)=>(match ρ3[i]? with
     | some (.ow (.lst ds))=>(match ixN ds.length k with
      | none=>none
      | some m=>some (.nx (ρ3.set i (.ow (.lst (ds.set m d))))))
     | _=>none)
    | _=>none)
   | _=>none
noncomputable def iK (bd:FB) (body:FS):List Dat→FS
 | [],ρ=>some (.nx ρ)
 | d::r,ρ=>match bd d ρ with
  | none=>none
  | some ρ1=>match body ρ1 with
   | some (.nx ρ2)=>iK bd body r ρ2
   | some (.ct ρ2)=>iK bd body r ρ2
   | some (.bk ρ2)=>some (.nx ρ2)
   | some (.ret v ρ2)=>some (.ret v ρ2)
   | none=>none
noncomputable def d8 (it:FI) (bd:FB) (body:FS):FS:=fun ρ=>match it ρ with
 | none=>none
 | some (ds,ρ1)=>iK bd body ds ρ1
noncomputable def whD (t:FT) (body:FS):Nat→FS
 | 0,_=>none
 | n+1,ρ=>match t ρ with
  | none=>none
  | some (false,ρ1)=>some (.nx ρ1)
  | some (true,ρ1)=>match body ρ1 with
   | some (.nx ρ2)=>whD t body n ρ2
   | some (.ct ρ2)=>whD t body n ρ2
   | some (.bk ρ2)=>some (.nx ρ2)
   | some (.ret v ρ2)=>some (.ret v ρ2)
   | none=>none
noncomputable def fn (n m:Nat) (body:FS) (ds:List Dat):Option RV:=if ds.length=n then (match body (ds.map Cell.sh++List.replicate m .un) with
 | some (.ret r _)=>some r
 | some (.nx _)=>some (.val .non)
 | _=>none) else none
noncomputable def b2i (b:Bool):Int:=if b then 1 else 0
mutual
noncomputable def eqD:Dat→Dat→Bool
 | .non,.non=>true
 | .bl a,.bl b=>a == b
 | .bl a,.int j=>b2i a == j
 | .int i,.bl b=>i == b2i b
 | .int i,.int j=>i == j
 | .str a,.str b=>a == b
 | .tup xs,.tup ys=>mH xs ys
 | .lst xs,.lst ys=>mH xs ys
 | _,_=>false
noncomputable def mH:List Dat→List Dat→Bool
 | [],[]=>true
 | x::xs,y::ys=>eqD x y&&mH xs ys
 | _,_=>false
end
noncomputable def okD:Nat→Dat→Bool
 | _,.dct _ _=>false
 | _,.exc _=>false
 | _,.fn _=>false
 | _,.str s=>s.all fun c=>decide (c<128)
 | 0,.tup _=>false
 | 0,.lst _=>false
 | n+1,.tup xs=>xs.all (okD n)
 | n+1,.lst xs=>xs.all (okD n)
 | _,_=>true
noncomputable abbrev vB (b:Bool):Option RV:=some (.val (.bl b))
noncomputable def pK (p:Dat→Bool):Dat→Option RV
 | .exc _=>none
 | .fn _=>none
 | d=>vB (p d)
noncomputable abbrev vI (i:Int):Option RV:=some (.val (.int i))
noncomputable def gEq (x y:Dat):Option RV:=if okD 8 x&&okD 8 y then vB (eqD x y) else none
noncomputable def gNe (x y:Dat):Option RV:=if okD 8 x&&okD 8 y then vB (!eqD x y) else none
noncomputable def gLt:Dat→Dat→Option RV
 | .int i,.int j=>vB (decide (i<j))
 | _,_=>none
noncomputable def gLe:Dat→Dat→Option RV
 | .int i,.int j=>vB (decide (i≤j))
 | _,_=>none
noncomputable def gGt:Dat→Dat→Option RV
 | .int i,.int j=>vB (decide (j<i))
 | _,_=>none
noncomputable def gGe:Dat→Dat→Option RV
 | .int i,.int j=>vB (decide (j≤i))
 | _,_=>none
noncomputable def B64:Int:=18446744073709551616
noncomputable def bY:Dat→Dat→Option RV
 | .int i,.int j=>vI (i+j)
 | .lst xs,.lst ys=>if xs.length+ys.length≤SZ then some (.new (.lst (xs++ys))) else none
 | _,_=>none
noncomputable def fq:Dat→Dat→Option RV
 | .int i,.int j=>vI (i-j)
 | _,_=>none
noncomputable def gW:Dat→Dat→Option RV
 | .int i,.int j=>if (-B64<i∧i<B64)∨(-B64<j∧j<B64) then vI (i*j) else none
 | .lst xs,.int k=>if k≤BIG∧-BIG≤k∧xs.length*k.toNat≤SZ then some (.new (.lst (List.replicate k.toNat xs).flatten)) else none
 | _,_=>none
noncomputable def fG:Int:=1606938044258990275541962092341162602522202993782792835301376
noncomputable def r_:Dat→Dat→Option RV
 | .int i,.int j=>if 0<j∧j<fG then vI (i / j) else none
 | _,_=>none
noncomputable def iM:Dat→Dat→Option RV
 | .int i,.int j=>if 0<j then vI (i % j) else none
 | _,_=>none
noncomputable def pL:Dat→Dat→Option RV
 | .int i,.int j=>if 0≤j∧j≤1000000∧i.natAbs<1000000 then vI (i ^ j.toNat) else none
 | _,_=>none
noncomputable def wG:Dat→Dat→Option RV
 | .int i,.int j=>if 0≤j then vI (i / 2 ^ j.toNat) else none
 | _,_=>none
noncomputable def yr:Dat→Dat→Option RV
 | .int i,.int j=>if j=1 then vI (i % 2) else none
 | _,_=>none
noncomputable def atI (xs:List Dat) (i:Int):Option Dat:=(ixN xs.length i).bind fun j=>xs[j]?
noncomputable def gIx:Dat→Dat→Option RV
 | .lst xs,.int i=>(atI xs i).map .val
 | .tup xs,.int i=>(atI xs i).map .val
 | _,_=>none
noncomputable def inD (x:Dat) (xs:List Dat):Bool:=xs.any fun y=>eqD y x
noncomputable def gIn:Dat→Dat→Option RV
 | x,.lst xs=>if okD 8 x&&xs.all (okD 7) then vB (inD x xs) else none
 | x,.tup xs=>if okD 8 x&&xs.all (okD 7) then vB (inD x xs) else none
 | _,_=>none
noncomputable def cR:Dat→Dat→Option RV
 | x,.lst xs=>if okD 8 x&&xs.all (okD 7) then vB (!inD x xs) else none
 | x,.tup xs=>if okD 8 x&&xs.all (okD 7) then vB (!inD x xs) else none
 | _,_=>none
noncomputable def d9:List Dat→Option RV
 | [.lst xs]=>vI xs.length
 | [.tup xs]=>vI xs.length
 | _=>none
noncomputable def je:List Dat→Option RV
 | [.int i,.int j]=>vI (if j<i then j else i)
 | _=>none
noncomputable def mZ:List Dat→Option RV
 | [.int i,.int j]=>vI (if j>i then j else i)
 | _=>none
noncomputable def fC:List Dat→Option RV
 | [.lst xs]=>some (.new (.lst xs))
 | [.tup xs]=>some (.new (.lst xs))
 | _=>none
noncomputable def iN:List Dat→Option RV
 | [.lst xs]=>some (.val (.tup xs))
 | [.tup xs]=>some (.val (.tup xs))
 | _=>none
noncomputable def isI:Dat→Bool
 | .int _=>true
 | .bl _=>true
 | _=>false
noncomputable def isB:Dat→Bool
 | .bl _=>true
 | _=>false
noncomputable def isL:Dat→Bool
 | .lst _=>true
 | _=>false
noncomputable def isT:Dat→Bool
 | .tup _=>true
 | _=>false
noncomputable def bools:List Dat→Option (List Bool)
 | []=>some []
 | .bl b::r=>(bools r).map fun bs=>b::bs
 | _=>none
noncomputable def sd:List Dat→Option RV
 | [.lst xs]=>(match bools xs with
  | some bs=>vB (bs.all id)
  | none=>none)
 | _=>none
noncomputable def jW (g h:Dat→Dat→Option RV) (a b c:FE):FE:=fun ρ=>match a ρ with
 | none=>none
 | some (x,ρ1)=>match b ρ1 with
  | none=>none
  | some (y,ρ2)=>match pk ρ2 x with
   | none=>none
   | some d=>match pk ρ2 y with
    | none=>none
    | some e=>match g d e with
     | some (.val (.bl true))=>(match c ρ2 with
      | none=>none
      | some (z,ρ3)=>match pk ρ3 y with
       | none=>none
       | some e'=>match pk ρ3 z with
        | none=>none
        | some f=>match h e' f with
         | none=>none
         | some v=>some (v.bq,ρ3))
     | some (.val (.bl false))=>some (.val (.bl false),ρ2)
     | _=>none
end Dm
namespace Br
open PySem L2
mutual
inductive Rep (H:Hp):V→Dm.Dat→Prop
 | non:Rep H V.non Dm.Dat.non
 | bl (b:Bool):Rep H (V.bl b) (Dm.Dat.bl b)
 | int (i:Int):Rep H (V.int i) (Dm.Dat.int i)
 | str (s:List Nat):Rep H (V.str ⟨s.toArray⟩) (Dm.Dat.str s)
 | tup {a:Addr} {xs:List V} {ds:List Dm.Dat}:H a=some (.tup xs)→aC H xs ds→Rep H (V.ref a) (Dm.Dat.tup ds)
 | lst {a:Addr} {xs:List V} {ds:List Dm.Dat}:Rd H a (.lst xs)→aC H xs ds→Rep H (V.ref a) (Dm.Dat.lst ds)
 | dct {a:Addr} {kvs:List (Key×V)} {ks:List Int} {ds:List Dm.Dat}:H a=some (.dK kvs)→kvs.map (·.1)=ks.map Sum.inl→aC H (kvs.map (·.2)) ds→Rep H (V.ref a) (Dm.Dat.dct ks ds)
 | exc {a:Addr} {C:Nat}:H a=some (.ext fun h=>∃ o,h.get? a=some o∧o.cls=.ref C)→Rep H (V.ref a) (Dm.Dat.exc C)
 | fn (a:Addr):Rep H (V.ref a) (Dm.Dat.fn a)
inductive aC (H:Hp):List V→List Dm.Dat→Prop
 | nil:aC H [] []
 | cons {v:V} {d:Dm.Dat} {vs:List V} {ds:List Dm.Dat}:Rep H v d→aC H vs ds→aC H (v::vs) (d::ds)
end
theorem ak.rd {H H':Hp} (s:ak H H') {a:Addr} {u:HO} (h:Rd H a u):Rd H' a u:=by
 rcases h with h | ⟨o,h⟩
 ·exact .inl (s _ _ h)
 ·exact .inr ⟨o,s _ _ h⟩
mutual
theorem Rep.mono {H H':Hp} (s:ak H H'):∀ {v:V} {d:Dm.Dat},Rep H v d→Rep H' v d
 | _,_,.non=>.non
 | _,_,.bl b=>.bl b
 | _,_,.int i=>.int i
 | _,_,.str x=>.str x
 | _,_,.tup h r=>.tup (s _ _ h) (aC.mono s r)
 | _,_,.lst h r=>.lst (ak.rd s h) (aC.mono s r)
 | _,_,.dct h e r=>.dct (s _ _ h) e (aC.mono s r)
 | _,_,.exc h=>.exc (s _ _ h)
 | _,_,.fn a=>.fn a
theorem aC.mono {H H':Hp} (s:ak H H'):∀ {vs:List V} {ds:List Dm.Dat},aC H vs ds→aC H' vs ds
 | _,_,.nil=>.nil
 | _,_,.cons h r=>.cons (Rep.mono s h) (aC.mono s r)
end
theorem aC.length {H:Hp}:∀ {vs:List V} {ds:List Dm.Dat},aC H vs ds→vs.length=ds.length
 | _,_,.nil=>rfl
 | _,_,.cons _ r=>by simp [aC.length r]
theorem aC.get {H:Hp}:∀ {vs:List V} {ds:List Dm.Dat} {i:Nat} {d:Dm.Dat},aC H vs ds→ds[i]?=some d→∃ v,vs[i]?=some v∧Rep H v d
 | _,_,_,_,.nil,e=>by simp at e
 | _,_,0,_,.cons h _,e=>by simp at e;subst e;exact ⟨_,rfl,h⟩
 | _,_,i+1,_,.cons _ r,e=>by
  obtain ⟨v,h1,h2⟩:=aC.get (i:=i) r (by simpa using e)
  exact ⟨v,by simpa using h1,h2⟩
theorem aC.append {H:Hp}:∀ {vs ws:List V} {ds es:List Dm.Dat},aC H vs ds→aC H ws es→aC H (vs++ws) (ds++es)
 | _,_,_,_,.nil,s=>s
 | _,_,_,_,.cons h r,s=>.cons h (aC.append r s)
theorem aC.take {H:Hp}:∀ {vs:List V} {ds:List Dm.Dat} (n:Nat),aC H vs ds→aC H (vs.take n) (ds.take n)
 | _,_,0,_=>by simpa using aC.nil
 | _,_,_+1,.nil=>by simpa using aC.nil
 | _,_,n+1,.cons h r=>by simpa using aC.cons h (aC.take n r)
theorem aC.drop {H:Hp}:∀ {vs:List V} {ds:List Dm.Dat} (n:Nat),aC H vs ds→aC H (vs.drop n) (ds.drop n)
 | _,_,0,r=>by simpa using r
 | _,_,_+1,.nil=>by simpa using aC.nil
 | _,_,n+1,.cons _ r=>by simpa using aC.drop n r
theorem aC.set {H:Hp} {v:V} {d:Dm.Dat} (h:Rep H v d):∀ {vs:List V} {ds:List Dm.Dat} (i:Nat),aC H vs ds→aC H (vs.set i v) (ds.set i d)
 | _,_,_,.nil=>.nil
 | _,_,0,.cons _ r=>.cons h r
 | _,_,i+1,.cons q r=>.cons q (aC.set h i r)
theorem aC.rep {H:Hp} {vs:List V} {ds:List Dm.Dat} (r:aC H vs ds):∀ k:Nat,aC H (List.replicate k vs).flatten (List.replicate k ds).flatten
 | 0=>by simpa using aC.nil
 | k+1=>by
  rw [List.replicate_succ,List.replicate_succ,List.flatten_cons,List.flatten_cons]
  exact aC.append r (aC.rep r k)
noncomputable def Own (H0 H:Hp) (a:Addr):Dm.Dat→Prop
 | .lst ds=>∃ xs,H a=some (.lst xs)∧aC H0 xs ds
 | .dct ks ds=>∃ kvs:List (Key×V),H a=some (.dK kvs)∧kvs.map (·.1)=ks.map Sum.inl∧aC H0 (kvs.map (·.2)) ds
 | _=>False
theorem Own.some {H0 H:Hp} {a:Addr} {d:Dm.Dat} (h:Own H0 H a d):∃ o,H a=some o:=by
 cases d with
 | lst ds=>obtain ⟨xs,e,_⟩:=h;exact ⟨_,e⟩
 | dct ks ds=>obtain ⟨xs,e,_⟩:=h;exact ⟨_,e⟩
 | _=>exact False.elim h
theorem Own.mono {H0 H H0' H':Hp} {a:Addr} {d:Dm.Dat} (h:Own H0 H a d) (s:ak H0 H0') (e:H' a=H a):Own H0' H' a d:=by
 cases d with
 | lst ds=>obtain ⟨xs,q,r⟩:=h;exact ⟨xs,by rw [e];exact q,r.mono s⟩
 | dct ks ds=>obtain ⟨xs,q,k,r⟩:=h;exact ⟨xs,by rw [e];exact q,k,r.mono s⟩
 | _=>exact False.elim h
noncomputable def iO (H0 H:Hp) (v:V) (d:Dm.Dat):Prop:=Rep H0 v d∨∃ a,v=V.ref a∧Own H0 H a d
inductive pM (H0 H:Hp):List V→List Dm.Dat→Prop
 | nil:pM H0 H [] []
 | cons {v:V} {d:Dm.Dat} {vs:List V} {ds:List Dm.Dat}:iO H0 H v d→pM H0 H vs ds→pM H0 H (v::vs) (d::ds)
noncomputable def shr (H0 H:Hp) (a:Addr):Hp:=fun b=>if b=a then H a else H0 b
theorem cW {H0 H:Hp} {a:Addr}:shr H0 H a a=H a:=by unfold shr;rw [if_pos rfl]
theorem fH {H0 H:Hp} {a b:Addr} (h:b≠a):shr H0 H a b=H0 b:=by unfold shr;rw [if_neg h]
theorem gX {H0 H:Hp} {a:Addr} (h:H0 a=none):ak H0 (shr H0 H a):=fun b o e=>by
 by_cases q:b=a
 ·subst q;rw [h] at e;cases e
 ·rw [fH q];exact e
theorem uB {H0 H:Hp} {a:Addr} (s:ak H0 H):ak (shr H0 H a) H:=fun b o e=>by
 by_cases q:b=a
 ·subst q;rw [cW] at e;exact e
 ·rw [fH q] at e;exact s _ _ e
theorem Own.rep {H0 H:Hp} {a:Addr} {d:Dm.Dat} (h:Own H0 H a d) (n:H0 a=none):Rep (shr H0 H a) (V.ref a) d:=by
 cases d with
 | lst ds=>obtain ⟨xs,q,r⟩:=h;exact .lst (.inl (by rw [cW];exact q)) (r.mono (gX n))
 | dct ks ds=>obtain ⟨xs,q,k,r⟩:=h;exact .dct (by rw [cW];exact q) k (r.mono (gX n))
 | _=>exact False.elim h
noncomputable def aj (σ:St) (ρ:Dm.Env) (a:Addr):Prop:=∃ (i:Nat) (d:Dm.Dat),ρ[i]?=some (Dm.Cell.ow d)∧σ[i]?=some (some (V.ref a))
noncomputable abbrev Def (_:Dm.Env) (_:Nat):Prop:=True
structure aA (H0 H:Hp) (σ:St) (ρ:Dm.Env):Prop where
 same:ak H0 H
 len:σ.length=ρ.length
 sh:∀ (i:Nat) (d:Dm.Dat),ρ[i]?=some (Dm.Cell.sh d)→∃ v,σ[i]?=some (some v)∧Rep H0 v d
 ow:∀ (i:Nat) (d:Dm.Dat),ρ[i]?=some (Dm.Cell.ow d)→∃ a,σ[i]?=some (some (V.ref a))∧H0 a=none∧Own H0 H a d
 dis:∀ (i j:Nat) (d e:Dm.Dat) (a:Addr),ρ[i]?=some (Dm.Cell.ow d)→ρ[j]?=some (Dm.Cell.ow e)→σ[i]?=some (some (V.ref a))→σ[j]?=some (some (V.ref a))→i=j
structure Stp (O:Addr→Prop) (H0 H H0' H':Hp):Prop where
 s0:ak H0 H0'
 s1:∀ a o,H a=some o→¬ O a→H' a=some o
 s2:∀ a o,H0' a=some o→H a=none∨H0 a=some o∨O a
 s3:∀ a o,H a=some o→∃ o',H' a=some o'
theorem Stp.refl (O:Addr→Prop) (H0 H:Hp):Stp O H0 H H0 H:=⟨ak.refl _,fun _ _ e _=>e,fun _ _ e=>.inr (.inl e),fun _ o e=>⟨o,e⟩⟩
theorem Stp.gone {O:Addr→Prop} {H0 H H0' H':Hp} (t:Stp O H0 H H0' H') {a:Addr} (h:H' a=none):H a=none:=by
 cases q:H a with
 | none=>rfl
 | some o=>obtain ⟨o',e⟩:=t.s3 a o q;rw [h] at e;cases e
theorem Stp.trans {O1 O2:Addr→Prop} {H0 H H1 H' H2 H'':Hp} (t:Stp O1 H0 H H1 H') (u:Stp O2 H1 H' H2 H'') (k:∀ a,O2 a→O1 a∨H a=none):Stp O1 H0 H H2 H'' where
 s0:=t.s0.trans u.s0
 s1:=fun a o e n=>u.s1 a o (t.s1 a o e n) fun z=>(k a z).elim n fun q=>by rw [q] at e;cases e
 s2:=fun a o e=>by
  rcases u.s2 a o e with q | q | q
  ·exact .inl (t.gone q)
  ·exact t.s2 a o q
  ·rcases k a q with z | z
   ·exact .inr (.inr z)
   ·exact .inl z
 s3:=fun a o e=>by
  obtain ⟨o',e'⟩:=t.s3 a o e
  exact u.s3 a o' e'
theorem Stp.wide {O O':Addr→Prop} {H0 H H0' H':Hp} (t:Stp O H0 H H0' H') (k:∀ a,O a→O' a):Stp O' H0 H H0' H':=
 ⟨t.s0,fun a o e n=>t.s1 a o e fun z=>n (k a z),fun a o e=>(t.s2 a o e).imp id (Or.imp id (k a)),t.s3⟩
structure aM (H0 H H0' H':Hp):Prop where
 s0:ak H0 H0'
 s1:ak H H'
 s2:∀ a o,H0' a=some o→H a=none∨H0 a=some o
 s3:ak H0' H'
theorem aM.refl {H0 H:Hp} (s:ak H0 H):aM H0 H H0 H:=⟨ak.refl _,ak.refl _,fun _ _ e=>.inr e,s⟩
theorem aM.stp {H0 H H0' H':Hp} (g:aM H0 H H0' H') (O:Addr→Prop):Stp O H0 H H0' H':=
 ⟨g.s0,fun a o e _=>g.s1 a o e,fun a o e=>(g.s2 a o e).imp id .inl,fun a o e=>⟨o,g.s1 a o e⟩⟩
theorem aM.BY {H0 H:Hp} (s:ak H0 H) {p:Addr} {o:HO} (n:H p=none):aM H0 H (upd H0 p o) (upd H p o) where
 s0:=fun b u e=>by rw [av (aK e (s.free n))];exact e
 s1:=fun b u e=>by rw [av (aK e n)];exact e
 s2:=fun b u e=>by
  by_cases q:b=p
  ·subst q;exact .inl n
  ·rw [av q] at e;exact .inr e
 s3:=fun b u e=>by
  by_cases q:b=p
  ·subst q;rw [az] at e ⊢;exact e
  ·rw [av q] at e ⊢;exact s _ _ e
theorem aM.mJ {H0 H:Hp} (s:ak H0 H) {p:Addr} {o:HO} (n:H p=none):aM H0 H H0 (upd H p o) where
 s0:=ak.refl _
 s1:=fun b u e=>by rw [av (aK e n)];exact e
 s2:=fun b u e=>.inr e
 s3:=fun b u e=>by rw [av (aK (s _ _ e) n)];exact s _ _ e
noncomputable def d_ (Hs H0 H:Hp) (σ:St) (ρ:Dm.Env) (v:V):Dm.Val→Prop
 | .val d=>Rep H0 v d
 | .slot i=>σ[i]?=some (some v)∧Def ρ i
 | .new d=>∃ a,v=V.ref a∧Hs a=none∧¬ aj σ ρ a∧H0 a=none∧Own H0 H a d
structure ESt (σ:St) (ρ:Dm.Env) (H0 H:Hp) (ρ':Dm.Env) (H0' H':Hp):Prop where
 st:aA H0' H' σ ρ'
 stp:Stp (aj σ ρ) H0 H H0' H'
 own:∀ a,aj σ ρ' a→aj σ ρ a
 dfn:∀ i,Def ρ i→Def ρ' i
theorem ESt.refl {σ:St} {ρ:Dm.Env} {H0 H:Hp} (st:aA H0 H σ ρ):ESt σ ρ H0 H ρ H0 H:=⟨st,Stp.refl _ _ _,fun _ z=>z,fun _ z=>z⟩
theorem ESt.trans {σ:St} {ρ ρ1 ρ2:Dm.Env} {H0 H H1 H' H2 H'':Hp} (t:ESt σ ρ H0 H ρ1 H1 H') (u:ESt σ ρ1 H1 H' ρ2 H2 H''):ESt σ ρ H0 H ρ2 H2 H'':=
 ⟨u.st,t.stp.trans u.stp fun a z=>.inl (t.own a z),fun a z=>t.own a (u.own a z),fun i z=>u.dfn i (t.dfn i z)⟩
theorem aA.grow {σ:St} {ρ:Dm.Env} {H0 H H0' H':Hp} (st:aA H0 H σ ρ) (g:aM H0 H H0' H'):aA H0' H' σ ρ where
 same:=g.s3
 len:=st.len
 sh:=fun i d e=>by
  obtain ⟨v,q,r⟩:=st.sh i d e
  exact ⟨v,q,r.mono g.s0⟩
 ow:=fun i d e=>by
  obtain ⟨a,q,n,w⟩:=st.ow i d e
  obtain ⟨o,z⟩:=w.some
  refine ⟨a,q,?_,w.mono g.s0 ((g.s1 a o z).trans z.symm)⟩
  cases y:H0' a with
  | none=>rfl
  | some u=>
   rcases g.s2 a u y with k | k
   ·rw [z] at k;cases k
   ·rw [n] at k;cases k
 dis:=st.dis
theorem ESt.grow {σ:St} {ρ:Dm.Env} {H0 H H0' H':Hp} (st:aA H0 H σ ρ) (g:aM H0 H H0' H'):ESt σ ρ H0 H ρ H0' H':=
 ⟨st.grow g,g.stp _,fun _ z=>z,fun _ z=>z⟩
theorem d_.mono {Hs H0 H H0' H':Hp} {σ:St} {ρ ρ':Dm.Env} {v:V} {x:Dm.Val} (r:d_ Hs H0 H σ ρ v x) (t:ESt σ ρ H0 H ρ' H0' H'):d_ Hs H0' H' σ ρ' v x:=by
 cases x with
 | val d=>exact Rep.mono t.stp.s0 r
 | slot i=>exact ⟨r.1,t.dfn i r.2⟩
 | new d=>
  obtain ⟨a,e,n,no,n0,w⟩:=r
  obtain ⟨o,z⟩:=w.some
  refine ⟨a,e,n,fun y=>no (t.own a y),?_,w.mono t.stp.s0 ((t.stp.s1 a o z no).trans z.symm)⟩
  cases y:H0' a with
  | none=>rfl
  | some u=>
   rcases t.stp.s2 a u y with k | k | k
   ·rw [z] at k;cases k
   ·rw [n0] at k;cases k
   ·exact absurd k no
theorem d_.early {Hs Hs' H0 H:Hp} {σ:St} {ρ:Dm.Env} {v:V} {x:Dm.Val} (r:d_ Hs H0 H σ ρ v x) (k:∀ a,Hs a=none→Hs' a=none):d_ Hs' H0 H σ ρ v x:=by
 cases x with
 | val d=>exact r
 | slot i=>exact r
 | new d=>obtain ⟨a,e,n,z⟩:=r;exact ⟨a,e,k a n,z⟩
theorem d_.look {Hs H0 H:Hp} {σ:St} {ρ:Dm.Env} {v:V} {x:Dm.Val} {d:Dm.Dat} (r:d_ Hs H0 H σ ρ v x) (st:aA H0 H σ ρ) (e:Dm.pk ρ x=some d):iO H0 H v d:=by
 cases x with
 | val d'=>cases e;exact .inl r
 | new d'=>
  cases e
  obtain ⟨a,e,_,_,_,w⟩:=r
  exact .inr ⟨a,e,w⟩
 | slot i=>
  obtain ⟨q,_⟩:=r
  unfold Dm.pk at e
  dsimp only at e
  split at e
  ·rename_i d' h
   cases e
   obtain ⟨a,z,_,w⟩:=st.ow i d h
   rw [q] at z
   cases z
   exact .inr ⟨a,rfl,w⟩
  ·rename_i d' h
   cases e
   obtain ⟨u,z,w⟩:=st.sh i d h
   rw [q] at z
   cases z
   exact .inl w
  ·cases e
noncomputable def pN (Hs H0 H:Hp) (v:V):Dm.RV→Prop
 | .val d=>Rep H0 v d
 | .new d=>∃ a,v=V.ref a∧Hs a=none∧H0 a=none∧Own H0 H a d
theorem pN.toV {H H0' H' H0:Hp} {σ:St} {ρ:Dm.Env} {v:V} {z:Dm.RV} (r:pN H H0' H' v z) (st:aA H0 H σ ρ):d_ H H0' H' σ ρ v z.bq:=by
 cases z with
 | val d=>exact r
 | new d=>
  obtain ⟨a,e,n,n0,w⟩:=r
  refine ⟨a,e,n,fun ⟨i,d',h1,h2⟩=>?_,n0,w⟩
  obtain ⟨a',q,_,w'⟩:=st.ow i d' h1
  rw [h2] at q
  cases q
  obtain ⟨o,z⟩:=w'.some
  rw [n] at z;cases z
noncomputable def tD (f:Dm.FE):TE:=fun σ H Q=>∃ H0 ρ x ρ',aA H0 H σ ρ∧f ρ=some (x,ρ')∧∀ v H0' H',ESt σ ρ H0 H ρ' H0' H'→d_ H H0' H' σ ρ' v x→Q v H'
noncomputable def tDT (f:Dm.FT):TT:=fun σ H Q=>∃ H0 ρ b ρ',aA H0 H σ ρ∧f ρ=some (b,ρ')∧∀ H0' H',ESt σ ρ H0 H ρ' H0' H'→Q b H'
inductive cF (Hs H0 H:Hp) (σ:St) (ρ:Dm.Env):List V→List Dm.Val→Prop
 | nil:cF Hs H0 H σ ρ [] []
 | cons {v:V} {x:Dm.Val} {vs:List V} {xs:List Dm.Val}:d_ Hs H0 H σ ρ v x→cF Hs H0 H σ ρ vs xs→cF Hs H0 H σ ρ (v::vs) (x::xs)
noncomputable def tDA (fs:List Dm.FE):TA:=fun σ H Q=>∃ H0 ρ xs ρ',aA H0 H σ ρ∧Dm.eAs fs ρ=some (xs,ρ')∧∀ vs H0' H',ESt σ ρ H0 H ρ' H0' H'→cF H H0' H' σ ρ' vs xs→Q vs H'
noncomputable abbrev DE (X:Cx) (e:Expr) (f:Dm.FE):Prop:=PE X e (tD f)
noncomputable abbrev DT (X:Cx) (e:Expr) (f:Dm.FT):Prop:=PT X e (tDT f)
noncomputable abbrev DA (X:Cx) (es:List Expr) (fs:List Dm.FE):Prop:=PA X es (tDA fs)
theorem PE.weak {X:Cx} {e:Expr} {t t':TE} (h:PE X e t) (k:∀ σ H Q,t' σ H Q→t σ H Q):PE X e t':=fun pins s σ H Q I q=>h pins s σ H Q I (k σ H Q q)
theorem PT.weak {X:Cx} {e:Expr} {t t':TT} (h:PT X e t) (k:∀ σ H Q,t' σ H Q→t σ H Q):PT X e t':=fun pins s σ H Q I q=>h pins s σ H Q I (k σ H Q q)
theorem PA.weak {X:Cx} {es:List Expr} {t t':TA} (h:PA X es t) (k:∀ σ H Q,t' σ H Q→t σ H Q):PA X es t':=fun pos pins s σ H Q I q=>h pos pins s σ H Q I (k σ H Q q)
theorem PS.weak {X:Cx} {st:Stmt} {t t':TS} (h:PS X st t) (k:∀ D σ H,t' D σ H→t D σ H):PS X st t':=fun pins s σ H D I q=>h pins s σ H D I (k D σ H q)
theorem PSs.weak {X:Cx} {st:List Stmt} {t t':TS} (h:PSs X st t) (k:∀ D σ H,t' D σ H→t D σ H):PSs X st t':=fun pins s σ H D I q=>h pins s σ H D I (k D σ H q)
theorem cz {H0 H:Hp} {a:Addr} (s:ak H0 H):ak H0 (shr H0 H a):=fun b o e=>by
 by_cases q:b=a
 ·subst q;rw [cW];exact s _ _ e
 ·rw [fH q];exact e
theorem Own.Jm {H0 H0c H:Hp} {a:Addr} {d:Dm.Dat} (h:Own H0 H a d) (b:ak H0 H0c) (s:ak H0c H):Rep (shr H0c H a) (V.ref a) d:=by
 cases d with
 | lst ds=>obtain ⟨xs,q,r⟩:=h;exact .lst (.inl (by rw [cW];exact q)) (r.mono (b.trans (cz s)))
 | dct ks ds=>obtain ⟨xs,q,k,r⟩:=h;exact .dct (by rw [cW];exact q) k (r.mono (b.trans (cz s)))
 | _=>exact False.elim h
theorem d_.rho {Hs H0 H:Hp} {σ:St} {ρ ρ':Dm.Env} {v:V} {x:Dm.Val} (r:d_ Hs H0 H σ ρ v x) (o:∀ a,aj σ ρ' a→aj σ ρ a) (d:∀ i,Def ρ i→Def ρ' i):d_ Hs H0 H σ ρ' v x:=by
 cases x with
 | val d=>exact r
 | slot i=>exact ⟨r.1,d i r.2⟩
 | new d=>obtain ⟨a,e,n,no,z⟩:=r;exact ⟨a,e,n,fun y=>no (o a y),z⟩
theorem cF.rho {Hs H0 H:Hp} {σ:St} {ρ ρ':Dm.Env} (o:∀ a,aj σ ρ' a→aj σ ρ a) (d:∀ i,Def ρ i→Def ρ' i):∀ {vs:List V} {xs:List Dm.Val},cF Hs H0 H σ ρ vs xs→cF Hs H0 H σ ρ' vs xs
 | _,_,.nil=>.nil
 | _,_,.cons h r=>.cons (h.rho o d) (cF.rho o d r)
theorem cF.early {Hs Hs' H0 H:Hp} {σ:St} {ρ:Dm.Env} (k:∀ a,Hs a=none→Hs' a=none):∀ {vs:List V} {xs:List Dm.Val},cF Hs H0 H σ ρ vs xs→cF Hs' H0 H σ ρ vs xs
 | _,_,.nil=>.nil
 | _,_,.cons h r=>.cons (h.early k) (cF.early k r)
theorem aP {ρ:Dm.Env} {i j:Nat} {c d:Dm.Cell} (h:(ρ.set i c)[j]?=some d):(j=i∧d=c)∨(j≠i∧ρ[j]?=some d):=by
 by_cases e:j=i
 ·subst e
  by_cases l:j<ρ.length
  ·rw [List.getElem?_set_self l] at h
   exact .inl ⟨rfl,(Option.some.inj h).symm⟩
  ·rw [List.getElem?_eq_none (by simpa using Nat.not_lt.mp l)] at h
   cases h
 ·rw [List.getElem?_set_ne (Ne.symm e)] at h
  exact .inr ⟨e,h⟩
theorem se {H0 H:Hp} {σ:St} {ρ:Dm.Env} {i:Nat} {a:Addr} {d:Dm.Dat} (st:aA H0 H σ ρ) (e:ρ[i]?=some (.ow d)) (q:σ[i]?=some (some (V.ref a))) :
  aA (shr H0 H a) H σ (ρ.set i (.sh d))∧(∀ b,aj σ (ρ.set i (.sh d)) b→aj σ ρ b)∧∀ j,Def ρ j→Def (ρ.set i (.sh d)) j:=by
 obtain ⟨a',q',n,w⟩:=st.ow i d e
 rw [q] at q'
 cases q'
 have hil:i<ρ.length:=(List.getElem?_eq_some_iff.mp e).1
 refine ⟨⟨uB st.same,by rw [List.length_set];exact st.len,fun j d' h=>?_,fun j d' h=>?_,fun j k d1 d2 b h1 h2 h3 h4=>?_⟩,fun b ⟨j,d',h1,h2⟩=>?_,fun j h=>?_⟩
 ·rcases aP h with ⟨rfl,z⟩ | ⟨_,h⟩
  ·cases z
   exact ⟨_,q,w.rep n⟩
  ·obtain ⟨v,z,r⟩:=st.sh j d' h
   exact ⟨v,z,r.mono (gX n)⟩
 ·rcases aP h with ⟨_,z⟩ | ⟨hj,h⟩
  ·cases z
  ·obtain ⟨b,z,n',w'⟩:=st.ow j d' h
   have nb:b≠a:=fun y=>hj (st.dis j i d' d a h e (y▸z) q)
   exact ⟨b,z,by rw [fH nb];exact n',w'.mono (gX n) rfl⟩
 ·rcases aP h1 with ⟨_,z⟩ | ⟨_,h1⟩
  ·cases z
  ·rcases aP h2 with ⟨_,z⟩ | ⟨_,h2⟩
   ·cases z
   ·exact st.dis j k d1 d2 b h1 h2 h3 h4
 ·rcases aP h1 with ⟨_,z⟩ | ⟨_,h1⟩
  ·cases z
  ·exact ⟨j,d',h1,h2⟩
 ·trivial
theorem wH {H0 H:Hp} {σ:St} {ρ:Dm.Env} {a:Addr} (st:aA H0 H σ ρ) (no:¬ aj σ ρ a):aA (shr H0 H a) H σ ρ where
 same:=uB st.same
 len:=st.len
 sh:=fun j d h=>by
  obtain ⟨v,z,r⟩:=st.sh j d h
  exact ⟨v,z,r.mono (cz st.same)⟩
 ow:=fun j d h=>by
  obtain ⟨b,z,n',w'⟩:=st.ow j d h
  have nb:b≠a:=fun y=>no ⟨j,d,h,y▸z⟩
  exact ⟨b,z,by rw [fH nb];exact n',w'.mono (cz st.same) rfl⟩
 dis:=st.dis
theorem take1 {Hs H0s H0 H0c H:Hp} {σ:St} {ρs ρ ρ':Dm.Env} {v:V} {x:Dm.Val} {d:Dm.Dat} (t:ESt σ ρs H0s Hs ρ H0c H) (b:ak H0 H0c) (r:d_ Hs H0 H σ ρ v x) (e:Dm.tk ρ x=some (d,ρ')) :
  ∃ jX,ESt σ ρs H0s Hs ρ' jX H∧ak H0c jX∧Rep jX v d∧(∀ a,aj σ ρ' a→aj σ ρ a)∧∀ i,Def ρ i→Def ρ' i:=by
 cases x with
 | val d'=>cases e;exact ⟨H0c,t,ak.refl _,Rep.mono b r,fun _ z=>z,fun _ z=>z⟩
 | new d'=>
  cases e
  obtain ⟨a,e,n,no,n0,w⟩:=r
  subst e
  have ss:=cz (a:=a) t.st.same
  refine ⟨shr H0c H a,⟨wH t.st no,⟨t.stp.s0.trans ss,t.stp.s1,fun c o q=>?_,t.stp.s3⟩,t.own,t.dfn⟩,ss,w.Jm b t.st.same,fun _ z=>z,fun _ z=>z⟩
  by_cases y:c=a
  ·subst y;exact .inl n
  ·rw [fH y] at q;exact t.stp.s2 c o q
 | slot i=>
  obtain ⟨q,_⟩:=r
  unfold Dm.tk at e
  dsimp only at e
  split at e
  ·rename_i d' h
   cases e
   obtain ⟨a,z,n,w⟩:=t.st.ow i _ h
   rw [q] at z
   cases z
   obtain ⟨s1,s2,s3⟩:=se t.st h q
   have ss:=cz (a:=a) t.st.same
   refine ⟨shr H0c H a,⟨s1,⟨t.stp.s0.trans ss,t.stp.s1,fun c o q'=>?_,t.stp.s3⟩,fun b z=>t.own b (s2 b z),fun j z=>s3 j (t.dfn j z)⟩,ss,w.Jm (ak.refl _) t.st.same,s2,s3⟩
   by_cases y:c=a
   ·subst y;exact .inr (.inr (t.own c ⟨i,_,h,q⟩))
   ·rw [fH y] at q';exact t.stp.s2 c o q'
  ·rename_i d' h
   cases e
   obtain ⟨u,z,w⟩:=t.st.sh i _ h
   rw [q] at z
   cases z
   exact ⟨H0c,t,ak.refl _,w,fun _ z=>z,fun _ z=>z⟩
  ·cases e
theorem takes {Hs H0s H0 H:Hp} {σ:St} {ρs:Dm.Env}:∀ {xs:List Dm.Val} {vs:List V} {ρ ρ':Dm.Env} {ds:List Dm.Dat} {H0c:Hp},ESt σ ρs H0s Hs ρ H0c H→ak H0 H0c→cF Hs H0 H σ ρ vs xs→Dm.tks ρ xs=some (ds,ρ') →
  ∃ jX,ESt σ ρs H0s Hs ρ' jX H∧ak H0c jX∧aC jX vs ds
 | [],_,ρ,ρ',ds,H0c,t,b,r,e=>by
  cases r
  cases e
  exact ⟨H0c,t,ak.refl _,.nil⟩
 | x::xs,_,ρ,ρ',ds,H0c,t,b,r,e=>by
  cases r with
  | cons h r=>
   unfold Dm.tks at e
   split at e
   ·cases e
   ·rename_i d ρ1 e1
    split at e
    ·cases e
    ·rename_i ds' ρ2 e2
     cases e
     obtain ⟨H1,t1,b1,r1,o1,d1⟩:=take1 t b h e1
     obtain ⟨H2,t2,b2,r2⟩:=takes t1 (b.trans b1) (r.rho o1 d1) e2
     exact ⟨H2,t2,b1.trans b2,.cons (r1.mono b2) r2⟩
theorem Jo {ρ ρ':Dm.Env} {x:Dm.Val} {d:Dm.Dat} (e:Dm.tk ρ x=some (d,ρ')) (y:Dm.Val):Dm.pk ρ' y=Dm.pk ρ y:=by
 cases x with
 | val d'=>cases e;rfl
 | new d'=>cases e;rfl
 | slot i=>
  unfold Dm.tk at e
  dsimp only at e
  split at e
  ·rename_i d' h
   cases e
   cases y with
   | val _=>rfl
   | new _=>rfl
   | slot j=>
    unfold Dm.pk
    dsimp only
    by_cases z:j=i
    ·subst z
     rw [List.getElem?_set_self (List.getElem?_eq_some_iff.mp h).1,h]
    ·rw [List.getElem?_set_ne (Ne.symm z)]
  ·cases e;rfl
  ·cases e
theorem yt {ρ:Dm.Env} {x:Dm.Val} {d:Dm.Dat} (e:Dm.pk ρ x=some d):∃ ρ',Dm.tk ρ x=some (d,ρ'):=by
 cases x with
 | val d'=>cases e;exact ⟨ρ,rfl⟩
 | new d'=>cases e;exact ⟨ρ,rfl⟩
 | slot i=>
  unfold Dm.pk at e
  dsimp only at e
  unfold Dm.tk
  dsimp only
  split at e
  ·rename_i d' h;cases e;exact ⟨_,rfl⟩
  ·rename_i d' h;cases e;exact ⟨_,rfl⟩
  ·cases e
theorem jY:∀ {xs:List Dm.Val} {ρ:Dm.Env} {ds:List Dm.Dat},Dm.pks ρ xs=some ds→∃ ρ',Dm.tks ρ xs=some (ds,ρ')
 | [],ρ,ds,e=>by cases e;exact ⟨ρ,rfl⟩
 | x::xs,ρ,ds,e=>by
  unfold Dm.pks at e
  split at e
  ·cases e
  ·rename_i d e1
   split at e
   ·cases e
   ·rename_i ds' e2
    cases e
    obtain ⟨ρ1,h1⟩:=yt e1
    have key:∀ ys:List Dm.Val,Dm.pks ρ1 ys=Dm.pks ρ ys:=fun ys=>by
     induction ys with
     | nil=>rfl
     | cons y ys ih=>unfold Dm.pks;rw [Jo h1 y,ih]
    obtain ⟨ρ2,h2⟩:=jY (xs:=xs) (ρ:=ρ1) (ds:=ds') (by rw [key];exact e2)
    exact ⟨ρ2,by unfold Dm.tks;rw [h1];dsimp only;rw [h2]⟩
theorem looks {Hs H0 H:Hp} {σ:St} {ρ:Dm.Env} (st:aA H0 H σ ρ):∀ {xs:List Dm.Val} {vs:List V} {ds:List Dm.Dat},cF Hs H0 H σ ρ vs xs→Dm.pks ρ xs=some ds→pM H0 H vs ds
 | [],_,ds,r,e=>by cases r;cases e;exact .nil
 | x::xs,_,ds,r,e=>by
  cases r with
  | cons h r=>
   unfold Dm.pks at e
   split at e
   ·cases e
   ·rename_i d e1
    split at e
    ·cases e
    ·rename_i ds' e2
     cases e
     exact .cons (h.look st e1) (looks st r e2)
noncomputable def OpD (r:R2) (g:Dm.Dat→Dm.Dat→Option Dm.RV):Prop:=∀ (H0 H:Hp) (x y:V) (dx dy:Dm.Dat) (z:Dm.RV) (Q:VK),ak H0 H→iO H0 H x dx→iO H0 H y dy→g dx dy=some z →
 (∀ v H0' H',aM H0 H H0' H'→pN H H0' H' v z→Q v H')→r x y H Q
noncomputable def UnD (r:V→Hp→VK→Prop) (g:Dm.Dat→Option Dm.RV):Prop:=∀ (H0 H:Hp) (x:V) (dx:Dm.Dat) (z:Dm.RV) (Q:VK),ak H0 H→iO H0 H x dx→g dx=some z →
 (∀ v H0' H',aM H0 H H0' H'→pN H H0' H' v z→Q v H')→r x H Q
noncomputable def CallD (r:List V→Hp→VK→Prop) (g:List Dm.Dat→Option Dm.RV):Prop:=∀ (H0 H:Hp) (vs:List V) (ds:List Dm.Dat) (z:Dm.RV) (Q:VK),ak H0 H→pM H0 H vs ds→g ds=some z →
 (∀ v H0' H',aM H0 H H0' H'→pN H H0' H' v z→Q v H')→r vs H Q
noncomputable def spD (f:List Dm.Dat→Option Dm.RV):Sp:=fun vs H Q _=>∃ H0 ds z,ak H0 H∧aC H0 vs ds∧f ds=some z∧∀ v H0' H',aM H0 H H0' H'→pN H H0' H' v z→Q v H'
section
variable {σ:St} {H:Hp} {Q:VK}
theorem Jp {i:Nat} (h:tD (Dm.eV i) σ H Q):mC i σ H Q:=by
 obtain ⟨H0,ρ,x,ρ',st,e,k⟩:=h
 unfold Dm.eV at e
 split at e
 ·rename_i d h1
  cases e
  obtain ⟨v,q,r⟩:=st.sh i d h1
  exact ⟨v,q,k v H0 H (.refl st) r⟩
 ·rename_i d h1
  cases e
  obtain ⟨a,q,_⟩:=st.ow i d h1
  exact ⟨_,q,k _ H0 H (.refl st) ⟨q,trivial⟩⟩
 ·cases e
theorem gY {d:Dm.Dat} {v:V} (c:∀ H0:Hp,Rep H0 v d) (h:tD (Dm.eC d) σ H Q):tC v σ H Q:=by
 obtain ⟨H0,ρ,x,ρ',st,e,k⟩:=h
 cases e
 exact k v H0 H (.refl st) (c H0)
theorem sj {r:R2} {g:Dm.Dat→Dm.Dat→Option Dm.RV} {fa fb:Dm.FE} (o:OpD r g) (h:tD (Dm.e2 g fa fb) σ H Q):tOp r (tD fa) (tD fb) σ H Q:=by
 obtain ⟨H0,ρ,x,ρ',st,e,k⟩:=h
 unfold Dm.e2 at e
 split at e
 ·cases e
 rename_i x1 ρ1 e1
 split at e
 ·cases e
 rename_i y1 ρ2 e2
 split at e
 ·cases e
 rename_i dx p1
 split at e
 ·cases e
 rename_i dy p2
 split at e
 ·cases e
 rename_i z gz
 cases e
 refine ⟨H0,ρ,x1,ρ1,st,e1,fun v H1 Hb t1 r1=>⟨H1,ρ1,y1,_,t1.st,e2,fun u H2 Hc t2 r2=>?_⟩⟩
 refine o H2 Hc v u dx dy z Q t2.st.same ((r1.mono t2).look t2.st p1) (r2.look t2.st p2) gz fun w H3 Hd g3 r3=>?_
 exact k w H3 Hd (t1.trans (t2.trans (.grow t2.st g3))) ((r3.toV t2.st).early fun a n=>(t1.trans t2).stp.gone n)
theorem LD {r:V→Hp→VK→Prop} {g:Dm.Dat→Option Dm.RV} {fa:Dm.FE} (o:UnD r g) (h:tD (Dm.e1 g fa) σ H Q):tUn r (tD fa) σ H Q:=by
 obtain ⟨H0,ρ,x,ρ',st,e,k⟩:=h
 unfold Dm.e1 at e
 split at e
 ·cases e
 rename_i x1 ρ1 e1
 split at e
 ·cases e
 rename_i dx p1
 split at e
 ·cases e
 rename_i z gz
 cases e
 refine ⟨H0,ρ,x1,_,st,e1,fun v H1 Hb t1 r1=>?_⟩
 refine o H1 Hb v dx z Q t1.st.same (r1.look t1.st p1) gz fun w H3 Hd g3 r3=>?_
 exact k w H3 Hd (t1.trans (.grow t1.st g3)) ((r3.toV t1.st).early fun a n=>t1.stp.gone n)
theorem Jq {Q:List V→Hp→Prop} (h:tDA [] σ H Q):x8 σ H Q:=by
 obtain ⟨H0,ρ,xs,ρ',st,e,k⟩:=h
 cases e
 exact k [] H0 H (.refl st) .nil
theorem F2 {f:Dm.FE} {fs:List Dm.FE} {Q:List V→Hp→Prop} (h:tDA (f::fs) σ H Q):uv (tD f) (tDA fs) σ H Q:=by
 obtain ⟨H0,ρ,xs,ρ',st,e,k⟩:=h
 unfold Dm.eAs at e
 split at e
 ·cases e
 rename_i x1 ρ1 e1
 split at e
 ·cases e
 rename_i xs1 ρ2 e2
 cases e
 refine ⟨H0,ρ,x1,ρ1,st,e1,fun v H1 Hb t1 r1=>⟨H1,ρ1,xs1,_,t1.st,e2,fun vs H2 Hc t2 r2=>?_⟩⟩
 exact k (v::vs) H2 Hc (t1.trans t2) (.cons (r1.mono t2) (r2.early fun a n=>t1.stp.gone n))
theorem F3 {r:List V→Hp→VK→Prop} {g:List Dm.Dat→Option Dm.RV} {fs:List Dm.FE} (o:CallD r g) (h:tD (Dm.eB g fs) σ H Q):tCB r (tDA fs) σ H Q:=by
 obtain ⟨H0,ρ,x,ρ',st,e,k⟩:=h
 unfold Dm.eB at e
 split at e
 ·cases e
 rename_i xs ρ1 e1
 split at e
 ·cases e
 rename_i ds p1
 split at e
 ·cases e
 rename_i z gz
 cases e
 refine ⟨H0,ρ,xs,_,st,e1,fun vs H1 Hb t1 r1=>?_⟩
 refine o H1 Hb vs ds z Q t1.st.same (looks t1.st r1 p1) gz fun w H3 Hd g3 r3=>?_
 exact k w H3 Hd (t1.trans (.grow t1.st g3)) ((r3.toV t1.st).early fun a n=>t1.stp.gone n)
theorem jJ {n:Nat} (h:n≤Dm.SZ):n≤sizeLine:=Nat.le_trans h (by decide)
theorem Jr {fs:List Dm.FE} (h:tD (Dm.iJ fs) σ H Q):Jf (tDA fs) σ H Q:=by
 obtain ⟨H0,ρ,x,ρ',st,e,k⟩:=h
 unfold Dm.iJ at e
 split at e
 ·cases e
 rename_i xs ρ1 e1
 split at e
 ·cases e
 rename_i ds ρ2 e2
 split at e
 ·rename_i hz
  cases e
  refine ⟨H0,ρ,xs,ρ1,st,e1,fun vs H1 Hb t1 r1=>?_⟩
  obtain ⟨H2,t2,b2,r2⟩:=takes t1 (ak.refl _) r1 e2
  refine ⟨by rw [r2.length];exact jJ hz,fun p hp=>?_⟩
  have g:=aM.BY (o:=HO.tup vs) t2.st.same hp
  exact k _ _ _ (t2.trans (.grow t2.st g)) (.tup az (r2.mono g.s0))
 ·cases e
theorem Js {fs:List Dm.FE} (h:tD (Dm.dm fs) σ H Q):BN (tDA fs) σ H Q:=by
 obtain ⟨H0,ρ,x,ρ',st,e,k⟩:=h
 unfold Dm.dm at e
 split at e
 ·cases e
 rename_i xs ρ1 e1
 split at e
 ·cases e
 rename_i ds ρ2 e2
 split at e
 ·rename_i hz
  cases e
  refine ⟨H0,ρ,xs,ρ1,st,e1,fun vs H1 Hb t1 r1=>?_⟩
  obtain ⟨H2,t2,b2,r2⟩:=takes t1 (ak.refl _) r1 e2
  refine ⟨by rw [r2.length];exact jJ hz,fun p hp=>?_⟩
  have g:=aM.mJ (o:=HO.lst vs) t2.st.same hp
  refine k _ _ _ (t2.trans (.grow t2.st g)) ⟨p,rfl,t2.stp.gone hp,fun ⟨i,d,h1,h2⟩=>?_,t2.st.same.free hp,vs,az,r2⟩
  obtain ⟨a,q,_,w⟩:=t2.st.ow i d h1
  rw [h2] at q
  cases q
  obtain ⟨o,z⟩:=w.some
  rw [hp] at z;cases z
 ·cases e
theorem Rep.plain {H0 H1:Hp} {v:V} {d:Dm.Dat} (r:Rep H0 v d) (n:Dm.cD d=false):Rep H1 v d:=by
 cases r with
 | non=>exact .non
 | bl b=>exact .bl b
 | int i=>exact .int i
 | str s=>exact .str s
 | tup _ _=>cases n
 | lst _ _=>cases n
 | dct _ _ _=>cases n
 | exc _=>cases n
 | fn a=>exact .fn a
theorem Own.box {H0 H:Hp} {a:Addr} {d:Dm.Dat} (w:Own H0 H a d):Dm.cD d=true:=by
 cases d with
 | lst ds=>rfl
 | dct ks ds=>rfl
 | _=>exact False.elim w
theorem sq {f:List Dm.Dat→Option Dm.RV} {fs:List Dm.FE} {E:XK} (h:tD (Dm.eF f fs) σ H Q):jT (spD f) [] E (tDA fs) σ H Q:=by
 obtain ⟨H0,ρ,x,ρ',st,e,k⟩:=h
 unfold Dm.eF at e
 split at e
 ·cases e
 rename_i xs ρ1 e1
 split at e
 ·cases e
 rename_i ds p1
 split at e
 ·cases e
 rename_i z fz
 refine ⟨H0,ρ,xs,ρ1,st,e1,fun vs H1 Hb t1 r1=>?_⟩
 dsimp only
 rw [List.append_nil]
 obtain ⟨ρ2,e2⟩:=jY p1
 obtain ⟨H2,t2,b2,r2⟩:=takes t1 (ak.refl _) r1 e2
 split at e
 ·rw [e2] at e
  cases e
  exact ⟨H2,ds,z,t2.st.same,r2,fz,fun w H3 Hd g3 r3=>k w H3 Hd (t2.trans (.grow t2.st g3)) ((r3.toV t2.st).early fun a n=>t2.stp.gone n)⟩
 ·rename_i nb
  cases e
  refine ⟨H2,ds,z,t2.st.same,r2,fz,fun w H3 Hd g3 r3=>?_⟩
  have g:aM H1 Hb H1 Hd:=⟨ak.refl _,g3.s1,fun a o q=>.inr q,t1.st.same.trans g3.s1⟩
  refine k w H1 Hd (t1.trans (.grow t1.st g)) ?_
  cases z with
  | val d=>exact Rep.plain r3 (by simpa [Dm.RV.dat] using nb)
  | new d=>
   obtain ⟨a,_,_,_,w⟩:=r3
   exact absurd w.box (by simpa [Dm.RV.dat] using nb)
theorem LF {t:Dm.FT} {a b:Dm.FE} (h:tD (Dm.eIf t a b) σ H Q):tIf (tDT t) (tD a) (tD b) σ H Q:=by
 obtain ⟨H0,ρ,x,ρ',st,e,k⟩:=h
 unfold Dm.eIf at e
 split at e
 ·cases e
 ·rename_i ρ1 e1
  refine ⟨H0,ρ,true,ρ1,st,e1,fun H1 Hb t1=>?_⟩
  dsimp only
  rw [if_pos rfl]
  exact ⟨H1,ρ1,x,ρ',t1.st,e,fun v H2 Hc t2 r2=>k v H2 Hc (t1.trans t2) (r2.early fun a n=>t1.stp.gone n)⟩
 ·rename_i ρ1 e1
  refine ⟨H0,ρ,false,ρ1,st,e1,fun H1 Hb t1=>?_⟩
  dsimp only
  rw [if_neg Bool.false_ne_true]
  exact ⟨H1,ρ1,x,ρ',t1.st,e,fun v H2 Hc t2 r2=>k v H2 Hc (t1.trans t2) (r2.early fun a n=>t1.stp.gone n)⟩
theorem Rep.nS {H0:Hp} {v:V} {c:Bool} (r:Rep H0 v (.bl c)):v=.bl c:=by cases r;rfl
theorem Rep.isInt {H0:Hp} {v:V} {c:Int} (r:Rep H0 v (.int c)):v=.int c:=by cases r;rfl
theorem Jt {a b:Dm.FE} (h:tD (Dm.gU a b) σ H Q):Dz (tD a) (tD b) σ H Q:=by
 obtain ⟨H0,ρ,x,ρ',st,e,k⟩:=h
 unfold Dm.gU at e
 split at e
 ·rename_i ρ1 e1
  refine ⟨H0,ρ,_,_,st,e1,fun v H1 Hb t1 r1=>⟨true,Rep.nS r1,?_⟩⟩
  try dsimp only
  rw [if_pos rfl]
  exact ⟨H1,ρ1,x,ρ',t1.st,e,fun v H2 Hc t2 r2=>k v H2 Hc (t1.trans t2) (r2.early fun a n=>t1.stp.gone n)⟩
 ·rename_i ρ1 e1
  cases e
  refine ⟨H0,ρ,_,_,st,e1,fun v H1 Hb t1 r1=>⟨false,Rep.nS r1,?_⟩⟩
  try dsimp only
  rw [if_neg Bool.false_ne_true]
  exact k _ H1 Hb t1 (Rep.bl false)
 ·cases e
theorem Ju {a:Dm.FE} (h:tD (Dm.wF a) σ H Q):DB (tD a) σ H Q:=by
 obtain ⟨H0,ρ,x,ρ',st,e,k⟩:=h
 unfold Dm.wF at e
 split at e
 ·rename_i c ρ1 e1
  cases e
  exact ⟨H0,ρ,_,_,st,e1,fun v H1 Hb t1 r1=>⟨c,Rep.nS r1,k _ H1 Hb t1 (Rep.bl (!c))⟩⟩
 ·cases e
variable {Qt:Bool→Hp→Prop}
theorem nT {a:Dm.FE} (h:tDT (Dm.tV a) σ H Qt):DK (tD a) σ H Qt:=by
 obtain ⟨H0,ρ,x,ρ',st,e,k⟩:=h
 unfold Dm.tV at e
 split at e
 ·rename_i c ρ1 e1
  cases e
  exact ⟨H0,ρ,_,_,st,e1,fun v H1 Hb t1 r1=>⟨_,Rep.nS r1,k H1 Hb t1⟩⟩
 ·cases e
theorem F4 {t:Dm.FT} (h:tDT (Dm.di t) σ H Qt):di (tDT t) σ H Qt:=by
 obtain ⟨H0,ρ,x,ρ',st,e,k⟩:=h
 unfold Dm.di at e
 split at e
 ·rename_i c ρ1 e1
  cases e
  exact ⟨H0,ρ,_,_,st,e1,fun H1 Hb t1=>k H1 Hb t1⟩
 ·cases e
theorem F5 {t u:Dm.FT} (h:tDT (Dm.jE t u) σ H Qt):jE (tDT t) (tDT u) σ H Qt:=by
 obtain ⟨H0,ρ,x,ρ',st,e,k⟩:=h
 unfold Dm.jE at e
 split at e
 ·rename_i ρ1 e1
  refine ⟨H0,ρ,_,ρ1,st,e1,fun H1 Hb t1=>?_⟩
  dsimp only
  rw [if_pos rfl]
  exact ⟨H1,ρ1,x,ρ',t1.st,e,fun H2 Hc t2=>k H2 Hc (t1.trans t2)⟩
 ·rename_i ρ1 e1
  cases e
  refine ⟨H0,ρ,_,_,st,e1,fun H1 Hb t1=>?_⟩
  dsimp only
  rw [if_neg Bool.false_ne_true]
  exact k H1 Hb t1
 ·cases e
theorem Jv {t u:Dm.FT} (h:tDT (Dm.tOr t u) σ H Qt):tOr (tDT t) (tDT u) σ H Qt:=by
 obtain ⟨H0,ρ,x,ρ',st,e,k⟩:=h
 unfold Dm.tOr at e
 split at e
 ·rename_i ρ1 e1
  cases e
  refine ⟨H0,ρ,_,_,st,e1,fun H1 Hb t1=>?_⟩
  dsimp only
  rw [if_pos rfl]
  exact k H1 Hb t1
 ·rename_i ρ1 e1
  refine ⟨H0,ρ,_,ρ1,st,e1,fun H1 Hb t1=>?_⟩
  dsimp only
  rw [if_neg Bool.false_ne_true]
  exact ⟨H1,ρ1,x,ρ',t1.st,e,fun H2 Hc t2=>k H2 Hc (t1.trans t2)⟩
 ·cases e
end
structure SSt (σ:St) (ρ:Dm.Env) (H0 H:Hp) (σ':St) (ρ':Dm.Env) (H0' H':Hp):Prop where
 st:aA H0' H' σ' ρ'
 stp:Stp (aj σ ρ) H0 H H0' H'
 own:∀ a,aj σ' ρ' a→aj σ ρ a∨H a=none
 fx:σ'[0]?=σ[0]?
theorem ESt.sst {σ:St} {ρ ρ':Dm.Env} {H0 H H0' H':Hp} (t:ESt σ ρ H0 H ρ' H0' H'):SSt σ ρ H0 H σ ρ' H0' H':=⟨t.st,t.stp,fun a z=>.inl (t.own a z),rfl⟩
theorem SSt.refl {σ:St} {ρ:Dm.Env} {H0 H:Hp} (st:aA H0 H σ ρ):SSt σ ρ H0 H σ ρ H0 H:=(ESt.refl st).sst
theorem SSt.trans {σ σ1 σ2:St} {ρ ρ1 ρ2:Dm.Env} {H0 H H1 H' H2 H'':Hp} (t:SSt σ ρ H0 H σ1 ρ1 H1 H') (u:SSt σ1 ρ1 H1 H' σ2 ρ2 H2 H''):SSt σ ρ H0 H σ2 ρ2 H2 H'':=
 ⟨u.st,t.stp.trans u.stp t.own,fun a z=>(u.own a z).elim (t.own a) fun n=>.inr (t.stp.gone n),u.fx.trans t.fx⟩
noncomputable def Jw (σ:St) (ρ:Dm.Env) (H H0' H':Hp) (v:V):Dm.RV→Prop
 | .val d=>Rep H0' v d
 | .new d=>∃ a,v=V.ref a∧(H a=none∨aj σ ρ a)∧H0' a=none∧Own H0' H' a d
noncomputable def m5 (D:Ends) (σ:St) (ρ:Dm.Env) (H0 H:Hp):Dm.Out→Prop
 | .nx ρ'=>∀ σ' H0' H',SSt σ ρ H0 H σ' ρ' H0' H'→D.nx σ' H'
 | .bk ρ'=>∀ σ' H0' H',SSt σ ρ H0 H σ' ρ' H0' H'→D.bk σ' H'
 | .ct ρ'=>∀ σ' H0' H',SSt σ ρ H0 H σ' ρ' H0' H'→D.ct σ' H'
 | .ret z ρ'=>∀ σ' v H0' H',SSt σ ρ H0 H σ' ρ' H0' H'→Jw σ ρ H H0' H' v z→(∀ d a,z=.new d→v=.ref a→¬ aj σ' ρ' a)→D.rt v H'
noncomputable def tDS (g:Dm.FS):TS:=fun D σ H=>∃ H0 ρ o,aA H0 H σ ρ∧g ρ=some o∧m5 D σ ρ H0 H o
theorem m5.pre {D:Ends} {σ σ1:St} {ρ ρ1:Dm.Env} {H0 H H1 H':Hp} {o:Dm.Out} (t:SSt σ ρ H0 H σ1 ρ1 H1 H') (k:m5 D σ ρ H0 H o):m5 D σ1 ρ1 H1 H' o:=by
 cases o with
 | nx ρ'=>exact fun σ' H0' H' u=>k σ' H0' H' (t.trans u)
 | bk ρ'=>exact fun σ' H0' H' u=>k σ' H0' H' (t.trans u)
 | ct ρ'=>exact fun σ' H0' H' u=>k σ' H0' H' (t.trans u)
 | ret z ρ'=>
  refine fun σ' v H0' H'' u r no=>k σ' v H0' H'' (t.trans u) ?_ no
  cases z with
  | val d=>exact r
  | new d=>
   obtain ⟨a,e,n,n0,w⟩:=r
   refine ⟨a,e,?_,n0,w⟩
   rcases n with n | n
   ·exact .inl (t.stp.gone n)
   ·exact (t.own a n).symm
theorem aA.mask {H0 H:Hp} {σ:L2.St} {ρ:Dm.Env} (st:aA H0 H σ ρ) (i:Nat):aA H0 H σ (ρ.set i .un) where
 same:=st.same
 len:=by rw [List.length_set];exact st.len
 sh:=fun j d h=>by
  by_cases q:i=j
  ·subst q;rw [List.getElem?_set] at h;simp only [if_true] at h;split at h<;>cases h
  ·rw [List.getElem?_set_ne q] at h;exact st.sh j d h
 ow:=fun j d h=>by
  by_cases q:i=j
  ·subst q;rw [List.getElem?_set] at h;simp only [if_true] at h;split at h<;>cases h
  ·rw [List.getElem?_set_ne q] at h;exact st.ow j d h
 dis:=fun j j' d d' a h1 h2 h3 h4=>by
  by_cases q:i=j
  ·subst q;rw [List.getElem?_set] at h1;simp only [if_true] at h1;split at h1<;>cases h1
  ·by_cases q':i=j'
   ·subst q';rw [List.getElem?_set] at h2;simp only [if_true] at h2;split at h2<;>cases h2
   ·rw [List.getElem?_set_ne q] at h1
    rw [List.getElem?_set_ne q'] at h2
    exact st.dis j j' d d' a h1 h2 h3 h4
theorem bZ {σ:L2.St} {ρ:Dm.Env} {i:Nat} {a:Addr} (h:aj σ (ρ.set i .un) a):∃ (j:Nat) (d:Dm.Dat),j≠i∧ρ[j]?=some (Dm.Cell.ow d)∧σ[j]?=some (some (V.ref a)):=by
 obtain ⟨j,d,h1,h2⟩:=h
 by_cases q:i=j
 ·subst q;rw [List.getElem?_set] at h1;simp only [if_true] at h1;split at h1<;>cases h1
 ·rw [List.getElem?_set_ne q] at h1;exact ⟨j,d,fun z=>q z.symm,h1,h2⟩
section
variable {D:Ends} {σ:St} {H:Hp}
theorem LG (h:tDS Dm.sNx D σ H):xN D σ H:=by
 obtain ⟨H0,ρ,o,st,e,k⟩:=h
 cases e
 exact k σ H0 H (.refl st)
theorem Jx {s u:Dm.FS} (h:tDS (Dm.aD s u) D σ H):vY (tDS s) (tDS u) D σ H:=by
 obtain ⟨H0,ρ,o,st,e,k⟩:=h
 unfold Dm.aD at e
 split at e
 ·rename_i ρ1 e1
  exact ⟨H0,ρ,.nx ρ1,st,e1,fun σ' H0' H' t=>⟨H0',ρ1,o,t.st,e,k.pre t⟩⟩
 ·rename_i h1
  cases o with
  | nx ρ1=>exact absurd e (h1 ρ1)
  | bk ρ1=>exact ⟨H0,ρ,_,st,e,k⟩
  | ct ρ1=>exact ⟨H0,ρ,_,st,e,k⟩
  | ret z ρ1=>exact ⟨H0,ρ,_,st,e,k⟩
theorem F6 {f:Dm.FE} (h:tDS (Dm.sE f) D σ H):uq (tD f) D σ H:=by
 obtain ⟨H0,ρ,o,st,e,k⟩:=h
 unfold Dm.sE at e
 split at e
 ·cases e
 ·rename_i x ρ1 e1
  cases e
  exact ⟨H0,ρ,x,ρ1,st,e1,fun v H0' H' t r=>k σ H0' H' t.sst⟩
theorem Jy {f:Dm.FE} (h:tDS (Dm.sR f) D σ H):I0 (tD f) D σ H:=by
 obtain ⟨H0,ρ,o,st,e,k⟩:=h
 unfold Dm.sR at e
 split at e
 ·cases e
 ·rename_i d ρ1 e1
  cases e
  refine ⟨H0,ρ,_,ρ1,st,e1,fun v H0' H' t r=>?_⟩
  obtain ⟨a,e,n,no,n0,w⟩:=r
  exact k σ v H0' H' t.sst ⟨a,e,.inl n,n0,w⟩ fun d' a' _ e' z=>by
   rw [e] at e'
   cases e'
   exact no z
 ·rename_i d ρ1 e1
  cases e
  exact ⟨H0,ρ,_,ρ1,st,e1,fun v H0' H' t r=>k σ v H0' H' t.sst r fun d' a' z=>by cases z⟩
 ·rename_i i ρ1 e1
  split at e
  ·rename_i d h1
   cases e
   refine ⟨H0,ρ,_,ρ1,st,e1,fun v H0' H' t r=>?_⟩
   obtain ⟨q,_⟩:=r
   obtain ⟨a,q',n0,w⟩:=t.st.ow i d h1
   rw [q] at q'
   cases q'
   refine k σ _ H0' H' ⟨t.st.mask i,t.stp,fun b z=>?_,rfl⟩ ⟨a,rfl,.inr (t.own a ⟨i,d,h1,q⟩),n0,w⟩ fun d' a' _ e' z=>?_
   ·obtain ⟨j,d2,_,z1,z2⟩:=bZ z
    exact .inl (t.own b ⟨j,d2,z1,z2⟩)
   ·cases e'
    obtain ⟨j,d2,hj,z1,z2⟩:=bZ z
    exact hj (t.st.dis j i d2 d a z1 h1 z2 q)
  ·rename_i d h1
   cases e
   refine ⟨H0,ρ,_,ρ1,st,e1,fun v H0' H' t r=>?_⟩
   obtain ⟨q,_⟩:=r
   obtain ⟨u,q',w⟩:=t.st.sh i d h1
   rw [q] at q'
   cases q'
   exact k σ _ H0' H' t.sst w fun d' a' z=>by cases z
  ·cases e
theorem Jz {t:Dm.FT} {a b:Dm.FS} (h:tDS (Dm.sIf t a b) D σ H):E_ (tDT t) (tDS a) (tDS b) D σ H:=by
 obtain ⟨H0,ρ,o,st,e,k⟩:=h
 unfold Dm.sIf at e
 split at e
 ·cases e
 ·rename_i ρ1 e1
  refine ⟨H0,ρ,true,ρ1,st,e1,fun H1 Hb t1=>?_⟩
  dsimp only
  rw [if_pos rfl]
  exact ⟨H1,ρ1,o,t1.st,e,k.pre t1.sst⟩
 ·rename_i ρ1 e1
  refine ⟨H0,ρ,false,ρ1,st,e1,fun H1 Hb t1=>?_⟩
  dsimp only
  rw [if_neg Bool.false_ne_true]
  exact ⟨H1,ρ1,o,t1.st,e,k.pre t1.sst⟩
end
theorem ee {σ:St} {i j:Nat} {c d:Option V} (h:(σ.set i c)[j]?=some d):(j=i∧d=c)∨(j≠i∧σ[j]?=some d):=by
 by_cases e:j=i
 ·subst e
  by_cases l:j<σ.length
  ·rw [List.getElem?_set_self l] at h
   exact .inl ⟨rfl,(Option.some.inj h).symm⟩
  ·rw [List.getElem?_eq_none (by simpa using Nat.not_lt.mp l)] at h
   cases h
 ·rw [List.getElem?_set_ne (Ne.symm e)] at h
  exact .inr ⟨e,h⟩
theorem aA.inσ {H0 H:Hp} {σ:St} {ρ:Dm.Env} {i:Nat} {c d:Dm.Cell} (st:aA H0 H σ ρ) (h:(ρ.set i c)[i]?=some d):i<σ.length:=by
 have:=(List.getElem?_eq_some_iff.mp h).1
 rw [List.length_set] at this
 rw [st.len];exact this
theorem dw {σ:St} {ρ:Dm.Env} {i:Nat} {v:V} {d:Dm.Dat} {b:Addr} (h:aj (σ.set i (some v)) (ρ.set i (.sh d)) b):aj σ ρ b:=by
 obtain ⟨j,d',h1,h2⟩:=h
 rcases aP h1 with ⟨_,z⟩ | ⟨hj,h1⟩
 ·cases z
 ·rcases ee h2 with ⟨z,_⟩ | ⟨_,h2⟩
  ·exact absurd z hj
  ·exact ⟨j,d',h1,h2⟩
theorem aA.sr {H0 H:Hp} {σ:St} {ρ:Dm.Env} {i:Nat} {v:V} {d:Dm.Dat} (st:aA H0 H σ ρ) (r:Rep H0 v d):aA H0 H (σ.set i (some v)) (ρ.set i (.sh d)) where
 same:=st.same
 len:=by rw [List.length_set,List.length_set];exact st.len
 sh:=fun j d' h=>by
  rcases aP h with ⟨rfl,z⟩ | ⟨hj,h'⟩
  ·cases z
   exact ⟨v,List.getElem?_set_self (st.inσ h),r⟩
  ·obtain ⟨u,q,w⟩:=st.sh j d' h'
   exact ⟨u,by rw [List.getElem?_set_ne (Ne.symm hj)];exact q,w⟩
 ow:=fun j d' h=>by
  rcases aP h with ⟨_,z⟩ | ⟨hj,h'⟩
  ·cases z
  ·obtain ⟨u,q,w⟩:=st.ow j d' h'
   exact ⟨u,by rw [List.getElem?_set_ne (Ne.symm hj)];exact q,w⟩
 dis:=fun j k d1 d2 b h1 h2 h3 h4=>by
  rcases aP h1 with ⟨_,z⟩ | ⟨hj,h1⟩
  ·cases z
  rcases aP h2 with ⟨_,z⟩ | ⟨hk,h2⟩
  ·cases z
  rw [List.getElem?_set_ne (Ne.symm hj)] at h3
  rw [List.getElem?_set_ne (Ne.symm hk)] at h4
  exact st.dis j k d1 d2 b h1 h2 h3 h4
theorem aA.yu {H0 H:Hp} {σ:St} {ρ:Dm.Env} {i:Nat} {a:Addr} {d:Dm.Dat} (st:aA H0 H σ ρ) (no:¬ aj σ ρ a) (n0:H0 a=none) (w:Own H0 H a d):aA H0 H (σ.set i (some (.ref a))) (ρ.set i (.ow d)) where
 same:=st.same
 len:=by rw [List.length_set,List.length_set];exact st.len
 sh:=fun j d' h=>by
  rcases aP h with ⟨_,z⟩ | ⟨hj,h'⟩
  ·cases z
  ·obtain ⟨u,q,w⟩:=st.sh j d' h'
   exact ⟨u,by rw [List.getElem?_set_ne (Ne.symm hj)];exact q,w⟩
 ow:=fun j d' h=>by
  rcases aP h with ⟨rfl,z⟩ | ⟨hj,h'⟩
  ·cases z
   exact ⟨a,List.getElem?_set_self (st.inσ h),n0,w⟩
  ·obtain ⟨u,q,w⟩:=st.ow j d' h'
   exact ⟨u,by rw [List.getElem?_set_ne (Ne.symm hj)];exact q,w⟩
 dis:=fun j k d1 d2 b h1 h2 h3 h4=>by
  rcases aP h1 with ⟨e1,z1⟩ | ⟨hj,h1'⟩
  ·rcases aP h2 with ⟨e2,z2⟩ | ⟨hk,h2'⟩
   ·rw [e1,e2]
   ·rcases ee h3 with ⟨_,z⟩ | ⟨z,_⟩
    ·cases z
     rw [List.getElem?_set_ne (Ne.symm hk)] at h4
     exact absurd ⟨k,d2,h2',h4⟩ no
    ·exact absurd e1 z
  ·rcases aP h2 with ⟨e2,z2⟩ | ⟨hk,h2'⟩
   ·rcases ee h4 with ⟨_,z⟩ | ⟨z,_⟩
    ·cases z
     rw [List.getElem?_set_ne (Ne.symm hj)] at h3
     exact absurd ⟨j,d1,h1',h3⟩ no
    ·exact absurd e2 z
   ·rw [List.getElem?_set_ne (Ne.symm hj)] at h3
    rw [List.getElem?_set_ne (Ne.symm hk)] at h4
    exact st.dis j k d1 d2 b h1' h2' h3 h4
theorem nU {σ:St} {ρ:Dm.Env} {i:Nat} {a b:Addr} {d:Dm.Dat} (h:aj (σ.set i (some (.ref a))) (ρ.set i (.ow d)) b):b=a∨aj σ ρ b:=by
 obtain ⟨j,d',h1,h2⟩:=h
 rcases aP h1 with ⟨e,_⟩ | ⟨hj,h1⟩
 ·rcases ee h2 with ⟨_,z⟩ | ⟨z,_⟩
  ·cases z;exact .inl rfl
  ·exact absurd e z
 ·rcases ee h2 with ⟨z,_⟩ | ⟨_,h2⟩
  ·exact absurd z hj
  ·exact .inr ⟨j,d',h1,h2⟩
theorem aA.write {H0 H:Hp} {σ:St} {ρ:Dm.Env} {i:Nat} {a:Addr} {d d':Dm.Dat} {o:HO} (st:aA H0 H σ ρ) (e:ρ[i]?=some (.ow d)) (q:σ[i]?=some (some (V.ref a))) (w':Own H0 (upd H a o) a d') :
  aA H0 (upd H a o) σ (ρ.set i (.ow d')):=by
 obtain ⟨a',q',n,w⟩:=st.ow i d e
 rw [q] at q'
 cases q'
 refine ⟨fun b u z=>?_,by rw [List.length_set];exact st.len,fun j d1 h=>?_,fun j d1 h=>?_,fun j k d1 d2 b h1 h2 h3 h4=>?_⟩
 ·rw [av (aK z n)];exact st.same _ _ z
 ·rcases aP h with ⟨_,z⟩ | ⟨hj,h'⟩
  ·cases z
  ·exact st.sh j d1 h'
 ·rcases aP h with ⟨rfl,z⟩ | ⟨hj,h'⟩
  ·cases z
   exact ⟨a,q,n,w'⟩
  ·obtain ⟨b,q1,n1,w1⟩:=st.ow j d1 h'
   have nb:b≠a:=fun y=>hj (st.dis j i d1 d a h' e (y▸q1) q)
   exact ⟨b,q1,n1,w1.mono (ak.refl _) (av nb)⟩
 ·have f:∀ {j:Nat} {d1:Dm.Dat},(ρ.set i (.ow d'))[j]?=some (.ow d1)→∃ d2,ρ[j]?=some (.ow d2):=fun {j d1} h=>by
   rcases aP h with ⟨rfl,_⟩ | ⟨_,h'⟩
   ·exact ⟨d,e⟩
   ·exact ⟨d1,h'⟩
  obtain ⟨x1,y1⟩:=f h1
  obtain ⟨x2,y2⟩:=f h2
  exact st.dis j k x1 x2 b y1 y2 h3 h4
theorem b_ {σ:St} {ρ:Dm.Env} {i:Nat} {d d':Dm.Dat} {b:Addr} (e:ρ[i]?=some (.ow d)) (h:aj σ (ρ.set i (.ow d')) b):aj σ ρ b:=by
 obtain ⟨j,d1,h1,h2⟩:=h
 rcases aP h1 with ⟨rfl,_⟩ | ⟨_,h'⟩
 ·exact ⟨j,d,e,h2⟩
 ·exact ⟨j,d1,h',h2⟩
theorem Stp.write {σ:St} {ρ:Dm.Env} {H0 H:Hp} {a:Addr} {o:HO} (w:aj σ ρ a):Stp (aj σ ρ) H0 H H0 (upd H a o):=
 ⟨ak.refl _,fun b u e n=>by rw [av (show b≠a from fun z=>n (by rw [z];exact w))];exact e,fun b u e=>.inr (.inl e),fun b u e=>by
  by_cases z:b=a
  ·subst z;exact ⟨o,az⟩
  ·exact ⟨u,by rw [av z];exact e⟩⟩
section
variable {D:Ends} {σ:St} {H:Hp}
theorem yw {i:Nat} {f:Dm.FE} (h:tDS (Dm.sA i f) D σ H):vZ (tD f) (gP i) D σ H:=by
 obtain ⟨H0,ρ,o,st,e,k⟩:=h
 unfold Dm.sA at e
 split at e
 ·cases e
 rename_i hi0
 split at e
 ·cases e
 ·rename_i d ρ1 e1
  cases e
  refine ⟨H0,ρ,_,ρ1,st,e1,fun v H0' H' t r=>?_⟩
  obtain ⟨a,e,n,no,n0,w⟩:=r
  subst e
  refine k _ H0' H' ⟨t.st.yu no n0 w,t.stp,fun b z=>?_,List.getElem?_set_ne hi0⟩
  rcases nU z with rfl | z
  ·exact .inr n
  ·exact .inl (t.own b z)
 ·rename_i x ρ1 _ e1
  split at e
  ·cases e
  ·rename_i d ρ2 e2
   cases e
   refine ⟨H0,ρ,_,ρ1,st,e1,fun v H0' H' t r=>?_⟩
   obtain ⟨H1,t1,b1,r1,_,_⟩:=take1 t (ak.refl _) r e2
   exact k _ H1 H' ⟨t1.st.sr r1,t1.stp,fun b z=>.inl (t1.own b (dw z)),List.getElem?_set_ne hi0⟩
theorem uC {ρ:Dm.Env} {i:Nat} {d:Dm.Dat} {j:Nat} (h:Def ρ j):Def (ρ.set i (.sh d)) j:=trivial
noncomputable def eu:List Nat→TGs
 | []=>Ja
 | i::is=>DF (gP i) (eu is)
theorem uD {H0 H:Hp} {Q:St→Hp→Prop}:∀ {is:List Nat} {xs:List V} {ds:List Dm.Dat} {σ:St} {ρ ρ':Dm.Env},aA H0 H σ ρ→aC H0 xs ds→Dm.sets is ds ρ=some ρ' →
  (∀ σ',aA H0 H σ' ρ'→(∀ a,aj σ' ρ' a→aj σ ρ a)→(∀ j,j∉is→σ'[j]?=σ[j]?)→(∀ j,Def ρ j→Def ρ' j)→σ'[0]?=σ[0]?→Q σ' H)→eu is xs σ H Q
 | [],_,[],σ,ρ,ρ',st,r,e,k=>by
  cases r
  cases e
  exact ⟨rfl,k σ st (fun _ z=>z) (fun _ _=>rfl) (fun _ z=>z) rfl⟩
 | i::is,_,d::ds,σ,ρ,ρ',st,r,e,k=>by
  cases r with
  | cons h r=>
   unfold Dm.sets at e
   split at e
   ·cases e
   rename_i hi0
   refine ⟨_,_,rfl,?_⟩
   refine uD (st.sr h) r e fun σ' st' o' n' d' f'=>k σ' st' (fun a z=>dw (o' a z)) (fun j hj=>?_) (fun j z=>d' j (uC z)) (f'.trans (List.getElem?_set_ne hi0))
   rw [n' j fun z=>hj (List.mem_cons_of_mem _ z)]
   exact List.getElem?_set_ne fun z=>hj (by rw [z];exact List.mem_cons_self)
 | [],_,_::_,_,_,_,_,_,e,_=>by cases e
 | _::_,_,[],_,_,_,_,_,e,_=>by cases e
theorem pO:∀ {is:List Nat} {ds:List Dm.Dat} {ρ ρ':Dm.Env},Dm.sets is ds ρ=some ρ'→ds.length=is.length
 | [],[],_,_,_=>rfl
 | i::is,_::ds,_,_,e=>by
  unfold Dm.sets at e
  split at e
  ·cases e
  ·simp [pO (is:=is) (ds:=ds) e]
 | [],_::_,_,_,e=>by cases e
 | _::_,[],_,_,e=>by cases e
noncomputable def BD (is:List Nat) (g:TG) (bd:Dm.FB):Prop:=∀ (H0 H:Hp) (σ:St) (ρ ρ':Dm.Env) (x:V) (d:Dm.Dat) (Q:St→Hp→Prop),aA H0 H σ ρ→Rep H0 x d→bd d ρ=some ρ' →
 (∀ σ',aA H0 H σ' ρ'→(∀ a,aj σ' ρ' a→aj σ ρ a)→(∀ j,j∉is→σ'[j]?=σ[j]?)→(∀ j,Def ρ j→Def ρ' j)→σ'[0]?=σ[0]?→Q σ' H)→g x σ H Q
theorem uE (i:Nat):BD [i] (gP i) (Dm.bN i):=by
 intro H0 H σ ρ ρ' x d Q st r e k
 unfold Dm.bN at e
 split at e
 ·cases e
 rename_i hi0
 cases e
 refine k _ (st.sr r) (fun a z=>dw z) (fun j hj=>?_) (fun j h=>uC h) (List.getElem?_set_ne hi0)
 exact List.getElem?_set_ne (fun z=>hj (by rw [z];exact List.mem_singleton.mpr rfl))
theorem yx {K:PySem.W.Frag} (is:List Nat) {n:Nat} (hn:is.length=n):BD is (Jb K n (eu is)) (Dm.bT is):=by
 intro H0 H σ ρ ρ' x d Q st r e k
 unfold Dm.bT at e
 split at e
 ·cases r with
  | tup q rs=>exact ⟨_,_,rfl,SqT.of (st.same _ _ q),by rw [rs.length,pO e,hn],uD st rs e k⟩
 ·cases e
theorem JA {K:PySem.W.Frag} {i:Nat} {f:Dm.FE} (h:tDS (Dm.mG i f) D σ H):uq (tBM K "list" nQ (mC i) (tDA [f])) D σ H:=by
 obtain ⟨H0,ρ,o,st,e,k⟩:=h
 unfold Dm.mG at e
 split at e
 ·rename_i ds0 h0
  obtain ⟨a0,q0,n0,w0⟩:=st.ow i _ h0
  refine ⟨_,q0,?_⟩
  split at e
  ·cases e
  rename_i x ρ1 e1
  split at e
  ·cases e
  rename_i d ρ2 e2
  split at e
  ·rename_i ds h2
   split at e
   ·rename_i hz
    cases e
    obtain ⟨xs0,y0,_⟩:=w0
    refine ⟨.inl ⟨rfl,xs0,.inl (.inl y0)⟩,?_⟩
    refine ⟨H0,ρ,[x],ρ1,st,by unfold Dm.eAs;rw [e1];rfl,fun vs H0' H' t r=>?_⟩
    cases r with
    | cons r rr=>
     cases rr
     obtain ⟨H1,t1,b1,r1,_,_⟩:=take1 t (ak.refl _) r e2
     obtain ⟨a,q,n,w⟩:=t1.st.ow i _ h2
     rw [q0] at q
     cases q
     obtain ⟨xs,y,rs⟩:=w
     refine ⟨a0,xs,_,rfl,rfl,y,by rw [rs.length];exact Nat.lt_of_lt_of_le hz (by decide),?_⟩
     have ow:aj σ ρ2 a0:=⟨i,_,h2,q0⟩
     refine k σ H1 _ ⟨t1.st.write h2 q0 ⟨_,az,rs.append (.cons r1 .nil)⟩,t1.stp.trans (Stp.write ow) fun b z=>.inl (t1.own b z),fun b z=>.inl (t1.own b (b_ h2 z)),rfl⟩
   ·cases e
  ·cases e
 ·cases e
theorem F7 (n:Nat) (i:Int):Dm.ixN n i=L2.ixN n i:=rfl
theorem JB {i:Nat} {j f:Dm.FE} (h:tDS (Dm.r9 i j f) D σ H):vZ (tD f) (fq (mC i) (tD j) DO) D σ H:=by
 obtain ⟨H0,ρ,o,st,e,k⟩:=h
 unfold Dm.r9 at e
 split at e
 ·cases e
 rename_i x ρ1 e1
 split at e
 ·cases e
 rename_i d ρ2 e2
 split at e
 case h_2=>cases e
 rename_i d0 h2
 split at e
 ·rename_i m ρ3 e3
  split at e
  ·rename_i ds h3
   split at e
   ·cases e
   ·rename_i p e4
    cases e
    refine ⟨H0,ρ,_,ρ1,st,e1,fun v H0' H' t r=>?_⟩
    obtain ⟨H1,t1,b1,r1,_,_⟩:=take1 t (ak.refl _) r e2
    obtain ⟨a0,q0,_,_⟩:=t1.st.ow i _ h2
    refine ⟨_,q0,H1,ρ2,_,ρ3,t1.st,e3,fun u H2 Hc t2 r2=>?_⟩
    obtain ⟨a,q,n,w⟩:=t2.st.ow i _ h3
    rw [q0] at q
    cases q
    obtain ⟨xs,y,rs⟩:=w
    refine ⟨a0,xs,m,p,rfl,Rep.isInt r2,y,by rw [rs.length];exact e4,?_⟩
    have ow:aj σ ρ3 a0:=⟨i,_,h3,q0⟩
    have tt:=t1.trans t2
    refine k σ H2 _ ⟨t2.st.write h3 q0 ⟨_,az,rs.set (r1.mono t2.stp.s0) p⟩,tt.stp.trans (Stp.write ow) fun b z=>.inl (tt.own b z),fun b z=>.inl (tt.own b (b_ h3 z)),rfl⟩
  ·cases e
 ·cases e
theorem BZ {t:Dm.FT} {body:Dm.FS} {n:Nat} (h:tDS (Dm.whD t body n) D σ H):xR (tDT t) (tDS body) D σ H:=by
 refine ⟨fun m σ H=>tDS (Dm.whD t body m) D σ H,⟨n,h⟩,?_⟩
 rintro m σ H ⟨H0,ρ,o,st,e,k⟩
 cases m with
 | zero=>unfold Dm.whD at e;cases e
 | succ m=>
  unfold Dm.whD at e
  split at e
  ·cases e
  ·rename_i ρ1 e1
   cases e
   refine ⟨H0,ρ,false,ρ1,st,e1,fun H1 Hb t1=>?_⟩
   dsimp only
   rw [if_neg Bool.false_ne_true]
   exact k σ H1 Hb t1.sst
  ·rename_i ρ1 e1
   refine ⟨H0,ρ,true,ρ1,st,e1,fun H1 Hb t1=>?_⟩
   dsimp only
   rw [if_pos rfl]
   refine ⟨fun σ' H'=>tDS (Dm.whD t body m) D σ' H',fun σ' H' q=>⟨m,Nat.lt_succ_self m,q⟩,?_⟩
   have k1:=k.pre t1.sst
   split at e
   ·rename_i ρ2 e2
    exact ⟨H1,ρ1,_,t1.st,e2,fun σ' H0' H' t2=>⟨H0',ρ2,o,t2.st,e,k1.pre t2⟩⟩
   ·rename_i ρ2 e2
    exact ⟨H1,ρ1,_,t1.st,e2,fun σ' H0' H' t2=>⟨H0',ρ2,o,t2.st,e,k1.pre t2⟩⟩
   ·rename_i ρ2 e2
    cases e
    exact ⟨H1,ρ1,_,t1.st,e2,k1⟩
   ·rename_i v ρ2 e2
    cases e
    exact ⟨H1,ρ1,_,t1.st,e2,k1⟩
   ·cases e
noncomputable def JW (J:It) (H00:Hp) (ys:List Dm.Dat):Prop:=∀ H0 H,ak H00 H0→ak H0 H→(∀ i,ys.length≤i→J.stop i H) ∧
 ∀ (i:Nat) (d:Dm.Dat),ys[i]?=some d→J.go i H∧∀ x H',J.yld i H x H'→∃ H0',aM H0 H H0' H'∧Rep H0' x d
noncomputable def tDI (fi:Dm.FI):TI:=fun σ H R=>∃ H0 ρ ys ρ',aA H0 H σ ρ∧fi ρ=some (ys,ρ')∧∀ J H0' H',ESt σ ρ H0 H ρ' H0' H'→JW J H0' ys→R J H'
theorem JC {fi:Dm.FI} {bd:Dm.FB} {g:TG} {body:Dm.FS} {is:List Nat} (hb:BD is g bd) (h:tDS (Dm.d8 fi bd body) D σ H):Fi (tDI fi) g (tDS body) D σ H:=by
 obtain ⟨H0,ρ,o,st,e,k⟩:=h
 unfold Dm.d8 at e
 split at e
 ·cases e
 rename_i ys ρ1 e1
 refine ⟨H0,ρ,ys,ρ1,st,e1,fun J H00 Hb t1 jw=>?_⟩
 refine ⟨fun i m σ H=>∃ H0 ρ o,aA H0 H σ ρ∧ak H00 H0∧m=ys.length-i∧i≤ys.length∧Dm.iK bd body (ys.drop i) ρ=some o∧m5 D σ ρ H0 H o,
  ⟨ys.length,H00,ρ1,o,t1.st,ak.refl _,by simp,Nat.zero_le _,by simpa using e,k.pre t1.sst⟩,?_⟩
 rintro i m σ H ⟨H0,ρ,o,st,s00,rfl,hi,e,k⟩
 obtain ⟨js,jg⟩:=jw H0 H s00 st.same
 by_cases hlt:i<ys.length
 ·have hd:ys[i]?=some ys[i]:=by simp [hlt]
  obtain ⟨g1,g2⟩:=jg i ys[i] hd
  rw [List.drop_eq_getElem_cons hlt] at e
  unfold Dm.iK at e
  refine .inr ⟨g1,fun σ' H'=>∃ H0 ρ o,aA H0 H' σ' ρ∧ak H00 H0∧Dm.iK bd body (ys.drop (i+1)) ρ=some o∧m5 D σ' ρ H0 H' o,?_,fun x H' y=>?_⟩
  ·rintro σ' H' ⟨H0',ρ',o',h1,h2,h3,h4⟩
   exact ⟨ys.length-(i+1),by omega,H0',ρ',o',h1,h2,rfl,hlt,h3,h4⟩
  ·obtain ⟨H0',gr,rx⟩:=g2 x H' y
   split at e
   ·cases e
   ·rename_i ρ2 e2
    have t2:=ESt.grow st gr
    refine hb H0' H' σ ρ ρ2 x ys[i] _ t2.st rx e2 fun σ2 st2 o2 _ _ f2=>?_
    have t3:SSt σ ρ H0 H σ2 ρ2 H0' H':=⟨st2,t2.stp,fun a z=>.inl (o2 a z),f2⟩
    have k3:=k.pre t3
    have s3:ak H00 H0':=s00.trans gr.s0
    split at e
    ·rename_i ρ3 e3
     exact ⟨H0',ρ2,_,st2,e3,fun σ4 H4 Hd t4=>⟨H4,ρ3,o,t4.st,s3.trans t4.stp.s0,e,k3.pre t4⟩⟩
    ·rename_i ρ3 e3
     exact ⟨H0',ρ2,_,st2,e3,fun σ4 H4 Hd t4=>⟨H4,ρ3,o,t4.st,s3.trans t4.stp.s0,e,k3.pre t4⟩⟩
    ·rename_i ρ3 e3
     cases e
     exact ⟨H0',ρ2,_,st2,e3,k3⟩
    ·rename_i v ρ3 e3
     cases e
     exact ⟨H0',ρ2,_,st2,e3,k3⟩
    ·cases e
 ·have e':i=ys.length:=by omega
  subst e'
  rw [List.drop_length] at e
  cases e
  exact .inl ⟨js _ (Nat.le_refl _),k σ H0 H (.refl st)⟩
theorem B0 {K:PySem.W.Frag} {H0:Hp} {a:Addr} {xs:List V} {ds:List Dm.Dat} (hq:Rd H0 a (.lst xs)) (rs:aC H0 xs ds):JW (Itl K a) H0 ds:=by
 intro H0' H s0 s1
 have q:SqL K H a xs:=.inl (ak.rd s1 (ak.rd s0 hq))
 refine ⟨fun i hi=>⟨xs,q,by rw [rs.length];exact hi⟩,fun i d e=>?_⟩
 obtain ⟨v,hv,rv⟩:=rs.get e
 refine ⟨⟨xs,v,q,hv⟩,fun x H' y=>?_⟩
 obtain ⟨e1,y⟩:=y
 subst e1
 have z:=y xs q
 rw [hv] at z
 cases z
 exact ⟨H0',aM.refl s1,rv.mono s0⟩
theorem F8 {K:PySem.W.Frag} {H0:Hp} {a:Addr} {xs:List V} {ds:List Dm.Dat} (hq:H0 a=some (.tup xs)) (rs:aC H0 xs ds):JW (Itt K a) H0 ds:=by
 intro H0' H s0 s1
 have q:SqT K H a xs:=.inl (.inl (s1 _ _ (s0 _ _ hq)))
 refine ⟨fun i hi=>⟨xs,q,by rw [rs.length];exact hi⟩,fun i d e=>?_⟩
 obtain ⟨v,hv,rv⟩:=rs.get e
 refine ⟨⟨xs,v,q,hv⟩,fun x H' y=>?_⟩
 obtain ⟨e1,y⟩:=y
 subst e1
 have z:=y xs q
 rw [hv] at z
 cases z
 exact ⟨H0',aM.refl s1,rv.mono s0⟩
theorem pP {H0:Hp} {lo:Int} {n:Nat}:JW (Itr lo n) H0 (Dm.ups lo n):=by
 intro H0' H s0 s1
 have el:(Dm.ups lo n).length=n:=by simp [Dm.ups]
 refine ⟨fun i hi=>by rw [el] at hi;exact hi,fun i d e=>?_⟩
 have hi:i<n:=by have:=(List.getElem?_eq_some_iff.mp e).1;rw [el] at this;exact this
 have hd:d=.int (lo+i):=by
  unfold Dm.ups at e
  rw [List.getElem?_map,List.getElem?_range hi] at e
  exact (Option.some.inj e).symm
 refine ⟨hi,fun x H' y=>?_⟩
 obtain ⟨rfl,rfl⟩:=y
 subst hd
 exact ⟨H0',aM.refl s1,.int _⟩
variable {R:It→Hp→Prop}
theorem LH {K:PySem.W.Frag} {f:Dm.FE} (h:tDI (Dm.iL f) σ H R):pA K (tD f) σ H R:=by
 obtain ⟨H0,ρ,ys,ρ',st,e,k⟩:=h
 unfold Dm.iL at e
 split at e
 ·cases e
 rename_i x ρ1 e1
 split at e
 ·rename_i ds ρ2 e2
  cases e
  refine ⟨H0,ρ,_,ρ1,st,e1,fun v H0' H' t r=>?_⟩
  obtain ⟨H1,t1,b1,r1,_,_⟩:=take1 t (ak.refl _) r e2
  cases r1 with
  | lst q rs=>exact ⟨_,rfl,⟨_,.inl (ak.rd t1.st.same q)⟩,k _ H1 H' t1 (B0 q rs)⟩
 ·cases e
theorem LI {K:PySem.W.Frag} {f:Dm.FE} (h:tDI (Dm.iT f) σ H R):xT K (tD f) σ H R:=by
 obtain ⟨H0,ρ,ys,ρ',st,e,k⟩:=h
 unfold Dm.iT at e
 split at e
 ·cases e
 rename_i x ρ1 e1
 split at e
 ·rename_i ds ρ2 e2
  cases e
  refine ⟨H0,ρ,_,ρ1,st,e1,fun v H0' H' t r=>?_⟩
  obtain ⟨H1,t1,b1,r1,_,_⟩:=take1 t (ak.refl _) r e2
  cases r1 with
  | tup q rs=>exact ⟨_,rfl,⟨_,.inl (.inl (t1.st.same _ _ q))⟩,k _ H1 H' t1 (F8 q rs)⟩
 ·cases e
theorem JD {f:Dm.FE} (h:tDI (Dm.iR1 f) σ H R):DG (tDA [f]) σ H R:=by
 obtain ⟨H0,ρ,ys,ρ',st,e,k⟩:=h
 unfold Dm.iR1 at e
 split at e
 ·rename_i j ρ1 e1
  split at e
  ·rename_i hb
   cases e
   refine ⟨H0,ρ,[.val (.int j)],_,st,by unfold Dm.eAs;rw [e1];rfl,fun vs H0' H' t r=>?_⟩
   cases r with
   | cons r rr=>
    cases rr
    cases Rep.isInt r
    have h1:=hb.1
    have h2:=hb.2
    unfold Dm.BIG at h1 h2
    exact ⟨j,rfl,by omega,by omega,k _ H0' H' t pP⟩
  ·cases e
 ·cases e
theorem JE {f g:Dm.FE} (h:tDI (Dm.iR2 f g) σ H R):DH (tDA [f,g]) σ H R:=by
 obtain ⟨H0,ρ,ys,ρ',st,e,k⟩:=h
 unfold Dm.iR2 at e
 split at e
 ·rename_i i ρ1 e1
  split at e
  ·rename_i j ρ2 e2
   split at e
   ·rename_i hb
    cases e
    refine ⟨H0,ρ,[.val (.int i),.val (.int j)],_,st,by unfold Dm.eAs;rw [e1];dsimp only;unfold Dm.eAs;rw [e2];rfl,fun vs H0' H' t r=>?_⟩
    cases r with
    | cons r rr=>
     cases rr with
     | cons r' rr=>
      cases rr
      cases Rep.isInt r
      cases Rep.isInt r'
      obtain ⟨h1,h2,h3,h4⟩:=hb
      unfold Dm.BIG at h1 h2 h3 h4
      exact ⟨i,j,rfl,⟨by omega,by omega,by omega,by omega⟩,k _ H0' H' t pP⟩
   ·cases e
  ·cases e
 ·cases e
noncomputable def tLC (wi:TI) (own:Nat) (g:TG) (tt:TT) (te:TE):TE:=fun σ H Q=>wi σ H fun J H1=>∀ D,H1 D=none→∃ W:Nat→Nat→St→Hp→Prop,
 (∃ m,W 0 m (σ++List.replicate own none) (upd H1 D (.lst [])))∧∀ i m σ' H',W i m σ' H' →
  (J.stop i H'∧Q (.ref D) H')∨(J.go i H'∧∀ x H2,J.yld i H' x H2→g x σ' H2 fun σ2 H3=>tt σ2 H3 fun b H4=>if b=true
   then te σ2 H4 fun y H5=>∃ acc,H5 D=some (.lst acc)∧acc.length<sizeLine∧∃ m',m'<m∧W (i+1) m' σ2 (upd H5 D (.lst (acc++[y])))
   else ∃ m',m'<m∧W (i+1) m' σ2 H4)
theorem aA.aside {H0 H:Hp} {σ:St} {ρ:Dm.Env} {a:Addr} {o:HO} (st:aA H0 H σ ρ) (n0:H0 a=none) (no:¬ aj σ ρ a):aA H0 (upd H a o) σ ρ where
 same:=fun b u z=>by rw [av (aK z n0)];exact st.same _ _ z
 len:=st.len
 sh:=st.sh
 ow:=fun j d h=>by
  obtain ⟨b,q,n,w⟩:=st.ow j d h
  have nb:b≠a:=fun y=>no ⟨j,d,h,y▸q⟩
  exact ⟨b,q,n,w.mono (ak.refl _) (av nb)⟩
 dis:=st.dis
theorem aA.bP {H0 H:Hp} {σ:St} {ρ:Dm.Env} {a:Addr} (st:aA H0 H σ ρ) (h:H a=none):¬ aj σ ρ a:=fun ⟨i,d,h1,h2⟩=>by
 obtain ⟨b,q,n,w⟩:=st.ow i d h1
 rw [h2] at q
 cases q
 obtain ⟨o,z⟩:=w.some
 rw [h] at z;cases z
theorem gZ {α:Type} {l:List α} {r:List α} {i:Nat} {x:α} (h:(l++r)[i]?=some x) (n:x∉r):i<l.length∧l[i]?=some x:=by
 by_cases hi:i<l.length
 ·rw [List.getElem?_append_left hi] at h
  exact ⟨hi,h⟩
 ·rw [List.getElem?_append_right (Nat.not_lt.mp hi)] at h
  exact absurd (List.mem_of_getElem? h) n
theorem yz {d:Dm.Dat} {k:Nat}:Dm.Cell.sh d∉List.replicate k Dm.Cell.un:=fun h=>by
 have:=List.eq_of_mem_replicate h
 cases this
theorem g6 {d:Dm.Dat} {k:Nat}:Dm.Cell.ow d∉List.replicate k Dm.Cell.un:=fun h=>by
 have:=List.eq_of_mem_replicate h
 cases this
theorem aA.ext {H0 H:Hp} {σ:St} {ρ:Dm.Env} (st:aA H0 H σ ρ) (k:Nat):aA H0 H (σ++List.replicate k none) (ρ++List.replicate k .un) where
 same:=st.same
 len:=by simp [st.len]
 sh:=fun i d h=>by
  obtain ⟨hi,h⟩:=gZ h yz
  obtain ⟨v,q,r⟩:=st.sh i d h
  exact ⟨v,by rw [List.getElem?_append_left (by rw [st.len];exact hi)];exact q,r⟩
 ow:=fun i d h=>by
  obtain ⟨hi,h⟩:=gZ h g6
  obtain ⟨v,q,r⟩:=st.ow i d h
  exact ⟨v,by rw [List.getElem?_append_left (by rw [st.len];exact hi)];exact q,r⟩
 dis:=fun i j d e a h1 h2 h3 h4=>by
  obtain ⟨hi,h1⟩:=gZ h1 g6
  obtain ⟨hj,h2⟩:=gZ h2 g6
  rw [List.getElem?_append_left (by rw [st.len];exact hi)] at h3
  rw [List.getElem?_append_left (by rw [st.len];exact hj)] at h4
  exact st.dis i j d e a h1 h2 h3 h4
theorem iP {H0 H:Hp} {σ:St} {ρ:Dm.Env} (st:aA H0 H σ ρ) {k:Nat} {a:Addr} (h:aj (σ++List.replicate k none) (ρ++List.replicate k .un) a):aj σ ρ a:=by
 obtain ⟨i,d,h1,h2⟩:=h
 obtain ⟨hi,h1⟩:=gZ h1 g6
 rw [List.getElem?_append_left (by rw [st.len];exact hi)] at h2
 exact ⟨i,d,h1,h2⟩
theorem Stp.aside {O:Addr→Prop} {H0 H H0' H':Hp} {D:Addr} {o:HO} (t:Stp O H0 H H0' H') (hD:H D=none):Stp O H0 H H0' (upd H' D o):=
 ⟨t.s0,fun a u e n=>by rw [av (aK e hD)];exact t.s1 a u e n,t.s2,fun a u e=>by rw [av (aK e hD)];exact t.s3 a u e⟩
theorem ESt.cG {σ:St} {ρ ρ':Dm.Env} {H0 H H0' H':Hp} (t:ESt σ ρ H0 H ρ' H0' H') {D:Addr} {o:HO} (h:H D=some o) (n0:H0 D=none) (no:¬ aj σ ρ D):H' D=some o∧H0' D=none∧¬ aj σ ρ' D:=by
 refine ⟨t.stp.s1 D o h no,?_,fun z=>no (t.own D z)⟩
 cases q:H0' D with
 | none=>rfl
 | some u=>
  rcases t.stp.s2 D u q with z | z | z
  ·rw [h] at z;cases z
  ·rw [n0] at z;cases z
  ·exact absurd z no
noncomputable def JWa (J:It) (H00:Hp) (pa:Option (Addr×HO)) (ys:List Dm.Dat):Prop:=∀ H0 H,ak H00 H0→ak H0 H→(∀ q,pa=some q→H q.1=some q.2)→(∀ i,ys.length≤i→J.stop i H) ∧
 ∀ (i:Nat) (d:Dm.Dat),ys[i]?=some d→J.go i H∧∀ x H',J.yld i H x H'→∃ H0',aM H0 H H0' H'∧Rep H0' x d
theorem pQ {σ:St} {own:Nat} {bd:Dm.FB} {g:TG} {t:Dm.FT} {el:Dm.FE} {is:List Nat} {Q:VK} {H00 Hb:Hp} {ρ1 ρ2:Dm.Env} {ds ys:List Dm.Dat} {J:It} {pa:Option (Addr×HO)} (hb:BD is g bd) (hl:∀ i∈is,σ.length≤i)
  (st1:aA H00 Hb σ ρ1) (hp:∀ q,pa=some q→Hb q.1=some q.2∧H00 q.1=none∧¬ aj σ ρ1 q.1) (jw:JWa J H00 pa ds) (hsz:ds.length≤Dm.SZ) (e2:Dm.cE bd t el ds (ρ1++List.replicate own .un) []=some (ys,ρ2))
  (k:∀ v H0' H',ESt σ ρ1 H00 Hb (ρ2.take ρ1.length) H0' H'→d_ Hb H0' H' σ (ρ2.take ρ1.length) v (.new (.lst ys))→(∀ q,pa=some q→H' q.1=some q.2∧H0' q.1=none)→Q v H') (D:Addr) (hD:Hb D=none) :
  ∃ W:Nat→Nat→St→Hp→Prop,(∃ m,W 0 m (σ++List.replicate own none) (upd Hb D (.lst [])))∧∀ i m σ' H',W i m σ' H' →
  (J.stop i H'∧Q (.ref D) H')∨(J.go i H'∧∀ x H2,J.yld i H' x H2→g x σ' H2 fun σ2 H3=>tDT t σ2 H3 fun b H4=>if b=true
   then tD el σ2 H4 fun y H5=>∃ acc,H5 D=some (.lst acc)∧acc.length<sizeLine∧∃ m',m'<m∧W (i+1) m' σ2 (upd H5 D (.lst (acc++[y])))
   else ∃ m',m'<m∧W (i+1) m' σ2 H4):=by
 have hpD:∀ q,pa=some q→q.1≠D:=fun q e z=>by have:=(hp q e).1;rw [z,hD] at this;cases this
 have noD:¬ aj σ ρ1 D:=st1.bP hD
 refine ⟨fun i m σ' H'=>∃ (H0c:Hp) (ρc:Dm.Env) (wI:List Dm.Dat) (su:List V),aA H0c H' σ' ρc∧ak H00 H0c∧m=ds.length-i∧i≤ds.length∧Dm.cE bd t el (ds.drop i) ρc wI=some (ys,ρ2) ∧
  H' D=some (.lst su)∧aC H0c su wI∧H0c D=none∧wI.length≤i∧Stp (aj σ ρ1) H00 Hb H0c H'∧(∀ j,j<σ.length→σ'[j]?=σ[j]?)∧(∀ a,aj σ' ρc a→aj σ ρ1 a)∧(∀ j,Def ρ1 j→Def ρc j)∧(∀ q,pa=some q→H' q.1=some q.2∧H0c q.1=none∧¬ aj σ' ρc q.1),
  ⟨ds.length,H00,ρ1++List.replicate own .un,[],[],(st1.aside (st1.same.free hD) noD).ext own,ak.refl _,by simp,Nat.zero_le _,by simpa using e2,az,.nil,st1.same.free hD,Nat.zero_le _,(Stp.refl _ _ _).aside hD,
   fun j hj=>List.getElem?_append_left hj,fun a z=>iP st1 z,fun j z=>trivial,fun q e=>⟨by rw [av (hpD q e)];exact (hp q e).1,(hp q e).2.1,fun z=>(hp q e).2.2 (iP st1 z)⟩⟩,?_⟩
 rintro i m σ' H' ⟨H0c,ρc,wI,su,sc,s00,rfl,hi,ec,hDl,ra,n0,hal,sp,hσ,ho,hdf,hpc⟩
 have nOc:¬ aj σ' ρc D:=fun z=>noD (ho D z)
 obtain ⟨js,jg⟩:=jw H0c H' s00 sc.same fun q e=>(hpc q e).1
 by_cases hlt:i<ds.length
 ·have hd:ds[i]?=some ds[i]:=by simp [hlt]
  obtain ⟨g1,g2⟩:=jg i ds[i] hd
  rw [List.drop_eq_getElem_cons hlt] at ec
  unfold Dm.cE at ec
  refine .inr ⟨g1,fun y H2 yy=>?_⟩
  obtain ⟨H0',gr,rx⟩:=g2 y H2 yy
  split at ec
  ·cases ec
  rename_i ρ3 e3
  have t2:=ESt.grow sc gr
  obtain ⟨hD2,n02,no2⟩:=t2.cG hDl n0 nOc
  have hp2:=fun q e=>t2.cG (hpc q e).1 (hpc q e).2.1 (hpc q e).2.2
  refine hb H0' H2 σ' ρc ρ3 y ds[i] _ t2.st rx e3 fun σ3 st3 o3 k3 d3 _=>?_
  have no3:¬ aj σ3 ρ3 D:=fun z=>no2 (o3 D z)
  have po3:∀ q,pa=some q→¬ aj σ3 ρ3 q.1:=fun q e z=>(hp2 q e).2.2 (o3 q.1 z)
  have hσ3:∀ j,j<σ.length→σ3[j]?=σ[j]?:=fun j hj=>(k3 j fun z=>Nat.not_lt.mpr (hl j z) hj).trans (hσ j hj)
  have ho3:∀ a,aj σ3 ρ3 a→aj σ ρ1 a:=fun a z=>ho a (o3 a z)
  have JF:∀ j,Def ρ1 j→Def ρ3 j:=fun j z=>d3 j (hdf j z)
  have sp3:Stp (aj σ ρ1) H00 Hb H0' H2:=sp.trans t2.stp fun a z=>.inl (ho a z)
  have ra3:=ra.mono gr.s0
  have s3:ak H00 H0':=s00.trans gr.s0
  split at ec
  ·cases ec
  ·rename_i ρ4 e4
   refine ⟨H0',ρ3,false,ρ4,st3,e4,fun F9 H'' t4=>?_⟩
   dsimp only
   rw [if_neg Bool.false_ne_true]
   obtain ⟨hD4,n04,no4⟩:=t4.cG hD2 n02 no3
   have hp4:=fun q e=>t4.cG (hp2 q e).1 (hp2 q e).2.1 (po3 q e)
   exact ⟨ds.length-(i+1),by omega,F9,ρ4,wI,su,t4.st,s3.trans t4.stp.s0,rfl,hlt,ec,hD4,ra3.mono t4.stp.s0,n04,Nat.le_succ_of_le hal,sp3.trans t4.stp fun a z=>.inl (ho3 a z),hσ3,fun a z=>ho3 a (t4.own a z),fun j z=>t4.dfn j (JF j z),hp4⟩
  ·rename_i ρ4 e4
   refine ⟨H0',ρ3,true,ρ4,st3,e4,fun F9 H'' t4=>?_⟩
   dsimp only
   rw [if_pos rfl]
   obtain ⟨hD4,n04,no4⟩:=t4.cG hD2 n02 no3
   have hp4:=fun q e=>t4.cG (hp2 q e).1 (hp2 q e).2.1 (po3 q e)
   split at ec
   ·cases ec
   rename_i x5 ρ5 e5
   split at ec
   ·cases ec
   rename_i y6 ρ6 e6
   refine ⟨F9,ρ4,x5,ρ5,t4.st,e5,fun v H5 Hc t5 r5=>?_⟩
   obtain ⟨H6,t6,b6,r6,_,_⟩:=take1 t5 (ak.refl _) r5 e6
   obtain ⟨hD6,n06,no6⟩:=t6.cG hD4 n04 no4
   have hp6:=fun q e=>t6.cG (hp4 q e).1 (hp4 q e).2.1 (hp4 q e).2.2
   refine ⟨su,hD6,?_,ds.length-(i+1),by omega,H6,ρ6,wI++[y6],su++[v],t6.st.aside n06 no6,(s3.trans t4.stp.s0).trans t6.stp.s0,rfl,hlt,ec,az,?_,n06,?_,?_,hσ3,fun a z=>ho3 a (t4.own a (t6.own a z)),fun j z=>t6.dfn j (t4.dfn j (JF j z)),fun q e=>⟨by rw [av (hpD q e)];exact (hp6 q e).1,(hp6 q e).2.1,(hp6 q e).2.2⟩⟩
   ·rw [ra.length]
    unfold Dm.SZ at hsz
    exact Nat.lt_of_le_of_lt (Nat.le_trans hal (Nat.le_trans (Nat.le_of_lt hlt) hsz)) (by decide)
   ·exact ((ra3.mono t4.stp.s0).mono t6.stp.s0).append (.cons r6 .nil)
   ·rw [List.length_append,List.length_singleton];omega
   ·exact ((sp3.trans t4.stp fun a z=>.inl (ho3 a z)).trans t6.stp fun a z=>.inl (ho3 a (t4.own a z))).aside hD
 ·have e':i=ds.length:=by omega
  subst e'
  rw [List.drop_length] at ec
  cases ec
  refine .inl ⟨js _ (Nat.le_refl _),k _ H0c H' ?_ ?_ fun q e=>⟨(hpc q e).1,(hpc q e).2.1⟩⟩
  ·have hlen:σ.length≤ρ2.length:=by
    rw [← sc.len]
    refine Nat.not_lt.mp fun z=>?_
    have q:=hσ σ'.length z
    rw [List.getElem?_eq_none (Nat.le_refl _),List.getElem?_eq_getElem z] at q
    cases q
   have tk:∀ {j:Nat} {c:Dm.Cell},(ρ2.take ρ1.length)[j]?=some c→j<σ.length∧ρ2[j]?=some c:=fun {j c} h=>by
    have hj:j<ρ1.length:=by
     have:=(List.getElem?_eq_some_iff.mp h).1
     rw [List.length_take] at this
     omega
    rw [List.getElem?_take_of_lt hj] at h
    exact ⟨by rw [st1.len];exact hj,h⟩
   have own':∀ a,aj σ (ρ2.take ρ1.length) a→aj σ' ρ2 a:=fun a ⟨j,d,h1,h2⟩=>by
    obtain ⟨hj,h1⟩:=tk h1
    exact ⟨j,d,h1,(hσ j hj).trans h2⟩
   refine ⟨⟨sc.same,?_,fun j d h=>?_,fun j d h=>?_,fun j j' d d' a h1 h2 h3 h4=>?_⟩,sp,fun a z=>ho a (own' a z),fun j z=>?_⟩
   ·rw [List.length_take,← st1.len];omega
   ·obtain ⟨hj,h⟩:=tk h
    obtain ⟨v,q,r⟩:=sc.sh j d h
    exact ⟨v,(hσ j hj).symm.trans q,r⟩
   ·obtain ⟨hj,h⟩:=tk h
    obtain ⟨v,q,r⟩:=sc.ow j d h
    exact ⟨v,(hσ j hj).symm.trans q,r⟩
   ·obtain ⟨hj,h1⟩:=tk h1
    obtain ⟨hj',h2⟩:=tk h2
    exact sc.dis j j' d d' a h1 h2 ((hσ j hj).trans h3) ((hσ j' hj').trans h4)
   ·trivial
  ·refine ⟨D,rfl,hD,fun ⟨j,d,h1,h2⟩=>?_,n0,su,hDl,ra⟩
   have hj:j<ρ1.length:=by
    have:=(List.getElem?_eq_some_iff.mp h1).1
    rw [List.length_take] at this
    omega
   rw [List.getElem?_take_of_lt hj] at h1
   exact nOc ⟨j,d,h1,(hσ j (by rw [st1.len];exact hj)).trans h2⟩
theorem sy {fi:Dm.FI} {own:Nat} {bd:Dm.FB} {g:TG} {t:Dm.FT} {el:Dm.FE} {is:List Nat} {Q:VK} (hb:BD is g bd) (hl:∀ i∈is,σ.length≤i) (h:tD (Dm.bF fi own bd t el) σ H Q) :
  tLC (tDI fi) own g (tDT t) (tD el) σ H Q:=by
 obtain ⟨H0,ρ,x,ρ',st,e,k⟩:=h
 unfold Dm.bF at e
 split at e
 ·cases e
 rename_i ds ρ1 e1
 split at e
 case isFalse=>cases e
 rename_i hsz
 split at e
 ·cases e
 rename_i ys ρ2 e2
 cases e
 refine ⟨H0,ρ,ds,ρ1,st,e1,fun J H00 Hb t1 jw D hD=>pQ (pa:=none) hb hl t1.st (fun q e=>by cases e) (fun H0 H s0 s1 _=>jw H0 H s0 s1) hsz e2 (fun v H0' H' t2 r2 _=>k v H0' H' (t1.trans t2) (r2.early fun a n=>t1.stp.gone n)) D hD⟩
theorem aE {n m:Nat} {body:Dm.FS} {vs:List V} {H:Hp} {Q:VK} {E:XK} (h:spD (Dm.fn n m body) vs H Q E):vs.length=n:=by
 obtain ⟨H0,ds,z,s,rs,e,k⟩:=h
 unfold Dm.fn at e
 split at e
 ·rename_i hl
  rw [rs.length];exact hl
 ·cases e
theorem bg {N:List Str} {n m:Nat} {body:Dm.FS} {vs:List V} {Q:VK} {E:XK} (hm:N.length=n+m) (h:spD (Dm.fn n m body) vs H Q E) :
  tDS body { nx:=fun _ H'=>Q .non H',rt:=Q } (start N vs) H:=by
 have hvn:=aE h
 obtain ⟨H0,ds,z,s,rs,e,k⟩:=h
 have hl:=rs.length
 have no:∀ a,¬ aj (start N vs) (ds.map Dm.Cell.sh++List.replicate m .un) a:=fun a ⟨i,d,h1,_⟩=>by
  by_cases hi:i<ds.length
  ·rw [List.getElem?_append_left (by simpa using hi),List.getElem?_map] at h1
   cases q:ds[i]? with
   | none=>rw [q] at h1;cases h1
   | some y=>rw [q] at h1;cases h1
  ·rw [List.getElem?_append_right (by simpa using hi),List.getElem?_replicate] at h1
   split at h1<;>cases h1
 have st:aA H0 H (start N vs) (ds.map Dm.Cell.sh++List.replicate m .un):=by
  refine ⟨s,?_,fun i d h=>?_,fun i d h=>?_,fun i j d e a h1 h2 _ _=>?_⟩
  ·unfold L2.start
   simp only [List.length_append,List.length_map,List.length_replicate]
   omega
  ·have hi:i<ds.length:=by
    by_cases hi:i<ds.length
    ·exact hi
    ·rw [List.getElem?_append_right (by simpa using hi),List.getElem?_replicate] at h
     split at h<;>cases h
   rw [List.getElem?_append_left (by simpa using hi),List.getElem?_map] at h
   cases q:ds[i]? with
   | none=>rw [q] at h;cases h
   | some y=>
    rw [q] at h
    cases h
    obtain ⟨v,hv,r⟩:=rs.get q
    refine ⟨v,?_,r⟩
    unfold L2.start
    rw [List.getElem?_append_left (by simpa [hl] using hi),List.getElem?_map,hv]
    rfl
  ·by_cases hi:i<ds.length
   ·rw [List.getElem?_append_left (by simpa using hi),List.getElem?_map] at h
    cases q:ds[i]? with
    | none=>rw [q] at h;cases h
    | some y=>rw [q] at h;cases h
   ·rw [List.getElem?_append_right (by simpa using hi),List.getElem?_replicate] at h
    split at h<;>cases h
  ·by_cases hi:i<ds.length
   ·rw [List.getElem?_append_left (by simpa using hi),List.getElem?_map] at h1
    cases q:ds[i]? with
    | none=>rw [q] at h1;cases h1
    | some y=>rw [q] at h1;cases h1
   ·rw [List.getElem?_append_right (by simpa using hi),List.getElem?_replicate] at h1
    split at h1<;>cases h1
 have gr:∀ {H0' H'},Stp (aj (start N vs) (ds.map Dm.Cell.sh++List.replicate m .un)) H0 H H0' H'→ak H0' H'→aM H0 H H0' H':=fun {H0' H'} t ss=>
  ⟨t.s0,fun a o e=>t.s1 a o e (no a),fun a o e=>(t.s2 a o e).imp id fun q=>q.elim id fun z=>absurd z (no a),ss⟩
 unfold Dm.fn at e
 rw [if_pos (by rw [← hl];exact hvn)] at e
 split at e
 ·rename_i r ρ' e1
  cases e
  refine ⟨H0,_,_,st,e1,fun σ' v H0' H' t r _=>k v H0' H' (gr t.stp t.st.same) ?_⟩
  cases z with
  | val d=>exact r
  | new d=>
   obtain ⟨a,e,n,n0,w⟩:=r
   exact ⟨a,e,n.elim id fun z=>absurd z (no a),n0,w⟩
 ·rename_i ρ' e1
  cases e
  exact ⟨H0,_,_,st,e1,fun σ' H0' H' t=>k _ H0' H' (gr t.stp t.st.same) .non⟩
 ·cases e
end
open PySem PySem.Spec PyProof.Rows L2
noncomputable def aU (X:Cx) (nm:List Str) (scope:Scope) (own:List Str) (cl:List (Str×Addr)) (C:Addr) (s:Shared) (H:Hp) (fp:List Addr):Cx where
 prog:=X.prog
 w:=X.w
 K:=X.K
 mg:=X.mg
 base:=X.base
 A:=X.A
 N:=nm++own
 s₀:=s
 H₀:=H
 env:=compEnvC scope cl C X.env
 outer:=X.stack
 stack:=X.stack
 ex:=fp
 fn:=fun _=>false
 calm:=X.calm
 pn:=[]
 xe:=fun _ _=>False
noncomputable def PTs (X:Cx) (ifs:List Expr) (t:TT):Prop:=
 ∀ (pins:List (Addr×Obj)) (s:Shared) (σ:L2.St) (H:Hp) (Q:Bool→Hp→Prop),Inv X pins σ H s→t σ H Q →
  wpAny (model X.prog X.w) X.A (forIn ifs true fun c r=>if r=true then do let ok ← isTrue c X.env (eval c X.env);pure (ForInStep.yield ok) else pure (ForInStep.yield r)) (TP X pins σ Q) X.xe s
noncomputable def B3:TT:=fun _ H Q=>Q true H
theorem uF {X:Cx}:PTs X [] B3:=fun pins s σ H Q I h=>wpAny_tests_nil ⟨H,I,h⟩
theorem B4 {X:Cx} {c:Expr} {t:TT} (h:PT X c t):PTs X [c] t:=fun pins s σ H Q I hq=>wpAny_tests_one (h pins s σ H Q I hq)
theorem cS (env:Env):∀ (names:List (Str×NameKind)) (cs:List (Str×Addr)),(∀ y∈names,y.2=.free→∃ c,env.cells.lookup y.1=some c) →
  ∃ cl,(forIn names cs fun (x:Str×NameKind) (r:List (Str×Addr))=>(if (x.2 == NameKind.free)=true then do let c ← cellOf env x.1;pure (ForInStep.yield ((x.1,c)::r)) else pure (ForInStep.yield r):Sem (ForInStep (List (Str×Addr)))))=pure cl ∧
   (∀ x c,cl.lookup x=some c→env.cells.lookup x=some c∨cs.lookup x=some c)∧(∀ y∈names,y.2=.free→∃ c,cl.lookup y.1=some c)∧(∀ x c,cs.lookup x=some c→∃ c',cl.lookup x=some c')
 | [],cs,_=>⟨cs,rfl,fun _ _ h=>.inr h,fun _ h=>(nomatch h),fun _ c h=>⟨c,h⟩⟩
 | (n,k)::r,cs,h=>by
  have hr:∀ y∈r,y.2=.free→∃ c,env.cells.lookup y.1=some c:=fun y hy=>h y (List.mem_cons_of_mem _ hy)
  by_cases hk:k=.free
  ·subst hk
   obtain ⟨c,hc⟩:=h (n,.free) List.mem_cons_self rfl
   obtain ⟨cl,e,h1,h2,h3⟩:=cS env r ((n,c)::cs) hr
   refine ⟨cl,?_,fun x c' q=>?_,fun y hy hf=>?_,fun x c' q=>?_⟩
   ·rw [List.forIn_cons]
    have e1:cellOf env n=pure c:=by unfold cellOf;rw [hc]
    simp only [beq_self_eq_true,if_true,e1,pure_bind]
    exact e
   ·rcases h1 x c' q with z | z
    ·exact .inl z
    ·rw [List.lookup_cons] at z
     cases hx:x == n with
     | true=>
      rw [hx] at z
      have:x=n:=by simpa using hx
      subst this
      injection z with z
      subst z
      exact .inl hc
     | false=>rw [hx] at z;exact .inr z
   ·rcases List.mem_cons.mp hy with rfl | hy
    ·exact h3 n c (by rw [List.lookup_cons,beq_self_eq_true])
    ·exact h2 y hy hf
   ·by_cases hx:x=n
    ·subst hx
     exact h3 x c (by rw [List.lookup_cons,beq_self_eq_true])
    ·have hx':(x == n)=false:=by simpa using hx
     exact h3 x c' (by rw [List.lookup_cons,hx'];exact q)
  ·have hb:(k == NameKind.free)=false:=by simpa using hk
   obtain ⟨cl,e,h1,h2,h3⟩:=cS env r cs hr
   refine ⟨cl,?_,h1,fun y hy hf=>?_,h3⟩
   ·rw [List.forIn_cons]
    simp only [hb,Bool.false_eq_true,if_false,pure_bind]
    exact e
   ·rcases List.mem_cons.mp hy with rfl | hy
    ·exact absurd hf hk
    ·exact h2 y hy hf
theorem jZ {env:Env} {scope:Scope} (h:∀ y∈scope.names,y.2=.free→∃ c,env.cells.lookup y.1=some c) :
  ∃ cl,closureFor scope env=pure cl∧(∀ x c,cl.lookup x=some c→env.cells.lookup x=some c)∧∀ y∈scope.names,y.2=.free→∃ c,cl.lookup y.1=some c:=by
 obtain ⟨cl,e,h1,h2,_⟩:=cS env scope.names [] h
 refine ⟨cl,?_,fun x c q=>(h1 x c q).elim id fun z=>by simp at z,h2⟩
 unfold closureFor
 have e':(forIn scope.names ([]:List (Str×Addr)) fun (x:Str×NameKind) (r:List (Str×Addr))=>(if (x.2 == NameKind.free)=true then do let c ← cellOf env x.1;pure (ForInStep.yield ((x.1,c)::r)) else pure (ForInStep.yield r):Sem (ForInStep (List (Str×Addr)))))=pure cl:=e
 first
  | (rw [show (forIn scope.names ([]:List (Str×Addr)) _:Sem (List (Str×Addr)))=pure cl from e'];rfl)
  | (simp only [e'];rfl)
theorem nV {prog:Program} {w:World} {A:Around} {R:Result→Shared→Prop} {s:Shared} {elt target iter:Expr} {ifs:List Expr} {scope:Scope} {pos:Pos} {it acc:Value} {env:Env} (I:Nat→Shared→Prop)
  (turn:∀ n s,I n s→wpAny (model prog w) A (pyNext it) (fun r s₁=>match r with
   | none=>R (.ok .next) s₁
   | some v=>wpAny (model prog w) A (letOwnedTupleGo target it v) (fun _ s₁'=>wpAny (model prog w) A (assign target env v) (fun _ s₂=>
     wpAny (model prog w) A (forIn ifs true fun c r=>if r=true then do let ok ← isTrue c env (eval c env);pure (ForInStep.yield ok) else pure (ForInStep.yield r)) (fun ok s₃=>
      if ok=true then wpAny (model prog w) A (eval elt env) (fun x s₄=>
       wpAny (model prog w) A (call (.builtin "list.append") [acc,x]) (fun _ s₅=>∃ m,m<n∧I m s₅) (fun _ _=>False) s₄) (fun _ _=>False) s₃
      else ∃ m,m<n∧I m s₃) (fun _ _=>False) s₂) (fun _ _=>False) s₁') (fun _ _=>False) s₁) (fun _ _=>False) s)
  (n:Nat) (h:I n s) :
  codeAny (model prog w) A (.compLoop (.ListComp elt [⟨target,iter,ifs,0⟩] scope pos) 0 it acc env) R s:=by
 have no:∀ {P:Value→Shared→Prop} (x:Value) (s':Shared),False→P x s':=fun _ _ f=>f.elim
 refine codeAny_loop rfl I (fun n s hI=>?_) n h
 show wpAny _ A ((compTurn (.ListComp elt [⟨target,iter,ifs,0⟩] scope pos) 0 it acc env).onRaise (fun x=>do noteFrame x env;theTreesLotGoes x)) _ _ s
 refine wpAny_noted ?_
 rw [compTurn_list]
 refine wpAny_bind (wpAny_standAt (wpAny_bind (wpAny_mono (turn n s hI) (fun r s₁ h₁=>?_) no)))
 cases r with
 | none=>exact wpAny_pure h₁
 | some v=>
  refine wpAny_bind (wpAny_mono h₁ (fun _ s₁' h₁'=>?_) no)
  refine wpAny_bind (wpAny_mono h₁' (fun _ s₂ h₂=>wpAny_bind (wpAny_mono h₂ (fun ok s₃ h₃=>?_) no)) no)
  cases ok with
  | false=>exact wpAny_pure ⟨rfl,h₃⟩
  | true=>
   exact wpAny_bind (wpAny_bind (wpAny_mono h₃ (fun x s₄ h₄=>wpAny_bind (wpAny_mono h₄ (fun _ s₅ h₅=>wpAny_pure (wpAny_pure ⟨rfl,h₅⟩)) no)) no))
theorem b8 (env:Env):∀ (names:List (Str×NameKind)) (x:Str) (k:NameKind),
  (names.map fun (n,k)=>if (k == NameKind.free&&env.scope.kind == .function&&env.kindOf n == some .cell) then (n,NameKind.cell) else (n,k)).lookup x=some k →
  ∃ k0,names.lookup x=some k0∧(k=k0∨(k0=.free∧k=.cell))
 | [],x,k,h=>by simp at h
 | (n,k1)::r,x,k,h=>by
  have h:List.lookup x ((if (k1 == NameKind.free&&env.scope.kind == .function&&env.kindOf n == some .cell)=true then (n,NameKind.cell) else (n,k1))::r.map fun (n,k)=>if (k == NameKind.free&&env.scope.kind == .function&&env.kindOf n == some .cell) then (n,NameKind.cell) else (n,k))=some k:=h
  cases hx:x == n with
  | true=>
   by_cases hc:(k1 == NameKind.free&&env.scope.kind == .function&&env.kindOf n == some .cell)=true
   ·rw [if_pos hc,List.lookup_cons,hx] at h
    injection h with h
    have hk:k1=.free:=by
     simp only [Bool.and_eq_true,beq_iff_eq] at hc
     exact hc.1.1
    exact ⟨k1,by rw [List.lookup_cons,hx],.inr ⟨hk,h.symm⟩⟩
   ·rw [if_neg hc,List.lookup_cons,hx] at h
    injection h with h
    exact ⟨k1,by rw [List.lookup_cons,hx],.inl h.symm⟩
  | false=>
   by_cases hc:(k1 == NameKind.free&&env.scope.kind == .function&&env.kindOf n == some .cell)=true
   ·rw [if_pos hc,List.lookup_cons,hx] at h
    obtain ⟨k0,e,z⟩:=b8 env r x k h
    exact ⟨k0,by rw [List.lookup_cons,hx];exact e,z⟩
   ·rw [if_neg hc,List.lookup_cons,hx] at h
    obtain ⟨k0,e,z⟩:=b8 env r x k h
    exact ⟨k0,by rw [List.lookup_cons,hx];exact e,z⟩
structure cj (X:Cx) (nm:List Str) (scope:Scope):Prop where
 kind:scope.kind=.function
 cell:∀ y∈scope.names,y.2≠.cell
 names:∀ y∈scope.names,y.2=.local→scope.names.lookup y.1=some .local
 free:∀ y∈scope.names,y.2=.free→X.env.kindOf y.1=some .cell∨X.env.kindOf y.1=some .free
 apart:∀ x∈nm,scope.names.lookup x≠some .local
 len:nm.length=X.N.length
 mask:∀ (i:Nat) (x:Str),nm[i]?=some x→X.N[i]?=some x∨scope.names.lookup x=none
section
variable {X:Cx} {nm:List Str} {elt tg iter:Expr} {ifs:List Expr} {scope:Scope} {pos:Pos} {own:List Str} {wi:TI} {g:TG} {tt:TT} {te:TE}
theorem m6 {pins:List (Addr×Obj)} {s2:Shared} {σ:L2.St} {H2:Hp} {cl:List (Str×Addr)} {it:Addr} {fp:List Addr} {tn:Nat→Heap→Prop} {J:It} {Q:VK} {E:Value→Shared→Prop} {RR:Value→Addr→Result→Shared→Prop}
  (hc:X.calm=true) (S:cj X nm scope) (j0:∀ x c,cl.lookup x=some c→X.env.cells.lookup x=some c) (wJ:∀ y∈scope.names,y.2=.free→∃ c,cl.lookup y.1=some c)
  (hg:∀ cl C s H fp,PG (aU X nm scope own cl C s H fp) tg g) (ht:∀ cl C s H fp,PTs (aU X nm scope own cl C s H fp) ifs tt) (he:∀ cl C s H fp,PE (aU X nm scope own cl C s H fp) elt te)
  (I2:Inv X pins σ H2 s2) (T:Turn X.prog X.w X.K tg J fp it tn) (st2:tn 0 s2.heap) (f2:∀ b∈fp,mE X pins H2 b)
  (hR:∀ D,H2 D=none→∃ W:Nat→Nat→L2.St→Hp→Prop,
   (∃ m,W 0 m (σ++List.replicate own.length none) (upd H2 D (.lst [])))∧∀ i m σ' H',W i m σ' H' →
    (J.stop i H'∧Q (.ref D) H')∨(J.go i H'∧∀ x H2,J.yld i H' x H2→g x σ' H2 fun σ2 H3=>tt σ2 H3 fun b H4=>if b=true
     then te σ2 H4 fun y H5=>∃ acc,H5 D=some (.lst acc)∧acc.length<sizeLine∧∃ m',m'<m∧W (i+1) m' σ2 (upd H5 D (.lst (acc++[y])))
     else ∃ m',m'<m∧W (i+1) m' σ2 H4))
  (LJ:∀ D C H6 s6,Inv X pins σ H6 s6→H6 C=none→C≠X.env.locals→X.s₀.heap.objs.size≤C→(∀ x c,X.env.cells.lookup x=some c→c≠C)→(∀ p∈X.pn++pins,p.1≠C)→(∃ m,s6.heap.Ns C m)→Q (.ref D) H6→RR (.ref D) C (.ok .next) s6) :
  wpAny (model X.prog X.w) X.A (newList []) (fun acc s₃=>wpAny (model X.prog X.w) X.A (newFunctionEnv scope X.env.globals cl [] X.env.qual none .none (some X.env)) (fun cenv s₄=>
   codeAny (model X.prog X.w) X.A (.compStart (.ListComp elt [⟨tg,iter,ifs,0⟩] scope pos) 0 (.ref it) acc { cenv with scope:=relabel scope X.env }) (RR acc cenv.locals) s₄) E s₃) E s2:=by
 have no:∀ {P:Value→Shared→Prop} (x:Value) (s':Shared),False→P x s':=fun _ _ f=>f.elim
 refine wpAny_newObj_type (wpAny_newFunctionEnv S.cell (by intro y hy;simp at hy) (fun h₁ hns₁ hsb₁=>?_) S.kind)
 dsimp only at hns₁ hsb₁ ⊢
 have I3:Inv X pins σ (upd H2 s2.heap.objs.size (.lst [])) { s2 with heap:=s2.heap.push { cls:=.type "list",dict:=none,data:=.seq ([]:List Value).toArray } }:=I2.FU (t':=s2.toks) (ys:=[]) (its:=[]) .nil (Nat.zero_le _)
 generalize hG2:s2.heap.push { cls:=.type "list",dict:=none,data:=.seq ([]:List Value).toArray }=G2 at hns₁ hsb₁ I3 ⊢
 have hC:G2.objs.size=s2.heap.objs.size+1:=by rw [← hG2,Heap.size_push]
 have up2:∀ b o,s2.heap.get? b=some o→G2.get? b=some o:=fun b o e=>hG2▸Heap.get?_push_of_some _ e
 have up3:∀ b o,G2.get? b=some o→h₁.get? b=some o:=fun b o e=>hsb₁.extBut b o (Nat.ne_of_lt (Heap.lt_size e)) (Heap.get?_push_of_some _ e)
 have LK:G2.get? G2.objs.size=none:=Heap.get?_none_of_le (Nat.le_refl _)
 have fpo:∀ b∈fp,∃ o,s2.heap.get? b=some o:=fun b hb=>by
  obtain ⟨o,e,_⟩:=T.obj 0 _ st2 b hb
  exact ⟨o,e⟩
 have fpC:∀ b∈fp,b≠G2.objs.size:=fun b hb=>by
  obtain ⟨o,e⟩:=fpo b hb
  exact Nat.ne_of_lt (Heap.lt_size (up2 b o e))
 have H3C:(upd H2 s2.heap.objs.size (.lst [])) G2.objs.size=none:=I3.hok.fresh (Nat.le_refl _)
 have fpD:∀ b∈fp,b≠s2.heap.objs.size:=fun b hb=>by
  obtain ⟨o,e⟩:=fpo b hb
  exact Nat.ne_of_lt (Heap.lt_size e)
 have JG:∀ b∈fp,b∉frs X.stack:=fun b hb z=>by
  rcases List.mem_cons.mp (I3.rT b z) with y | y
  ·exact (f2 b hb).2.1 y
  ·exact (f2 b hb).2.2.1 y
 have ok':(aU X nm scope own cl G2.objs.size { s2 with heap:=G2 } (upd H2 s2.heap.objs.size (.lst [])) fp).Ok:=by
  refine ⟨I3.ok.mod,S.kind,I3.ok.glob,I3.ok.blt,Nat.le_refl _,fun x y c e1 e2=>I3.ok.inj x y c (j0 x c e1) (j0 y c e2),fun x hx=>?_,fun x c z=>(nomatch z),I3.ok.hd,I3.ok.frames,.inl rfl,
   fun b hb=>⟨fpC b hb,fun x c e=>(f2 b hb).2.2.2.2.1 x c (j0 x c e)⟩,fun b o e=>I3.bs b o e,Nat.le_trans I3.ok.bsz I3.sz,fun b o e hb=>?_,fun b hb=>JG b hb,I3.stack,I3.ue⟩
  ·have hx:(relabel scope X.env).names.lookup x=some .cell∨(relabel scope X.env).names.lookup x=some .free:=hx
   have key:∀ k,(relabel scope X.env).names.lookup x=some k→k≠.local→k=.cell∨k=.free→∃ c,cl.lookup x=some c:=fun k hk _ hkk=>by
    obtain ⟨k0,e0,z⟩:=b8 X.env scope.names x k hk
    have m0:=PySem.mem_of_lookup e0
    have f0:k0=.free:=by
     rcases z with z | z
     ·subst z
      rcases hkk with q | q
      ·exact absurd q (S.cell _ m0)
      ·exact q
     ·exact z.1
    exact wJ (x,k0) m0 f0
   rcases hx with hx | hx
   ·exact key _ hx (by decide) (.inl rfl)
   ·exact key _ hx (by decide) (.inr rfl)
  ·rcases (f2 b hb).2.2.2.1 with z | z
   ·exact I3.ok.xJ b o e z
   ·exact absurd (Nat.lt_of_lt_of_le (Heap.lt_size e) (Nat.le_trans I3.ok.bsz z)) (Nat.lt_irrefl _)
 have stat:∀ {H':Hp},(∀ b∈fp,H' b=none)→∀ b∈fp,mE (aU X nm scope own cl G2.objs.size { s2 with heap:=G2 } (upd H2 s2.heap.objs.size (.lst [])) fp) [] H' b:=fun hn b hb=>
  ⟨hn b hb,fpC b hb,JG b hb,.inl hb,fun x c e=>(f2 b hb).2.2.2.2.1 x c (j0 x c e),fun p hp=>(nomatch (show p∈([]:List (Addr×Obj)) from hp))⟩
 have I4:Inv (aU X nm scope own cl G2.objs.size { s2 with heap:=G2 } (upd H2 s2.heap.objs.size (.lst [])) fp) [] (σ++List.replicate own.length none) (upd H2 s2.heap.objs.size (.lst [])) { s2 with heap:=h₁,toks:=s2.toks+([]:List (Str×Value)).length }:=by
  refine ⟨ok',rfl,I3.bare,Un.kept up3,⟨_,hns₁,fun i x v e1 e2 e3=>?_⟩,fun x c e=>?_,H3C,fun x c e=>I3.fy x c (j0 x c e),fun p hp=>(nomatch (show p∈([]:List (Addr×Obj)) from hp)),I3.hok.kept up3,?_⟩
  ·have e1:(nm++own)[i]?=some x:=e1
   have hi:i<σ.length:=by
    by_cases hi:i<σ.length
    ·exact hi
    ·rw [List.getElem?_append_right (Nat.not_lt.mp hi),List.getElem?_replicate] at e2
     split at e2<;>cases e2
   rw [List.getElem?_append_left hi] at e2
   rw [List.getElem?_append_left (by rw [S.len,← I3.len];exact hi)] at e1
   have key:∀ k,(relabel scope X.env).names.lookup x=some k→k=.local∨k=.cell∨k=.free→scope.names.lookup x=some .free∧(k=.cell∨k=.free):=fun k hk hkk=>by
    obtain ⟨k0,e0,z⟩:=b8 X.env scope.names x k hk
    have m0:=PySem.mem_of_lookup e0
    have n1:k0≠.local:=fun y=>S.apart x (List.mem_of_getElem? e1) (y▸e0)
    have n2:k0≠.cell:=S.cell _ m0
    rcases z with z | z
    ·subst z
     rcases hkk with q | q | q
     ·exact absurd q n1
     ·exact absurd q n2
     ·subst q;exact ⟨e0,.inr rfl⟩
    ·obtain ⟨z1,z2⟩:=z
     subst z1;subst z2
     exact ⟨e0,.inl rfl⟩
   have hk:∃ k,(relabel scope X.env).names.lookup x=some k∧(k=.cell∨k=.free)∧scope.names.lookup x=some .free:=by
    rcases (show (relabel scope X.env).names.lookup x=some .local∨(relabel scope X.env).names.lookup x=some .cell∨(relabel scope X.env).names.lookup x=some .free from e3) with q | q | q
    ·obtain ⟨a,b⟩:=key _ q (.inl rfl);exact ⟨_,q,b,a⟩
    ·obtain ⟨a,b⟩:=key _ q (.inr (.inl rfl));exact ⟨_,q,b,a⟩
    ·obtain ⟨a,b⟩:=key _ q (.inr (.inr rfl));exact ⟨_,q,b,a⟩
   obtain ⟨k,hk1,hk2,hk3⟩:=hk
   have m0:=PySem.mem_of_lookup hk3
   obtain ⟨c,hcc⟩:=wJ (x,.free) m0 rfl
   obtain ⟨m,hn,hl⟩:=I3.loc
   have hout:=S.free (x,.free) m0 rfl
   have LL:Vis X.env.scope x:=by
    rcases hout with q | q
    ·exact .inr (.inl q)
    ·exact .inr (.inr q)
   have e1':X.N[i]?=some x:=by
    rcases S.mask i x e1 with z | z
    ·exact z
    ·rw [z] at hk3;cases hk3
   obtain ⟨u,ru,lk⟩:=hl i x v e1' e2 LL
   refine ⟨u,ru,.inr ⟨?_,c,hcc,?_⟩⟩
   ·rcases hk2 with q | q
    ·subst q;exact .inl hk1
    ·subst q;exact .inr hk1
   ·rcases lk with ⟨q,_⟩ | ⟨_,c',e',z⟩
    ·rcases hout with y | y
     ·rw [q] at y;cases y
     ·rw [q] at y;cases y
    ·rw [j0 x c hcc] at e'
     cases e'
     obtain ⟨o,ho,hd⟩:=z
     exact ⟨o,up3 c o ho,hd⟩
  ·obtain ⟨v,o,ho,hd⟩:=I3.cell x c (j0 x c e)
   exact ⟨v,o,up3 c o ho,hd⟩
  ·show (σ++List.replicate own.length none).length=(nm++own).length
   rw [List.length_append,List.length_append,List.length_replicate,I3.len,S.len]
 obtain ⟨W,⟨m0,w0⟩,turn⟩:=hR s2.heap.objs.size I2.fresh
 have st4:tn 0 h₁:=T.keep 0 _ _ st2 fun b hb o e=>up3 b o (up2 b o e)
 have LM:∀ b∈fp,(upd H2 s2.heap.objs.size (.lst [])) b=none:=fun b hb=>by rw [av (fpD b hb)];exact (f2 b hb).1
 have loop:∀ s₃:Shared,s₃={ s2 with heap:=h₁,toks:=s2.toks+([]:List (Str×Value)).length } →
   codeAny (model X.prog X.w) X.A (.compLoop (.ListComp elt [⟨tg,iter,ifs,0⟩] scope pos) 0 (.ref it) (.ref s2.heap.objs.size) (compEnvC scope cl G2.objs.size X.env))
    (RR (.ref s2.heap.objs.size) G2.objs.size) s₃:=by
  rintro s₃ rfl
  refine nV (fun n s'=>∃ i σ' H',Inv (aU X nm scope own cl G2.objs.size { s2 with heap:=G2 } (upd H2 s2.heap.objs.size (.lst [])) fp) [] σ' H' s'∧tn i s'.heap∧(∀ b∈fp,H' b=none)∧W i n σ' H') ?_ m0
   ⟨0,_,_,I4,st4,LM,w0⟩
  rintro n s5 ⟨i,σ5,H5,I5,st5,fr5,w5⟩
  rcases turn i n σ5 H5 w5 with ⟨stop,q⟩ | ⟨go,step⟩
  ·refine wpAny_mono (T.done (aU X nm scope own cl G2.objs.size { s2 with heap:=G2 } (upd H2 s2.heap.objs.size (.lst [])) fp) rfl rfl rfl hc i [] s5 σ5 H5 (fun _ _=>False) I5 (stat fr5) st5 stop) (fun r s6 hr6=>?_) no
   obtain ⟨hr,I6⟩:=hr6
   subst hr
   have I7:Inv X pins σ H5 s6:=I3.IX (ch:=fp) I6.os I6.base I6.hok I6.bare fun b hb=>⟨(f2 b hb).2.2.2.1,(f2 b hb).2.1,(f2 b hb).2.2.2.2.1,(f2 b hb).2.2.2.2.2⟩
   refine LJ _ _ H5 s6 I7 I6.free (Nat.ne_of_gt (show X.env.locals<G2.objs.size from I3.lt)) I3.sz (fun x c e=>?_) (fun p hp=>?_) (let ⟨m,hn,_⟩:=I6.loc;⟨m,hn⟩) q
   ·obtain ⟨v,z⟩:=I3.cell x c e
    exact Nat.ne_of_lt z.lt
   ·exact Nat.ne_of_lt (Heap.lt_size (I3.pin p hp).1)
  ·refine wpAny_mono (T.item (aU X nm scope own cl G2.objs.size { s2 with heap:=G2 } (upd H2 s2.heap.objs.size (.lst [])) fp) rfl rfl rfl hc i [] s5 σ5 H5 (fun _ _=>False) I5 (stat fr5) st5 go) (fun r s6 hr6=>?_) no
   obtain ⟨u,hr,h6⟩:=hr6
   subst hr
   refine wpAny_mono h6 (fun _ s7 h7=>?_) no
   obtain ⟨x,H7,I7,r7,y7,st7,fr7⟩:=h7
   have I7':=I7.pinned (stat fr7) (T.obj _ _ st7)
   have again:∀ {s9:Shared} {σ9:L2.St} {H9:Hp} {m':Nat},m'<n→Inv (aU X nm scope own cl G2.objs.size { s2 with heap:=G2 } (upd H2 s2.heap.objs.size (.lst [])) fp) ([]++jQ fp s7.heap) σ9 H9 s9→W (i+1) m' σ9 H9 →
     ∃ m,m<n∧∃ i σ' H',Inv (aU X nm scope own cl G2.objs.size { s2 with heap:=G2 } (upd H2 s2.heap.objs.size (.lst [])) fp) [] σ' H' s9∧tn i s9.heap∧(∀ b∈fp,H' b=none)∧W i m σ' H':=fun {s9 σ9 H9 m'} hm I9 w9=>by
    refine ⟨m',hm,i+1,σ9,H9,I9.gQ,T.keep _ _ _ st7 fun b hb o e=>(I9.pin (b,o) (List.mem_append_right _ (List.mem_append_right _ (dj hb e)))).1,fun b hb=>?_,w9⟩
    obtain ⟨o,e,d⟩:=T.obj _ _ st7 b hb
    exact (I9.pin (b,o) (List.mem_append_right _ (List.mem_append_right _ (dj hb e)))).2.1
   refine wpAny_mono (hg cl G2.objs.size _ _ fp _ s7 σ5 H7 x u _ I7' r7 (step x H7 y7)) (fun _ s8 h8=>?_) no
   obtain ⟨σ8,H8,I8,q8⟩:=h8
   refine wpAny_mono (ht cl G2.objs.size _ _ fp _ s8 σ8 H8 _ I8 q8) (fun b s9 h9=>?_) no
   obtain ⟨H9,I9,q9⟩:=h9
   cases b with
   | false=>
    rw [if_neg Bool.false_ne_true] at q9 ⊢
    obtain ⟨m',hm,w9⟩:=q9
    exact again hm I9 w9
   | true=>
    rw [if_pos rfl] at q9 ⊢
    refine wpAny_mono (he cl G2.objs.size _ _ fp _ s9 σ8 H9 _ I9 q9) (fun y s10 h10=>?_) no
    obtain ⟨yv,H10,I10,r10,acc,hacc,hlen,m',hm,w10⟩:=h10
    refine wpAny_mono (iG (X:=aU X nm scope own cl G2.objs.size { s2 with heap:=G2 } (upd H2 s2.heap.objs.size (.lst [])) fp) _ s10 σ8 H10 (.ref s2.heap.objs.size) [yv] (.ref s2.heap.objs.size) [y] (fun _ H'=>H'=upd H10 s2.heap.objs.size (.lst (acc++[yv]))) I10 rfl (.cons r10 .nil) ⟨_,acc,yv,rfl,rfl,hacc,hlen,rfl⟩) (fun _ s11 h11=>?_) no
    obtain ⟨_,H11,I11,_,e11⟩:=h11
    subst e11
    exact again hm I11 w10
 exact codeAny_compStart_list (loop _ rfl) (T.self _ 0 _ _ _ st4 (loop _ rfl))
theorem uG (hc:X.calm=true) (S:cj X nm scope) (hi:PI X tg iter wi)
  (hg:∀ cl C s H fp,PG (aU X nm scope own cl C s H fp) tg g) (ht:∀ cl C s H fp,PTs (aU X nm scope own cl C s H fp) ifs tt) (he:∀ cl C s H fp,PE (aU X nm scope own cl C s H fp) elt te)
  (hs:∀ x,foldedSetIterable iter X.env x=pure x:=by intro _;rfl):PE X (.ListComp elt [⟨tg,iter,ifs,0⟩] scope pos) (tLC wi own.length g tt te):=by
 intro pins s σ H Q I h
 obtain ⟨cl,hclos,j0,wJ⟩:=jZ (env:=X.env) (scope:=scope) fun y hy hf=>I.ok.has y.1 (S.free y hy hf)
 rw [eval_ListComp]
 refine wpAny_comprehension_free (use:=none) rfl hs hclos S.kind S.names (thn (hi pins s σ H _ I h) fun v s1 h1=>thn h1 fun itv s2 h2=>?_)
 obtain ⟨it,fp,tn,J,H2,e,I2,T,st2,f2,hR⟩:=h2
 subst e
 refine m6 (Q:=Q) (RR:=fun acc C=>compPost (model X.prog X.w) X.A X.xe none (EP X pins σ Q) acc C) hc S j0 wJ hg ht he I2 T st2 f2 hR ?_
 intro D C H6 s6 I6 hCn hCL hCs hCc hCp hns q
 obtain ⟨m,hn⟩:=hns
 refine ⟨m,hn,fun h' hs'=>⟨.ref D,H6,I6.turned (t':=s6.toks) (fun b o hb e=>(hs'.2 b hb).trans e) hCn hCL (.inr hCs) hCc hCp,rfl,q⟩⟩
theorem ez {i:Nat} {y:Str} {py spos:Pos} (hN:X.N.Nodup) (hi':X.N[i]?=some y) (hy:Loc X.env.scope y) (hc:X.calm=true) (S:cj X nm scope) (hi:PI X tg iter wi)
  (hg:∀ cl C s H fp,PG (aU X nm scope own cl C s H fp) tg g) (ht:∀ cl C s H fp,PTs (aU X nm scope own cl C s H fp) ifs tt) (he:∀ cl C s H fp,PE (aU X nm scope own cl C s H fp) elt te)
  (hsw:swapsWith (.ListComp elt [⟨tg,iter,ifs,0⟩] scope pos) (some (.Name y py)) spos.line X.env=pure true:=by rfl)
  (hs:∀ x,foldedSetIterable iter X.env x=pure x:=by intro _;rfl) (hf:X.fn y=true∨X.env.scope.names.lookup y=some .local:=by first | exact .inl rfl | exact .inr rfl | assumption) :
  PS X (.Assign [.Name y py] (.ListComp elt [⟨tg,iter,ifs,0⟩] scope pos) spos) (vZ (tLC wi own.length g tt te) (gP i)):=by
 intro pins s σ H Dn I h
 obtain ⟨cl,hclos,j0,wJ⟩:=jZ (env:=X.env) (scope:=scope) fun y hy hf=>I.ok.has y.1 (S.free y hy hf)
 rw [exec_Assign_Name_used _ _ _ _ hsw]
 refine wpAny_bind (wpAny_standAt (wpAny_bind ?_))
 show wpAny _ X.A (do let _ ← comprehension (.ListComp elt [⟨tg,iter,ifs,0⟩] scope pos) scope X.env _ (newList []) false (eval iter X.env) (some (assign (.Name y py) X.env))) _ _ s
 refine wpAny_bind (wpAny_mono (wpAny_comprehension_free (use:=some (assign (.Name y py) X.env)) (Q:=fun _ s'=>SP X pins Dn .next s') rfl hs hclos S.kind S.names
  (thn (hi pins s σ H _ I h) fun v s1 h1=>thn h1 fun itv s2 h2=>?_)) (fun _ s' hq=>wpAny_pure (wpAny_pure hq)) fun _ _ e=>e)
 obtain ⟨it,fp,tn,J,H2,e,I2,T,st2,f2,hR⟩:=h2
 subst e
 refine m6 (Q:=fun x H1=>gP i x σ H1 Dn.nx) (RR:=fun acc C=>compPost (model X.prog X.w) X.A X.xe (some (assign (.Name y py) X.env)) (fun _ s'=>SP X pins Dn .next s') acc C) hc S j0 wJ hg ht he I2 T st2 f2 hR ?_
 intro D C H6 s6 I6 hCn hCL hCs hCc hCp hns q
 obtain ⟨m,hn⟩:=hns
 show wpAny _ X.A (assign (.Name y py) X.env (.ref D)) _ _ _
 refine wpAny_assign_Name (mS I6 hN hi' hy (v:=.ref D) rfl (fun s7 I7 h7=>?_) hf)
 obtain ⟨a,sb,ha⟩:=h7
 have hCa:C≠a:=by
  rcases ha with ha | ha
  ·rw [ha];exact hCL
  ·exact Ne.symm (hCc y a ha)
 refine ⟨m,hn.sameBut sb hCa,fun h' hs'=>⟨_,H6,I7.turned (t':=s7.toks) (fun b o hb e=>(hs'.2 b hb).trans e) hCn hCL (.inr hCs) hCc hCp,q⟩⟩
end
mutual
noncomputable def toPy:Dm.Dat→PyData
 | .non=>.none
 | .bl b=>.bool b
 | .int i=>.int i
 | .str s=>.str ⟨s.toArray⟩
 | .tup xs=>.tuple (bG xs)
 | .lst xs=>.list (bG xs)
 | .dct _ _=>.dict []
 | .exc _=>.dict []
 | .fn _=>.dict []
noncomputable def bG:List Dm.Dat→List PyData
 | []=>[]
 | x::xs=>toPy x::bG xs
end
mutual
theorem g7:∀ a b:Dm.Dat,PyData.eqv (toPy a) (toPy b)=Dm.eqD a b
 | .non,b=>by cases b<;>simp [toPy,PyData.eqv,Dm.eqD]
 | .bl x,b=>by cases b<;>simp [toPy,PyData.eqv,Dm.eqD,Dm.b2i]
 | .int x,b=>by cases b<;>simp [toPy,PyData.eqv,Dm.eqD,Dm.b2i]
 | .str x,b=>by
  cases b with
  | str y=>
   simp only [toPy,PyData.eqv,Dm.eqD]
   rw [Bool.eq_iff_iff]
   simp only [beq_iff_eq]
   constructor
   ·intro h
    have h:=congrArg (fun s:Str=>s.cps.toList) h
    simpa using h
   ·rintro rfl
    rfl
  | _=>simp [toPy,PyData.eqv,Dm.eqD]
 | .tup xs,b=>by
  cases b with
  | tup ys=>simp only [toPy,PyData.eqv,Dm.eqD];exact iQ xs ys
  | _=>simp [toPy,PyData.eqv,Dm.eqD]
 | .lst xs,b=>by
  cases b with
  | lst ys=>simp only [toPy,PyData.eqv,Dm.eqD];exact iQ xs ys
  | _=>simp [toPy,PyData.eqv,Dm.eqD]
 | .dct ks vs,b=>by cases b<;>simp [toPy,PyData.eqv,Dm.eqD]
 | .exc C,b=>by cases b<;>simp [toPy,PyData.eqv,Dm.eqD]
 | .fn C,b=>by cases b<;>simp [toPy,PyData.eqv,Dm.eqD]
theorem iQ:∀ a b:List Dm.Dat,PyData.eqvAll (bG a) (bG b)=Dm.mH a b
 | [],b=>by cases b<;>simp [bG,PyData.eqvAll,Dm.mH]
 | x::xs,b=>by
  cases b with
  | nil=>simp [bG,PyData.eqvAll,Dm.mH]
  | cons y ys=>simp only [bG,PyData.eqvAll,Dm.mH];rw [g7 x y,iQ xs ys]
end
theorem yC {s:List Nat} (h:(s.all fun c=>decide (c<128))=true):PyData.strOk ⟨s.toArray⟩=true:=by
 unfold PyData.strOk
 rw [Array.all_eq_true']
 intro c hc
 have h1:=List.all_eq_true.mp h c (by simpa using hc)
 have h2:c<128:=of_decide_eq_true h1
 exact decide_eq_true (by omega)
theorem bH {P:Program} {w:World} {H:Hp} {h:Heap} (ok:HOk P w H h):∀ (n:Nat),
  (∀ (v:V) (d:Dm.Dat) (u:Value),Rep H v d→RelV v u→Dm.okD n d=true→∃ as,Reads h u (toPy d) as∧(toPy d).canLay0=true∧(toPy d).depth≤n) ∧
  (∀ (vs:List V) (ds:List Dm.Dat) (us:List Value),aC H vs ds→Vals vs us→ds.all (Dm.okD n)=true→∃ as,ReadsAll h us (bG ds) as∧PyData.canLayAll0 (bG ds)=true∧PyData.depthAll (bG ds)≤n):=by
 intro n
 induction n with
 | zero=>
  have one:∀ (v:V) (d:Dm.Dat) (u:Value),Rep H v d→RelV v u→Dm.okD 0 d=true→∃ as,Reads h u (toPy d) as∧(toPy d).canLay0=true∧(toPy d).depth≤0:=by
   intro v d u r rv k
   cases r with
   | non=>cases rv;exact ⟨_,.none,rfl,Nat.le_refl _⟩
   | bl b=>cases rv;exact ⟨_,.bool b,rfl,Nat.le_refl _⟩
   | int i=>obtain ⟨t,rfl⟩:=rv;exact ⟨_,.int i t,rfl,Nat.le_refl _⟩
   | str s=>obtain ⟨t,rfl⟩:=rv;exact ⟨_,.str _ t,yC k,Nat.le_refl _⟩
   | tup _ _=>cases k
   | lst _ _=>cases k
   | dct _ _ _=>cases k
   | exc _=>cases k
   | fn _=>cases k
  refine ⟨one,fun vs ds=>?_⟩
  induction ds generalizing vs with
  | nil=>intro us r rv _;cases r;cases rv;exact ⟨_,.nil,rfl,Nat.le_refl _⟩
  | cons d ds ih=>
   intro us r rv k
   cases r with
   | cons r rs=>
    cases rv with
    | cons q qs=>
     rw [List.all_cons,Bool.and_eq_true] at k
     obtain ⟨a1,h1,h2,h3⟩:=one _ _ _ r q k.1
     obtain ⟨a2,h4,h5,h6⟩:=ih _ _ rs qs k.2
     exact ⟨_,.cons h1 h4,by simp [bG,PyData.canLayAll0,h2,h5],by simp only [bG,PyData.depthAll];omega⟩
 | succ n ih=>
  have one:∀ (v:V) (d:Dm.Dat) (u:Value),Rep H v d→RelV v u→Dm.okD (n+1) d=true→∃ as,Reads h u (toPy d) as∧(toPy d).canLay0=true∧(toPy d).depth≤n+1:=by
   intro v d u r rv k
   cases r with
   | non=>cases rv;exact ⟨_,.none,rfl,Nat.zero_le _⟩
   | bl b=>cases rv;exact ⟨_,.bool b,rfl,Nat.zero_le _⟩
   | int i=>obtain ⟨t,rfl⟩:=rv;exact ⟨_,.int i t,rfl,Nat.zero_le _⟩
   | str s=>obtain ⟨t,rfl⟩:=rv;exact ⟨_,.str _ t,yC k,Nat.zero_le _⟩
   | tup q rs=>
    cases rv
    obtain ⟨z,its,vr,ob,e,hc,m,hd⟩:=ok _ _ q
    obtain ⟨as,h1,h2,h3⟩:=ih.2 _ _ _ rs vr k
    exact ⟨_,.tuple e hc hd h1,h2,by simp only [toPy,PyData.depth];omega⟩
   | lst q rs=>
    cases rv
    obtain ⟨z,its,m,vr,e⟩:=q.ok ok
    obtain ⟨as,h1,h2,h3⟩:=ih.2 _ _ _ rs vr k
    exact ⟨_,.list e rfl rfl h1,h2,by simp only [toPy,PyData.depth];omega⟩
   | dct _ _ _=>cases k
   | exc _=>cases k
   | fn _=>cases k
  refine ⟨one,fun vs ds=>?_⟩
  induction ds generalizing vs with
  | nil=>intro us r rv _;cases r;cases rv;exact ⟨_,.nil,rfl,Nat.zero_le _⟩
  | cons d ds ih=>
   intro us r rv k
   cases r with
   | cons r rs=>
    cases rv with
    | cons q qs=>
     rw [List.all_cons,Bool.and_eq_true] at k
     obtain ⟨a1,h1,h2,h3⟩:=one _ _ _ r q k.1
     obtain ⟨a2,h4,h5,h6⟩:=ih _ _ rs qs k.2
     exact ⟨_,.cons h1 h4,by simp [bG,PyData.canLayAll0,h2,h5],by simp only [bG,PyData.depthAll];omega⟩
theorem iO.full {H0 H:Hp} (s:ak H0 H) {v:V} {d:Dm.Dat} (r:iO H0 H v d):Rep H v d:=by
 rcases r with r | ⟨a,rfl,w⟩
 ·exact r.mono s
 ·cases d with
  | lst ds=>obtain ⟨xs,q,rs⟩:=w;exact .lst (.inl q) (rs.mono s)
  | dct ks ds=>obtain ⟨kvs,q,e,rs⟩:=w;exact .dct q e (rs.mono s)
  | _=>exact False.elim w
noncomputable def B5 (neg:Bool):R2:=fun x y H Q=>∃ dx dy,Rep H x dx∧Rep H y dy∧Dm.okD 8 dx=true∧Dm.okD 8 dy=true∧Q (.bl (if neg then !Dm.eqD dx dy else Dm.eqD dx dy)) H
section
variable {X:Cx}
theorem yD {k:Nat} (hr:bf k X.A):OpR X (compareOp .Eq) (B5 false):=by
 intro pins s σ H x y v u Q I rx ry h
 obtain ⟨dx,dy,r1,r2,k1,k2,q⟩:=h
 obtain ⟨as,h1,h2,h3⟩:=(bH I.hok 8).1 x dx v r1 rx k1
 obtain ⟨bs,h4,h5,h6⟩:=(bH I.hok 8).1 y dy u r2 ry k2
 have hu:=hr.units
 refine PySem.SeqAt.compareEq_reads h1 h4 h2 h5 (by omega) ?_
 rw [g7]
 exact ⟨.bl (Dm.eqD dx dy),H,I,rfl,q⟩
theorem yE {k:Nat} (hr:bf k X.A):OpR X (compareOp .NotEq) (B5 true):=by
 intro pins s σ H x y v u Q I rx ry h
 obtain ⟨dx,dy,r1,r2,k1,k2,q⟩:=h
 obtain ⟨as,h1,h2,h3⟩:=(bH I.hok 8).1 x dx v r1 rx k1
 obtain ⟨bs,h4,h5,h6⟩:=(bH I.hok 8).1 y dy u r2 ry k2
 have hu:=hr.units
 refine PySem.SeqAt.compareNe_reads h1 h4 h2 h5 (by omega) ?_
 rw [g7]
 exact ⟨.bl (!Dm.eqD dx dy),H,I,rfl,q⟩
noncomputable def B6 (neg:Bool):R2:=fun x y H Q=>∃ dx ds,Rep H x dx∧(Rep H y (.lst ds)∨Rep H y (.tup ds))∧Dm.okD 8 dx=true∧ds.all (Dm.okD 7)=true∧Q (.bl (if neg then !Dm.inD dx ds else Dm.inD dx ds)) H
theorem eE (x:Dm.Dat):∀ ds:List Dm.Dat,((bG ds).any fun y=>PyData.eqv y (toPy x))=Dm.inD x ds
 | []=>rfl
 | d::ds=>by
  have:=eE x ds
  unfold Dm.inD at this ⊢
  simp only [bG,List.any_cons,g7]
  rw [this]
theorem yF {k:Nat} (hr:bf k X.A):OpR X (compareOp .In) (B6 false):=by
 intro pins s σ H x y v u Q I rx ry h
 obtain ⟨dx,ds,r1,r2,k1,k2,q⟩:=h
 obtain ⟨as,h1,h2,h3⟩:=(bH I.hok 8).1 x dx v r1 rx k1
 have hu:=hr.units
 rcases r2 with r2 | r2
 ·obtain ⟨bs,h4,h5,h6⟩:=(bH I.hok 8).1 y (.lst ds) u r2 ry k2
  have h6:PyData.depthAll (bG ds)+1≤8:=h6
  refine PySem.SeqAt.in_list_reads h4 h1 h5 h2 (by omega) ?_
  rw [eE]
  exact ⟨.bl (Dm.inD dx ds),H,I,rfl,q⟩
 ·obtain ⟨bs,h4,h5,h6⟩:=(bH I.hok 8).1 y (.tup ds) u r2 ry k2
  have h6:PyData.depthAll (bG ds)+1≤8:=h6
  refine PySem.SeqAt.in_tuple_reads h4 h1 h5 h2 (by omega) ?_
  rw [eE]
  exact ⟨.bl (Dm.inD dx ds),H,I,rfl,q⟩
theorem m7 {k:Nat} (hr:bf k X.A):OpR X (compareOp .NotIn) (B6 true):=by
 intro pins s σ H x y v u Q I rx ry h
 obtain ⟨dx,ds,r1,r2,k1,k2,q⟩:=h
 obtain ⟨as,h1,h2,h3⟩:=(bH I.hok 8).1 x dx v r1 rx k1
 have hu:=hr.units
 rcases r2 with r2 | r2
 ·obtain ⟨bs,h4,h5,h6⟩:=(bH I.hok 8).1 y (.lst ds) u r2 ry k2
  have h6:PyData.depthAll (bG ds)+1≤8:=h6
  refine PySem.SeqAt.notIn_list_reads h4 h1 h5 h2 (by omega) ?_
  rw [eE]
  exact ⟨.bl (!Dm.inD dx ds),H,I,rfl,q⟩
 ·obtain ⟨bs,h4,h5,h6⟩:=(bH I.hok 8).1 y (.tup ds) u r2 ry k2
  have h6:PyData.depthAll (bG ds)+1≤8:=h6
  refine PySem.SeqAt.notIn_tuple_reads h4 h1 h5 h2 (by omega) ?_
  rw [eE]
  exact ⟨.bl (!Dm.inD dx ds),H,I,rfl,q⟩
end
theorem au {H0 H:Hp} {v:V} {i:Int} (r:iO H0 H v (.int i)):v=.int i:=by
 rcases r with r | ⟨a,_,w⟩
 ·exact Rep.isInt r
 ·exact False.elim w
theorem B7 {H0 H:Hp} {v:V} {b:Bool} (r:iO H0 H v (.bl b)):v=.bl b:=by
 rcases r with r | ⟨a,_,w⟩
 ·exact Rep.nS r
 ·exact False.elim w
theorem bz {H0 H:Hp} (s:ak H0 H) {v:V} {ds:List Dm.Dat} (r:iO H0 H v (.lst ds)):∃ a xs,v=.ref a∧Rd H a (.lst xs)∧aC H0 xs ds:=by
 rcases r with r | ⟨a,e,xs,q,rs⟩
 ·cases r with
  | lst q rs=>exact ⟨_,_,rfl,ak.rd s q,rs⟩
 ·exact ⟨a,xs,e,.inl q,rs⟩
theorem g8 {H0 H:Hp} (s:ak H0 H) {v:V} {ds:List Dm.Dat} (r:iO H0 H v (.tup ds)):∃ a xs,v=.ref a∧H a=some (.tup xs)∧aC H0 xs ds:=by
 rcases r with r | ⟨a,_,w⟩
 ·cases r with
  | tup q rs=>exact ⟨_,_,rfl,s _ _ q,rs⟩
 ·exact False.elim w
theorem F_:OpD (rI0 fun i j=>.int (i-j)) Dm.fq:=by
 intro H0 H x y dx dy z Q s rx ry e k
 unfold Dm.fq at e
 split at e
 ·cases e;cases au rx;cases au ry
  exact ⟨_,_,rfl,rfl,k _ H0 H (aM.refl s) (.int _)⟩
 ·cases e
theorem DU:OpD (rI0 fun i j=>.bl (decide (i<j))) Dm.gLt:=by
 intro H0 H x y dx dy z Q s rx ry e k
 unfold Dm.gLt at e
 split at e
 ·cases e;cases au rx;cases au ry
  exact ⟨_,_,rfl,rfl,k _ H0 H (aM.refl s) (.bl _)⟩
 ·cases e
theorem yG:OpD (rI0 fun i j=>.bl (decide (i≤j))) Dm.gLe:=by
 intro H0 H x y dx dy z Q s rx ry e k
 unfold Dm.gLe at e
 split at e
 ·cases e;cases au rx;cases au ry
  exact ⟨_,_,rfl,rfl,k _ H0 H (aM.refl s) (.bl _)⟩
 ·cases e
theorem JH:OpD (rI0 fun i j=>.bl (decide (j<i))) Dm.gGt:=by
 intro H0 H x y dx dy z Q s rx ry e k
 unfold Dm.gGt at e
 split at e
 ·cases e;cases au rx;cases au ry
  exact ⟨_,_,rfl,rfl,k _ H0 H (aM.refl s) (.bl _)⟩
 ·cases e
theorem JI:OpD (rI0 fun i j=>.bl (decide (j≤i))) Dm.gGe:=by
 intro H0 H x y dx dy z Q s rx ry e k
 unfold Dm.gGe at e
 split at e
 ·cases e;cases au rx;cases au ry
  exact ⟨_,_,rfl,rfl,k _ H0 H (aM.refl s) (.bl _)⟩
 ·cases e
theorem Ga:OpD (rI (fun _ j=>0<j) fun i j=>.int (i % j)) Dm.iM:=by
 intro H0 H x y dx dy z Q s rx ry e k
 unfold Dm.iM at e
 split at e
 ·split at e
  ·rename_i hj
   cases e;cases au rx;cases au ry
   exact ⟨_,_,rfl,rfl,hj,k _ H0 H (aM.refl s) (.int _)⟩
  ·cases e
 ·cases e
theorem Gb:OpD (rI BI fun i j=>.int (i ^ j.toNat)) Dm.pL:=by
 intro H0 H x y dx dy z Q s rx ry e k
 unfold Dm.pL at e
 split at e
 ·split at e
  ·rename_i hj
   cases e;cases au rx;cases au ry
   exact ⟨_,_,rfl,rfl,⟨hj.1,hj.2.1,Nat.lt_trans hj.2.2 (by decide)⟩,k _ H0 H (aM.refl s) (.int _)⟩
  ·cases e
 ·cases e
theorem Gd:OpD (rI (fun _ j=>0≤j) fun i j=>.int (i / 2 ^ j.toNat)) Dm.wG:=by
 intro H0 H x y dx dy z Q s rx ry e k
 unfold Dm.wG at e
 split at e
 ·split at e
  ·rename_i hj
   cases e;cases au rx;cases au ry
   exact ⟨_,_,rfl,rfl,hj,k _ H0 H (aM.refl s) (.int _)⟩
  ·cases e
 ·cases e
section
variable {X:Cx}
noncomputable def DV (i j:Int):Prop:=0<j∧j<Dm.fG
theorem yH:OpR X (binaryOp .FloorDiv) (rI DV fun i j=>.int (i / j)):=opI fun i j _ _ _ _ _ hc q=>by
 have h:j.natAbs.log2<9000:=by
  have h1:j.natAbs<2 ^ 200:=by
   have:=hc.2
   unfold Dm.fG at this
   have h2:=hc.1
   have e:(2:Nat) ^ 200=1606938044258990275541962092341162602522202993782792835301376:=by decide +kernel
   omega
  have h3:j.natAbs≠0:=by have:=hc.1;omega
  have:=(Nat.log2_lt h3).mpr h1
  omega
 have e:i.fdiv j=i / j:=Int.fdiv_eq_ediv_of_nonneg i (Int.le_of_lt hc.1)
 rw [← e] at q
 exact floordiv_int (Int.ne_of_gt hc.1) q (.inl (PyProof.noPylong_of_log2 h))
end
theorem Ge:OpD (rI DV fun i j=>.int (i / j)) Dm.r_:=by
 intro H0 H x y dx dy z Q s rx ry e k
 unfold Dm.r_ at e
 split at e
 ·split at e
  ·rename_i hj
   cases e;cases au rx;cases au ry
   exact ⟨_,_,rfl,rfl,hj,k _ H0 H (aM.refl s) (.int _)⟩
  ·cases e
 ·cases e
theorem LN (i:Int):Builtin.bitAnd i 1=i % 2:=PyProof.Rows.bitAnd_m1 i
theorem Gf:OpD (rI0 fun i j=>.int (Builtin.bitAnd i j)) Dm.yr:=by
 intro H0 H x y dx dy z Q s rx ry e k
 unfold Dm.yr at e
 split at e
 ·split at e
  ·rename_i hj
   subst hj
   cases e;cases au rx;cases au ry
   exact ⟨_,_,rfl,rfl,k _ H0 H (aM.refl s) (by show Rep _ (V.int (Builtin.bitAnd _ 1)) _;rw [LN];exact .int _)⟩
  ·cases e
 ·cases e
noncomputable def yI:R2:=fun x y H Q=>∃ l b xs zs,x=.ref l∧y=.ref b∧Rd H l (.lst xs)∧Rd H b (.lst zs)∧xs.length+zs.length≤sizeLine∧∀ p,H p=none→Q (.ref p) (upd H p (.lst (xs++zs)))
noncomputable def yJ:R2:=fun x y H Q=>∃ l k xs,x=.ref l∧y=.int k∧Rd H l (.lst xs)∧-(2 ^ 63)≤k∧k<2 ^ 63∧xs.length*k.toNat≤sizeLine ∧
 ∀ p,H p=none→Q (.ref p) (upd H p (.lst (List.replicate k.toNat xs).flatten))
section
variable {X:Cx}
theorem B8:OpR X (binaryOp .Add) yI:=by
 intro pins s σ H x y v u Q I rx ry h
 obtain ⟨l,b,xs,zs,rfl,rfl,hH,hB,hz,q⟩:=h
 cases rx
 cases ry
 obtain ⟨z,its,n,r,e⟩:=hH.ok I.hok
 obtain ⟨z2,its2,n2,r2,e2⟩:=hB.ok I.hok
 have hl:=r.length
 have hl2:=r2.length
 refine PySem.P.add_list e e2 ?_ (by rw [List.size_toArray,List.size_toArray];omega)
 have ea:its.toArray++its2.toArray=(its++its2).toArray:=by simp
 rw [ea]
 exact ⟨.ref _,_,I.FU (t':=s.toks) (r.append r2) (by rw [List.length_append];omega),rfl,q _ I.fresh⟩
theorem B9:OpR X (binaryOp .Mult) yJ:=by
 intro pins s σ H x y v u Q I rx ry h
 obtain ⟨l,k,xs,rfl,rfl,hH,h1,h2,hz,q⟩:=h
 cases rx
 obtain ⟨t,rfl⟩:=ry
 obtain ⟨z,its,n,r,e⟩:=hH.ok I.hok
 have hl:=r.length
 have hlen:its.toArray.size*k.toNat≤sizeLine:=by rw [List.size_toArray,← hl];exact hz
 have hcap:¬ its.toArray.size*k.toNat>(2 ^ 63-1) / 8:=by
  have:(sizeLine:Nat)≤(2 ^ 63-1) / 8:=by decide
  omega
 have hfit:¬ (!Builtin.List.listFitsIndex k)=true:=by
  rw [fitsIndex_both h1 h2]
  exact Bool.false_ne_true
 have JJ:¬ Builtin.List.listTooLong (its.toArray.size*k.toNat)=true:=by
  rw [yb hlen]
  exact Bool.false_ne_true
 have hnew:List.foldl (fun x1 x2=>x1++x2) #[] (List.replicate (if its.toArray.isEmpty=true then 0 else k.toNat) its.toArray)=(List.replicate k.toNat its).flatten.toArray:=by
  have f0:∀ m:Nat,List.foldl (fun x1 x2=>x1++x2) #[] (List.replicate m its.toArray)=(List.replicate m its).flatten.toArray:=fun m=>by
   have:=foldl_rep its m []
   rw [List.nil_append] at this
   exact this
  rw [f0]
  cases its with
  | nil=>simp
  | cons a r'=>rw [if_neg (by simp)]
 refine wpAny_binaryOp_repeat_ref (T := "list") (U := "int") (by decide) ⟨_,e,rfl⟩ (fun s'=>typeIs_int s' k t) noFill_list_mul F.fills_int_mul F.slot_int_rmul repeat_list F.slot_int_index.lookup
  (call_meets F.slot_int_rmul (typeIs_int s k t) F.entry_int_rmul (F.args_int_rmul_2 _ _) (int___rmul___int_list k t l its.toArray n)
   ⟨e,rfl,⟨_,e,rfl⟩,call_meets F.slot_list_mul ⟨_,e,rfl⟩ F.entry_list_mul (F.args_list_mul_2 _ _) (AutoListH.list___mul___list_int_3 l its.toArray n k t hfit hcap JJ) ⟨e,?_⟩⟩)
 rw [hnew]
 exact ⟨.ref _,_,I.FU (t':=s.toks) (r.rep k.toNat) (by rw [len_rep,Nat.mul_comm];exact hz),rfl,q _ I.fresh⟩
theorem B_:OpR X (binaryOp .Add) (fun x y H Q=>rI0 (fun i j=>.int (i+j)) x y H Q∨yI x y H Q):=Fq.or B8
theorem Ca:OpR X (binaryOp .Mult) (fun x y H Q=>rI xW (fun i j=>.int (i*j)) x y H Q∨yJ x y H Q):=Fv.or B9
end
theorem Gg:OpD (fun x y H Q=>rI0 (fun i j=>.int (i+j)) x y H Q∨yI x y H Q) Dm.bY:=by
 intro H0 H x y dx dy z Q s rx ry e k
 unfold Dm.bY at e
 split at e
 ·cases e;cases au rx;cases au ry
  exact .inl ⟨_,_,rfl,rfl,k _ H0 H (aM.refl s) (.int _)⟩
 ·split at e
  ·rename_i hz
   cases e
   obtain ⟨a,us,rfl,qa,ra⟩:=bz s rx
   obtain ⟨b,ws,rfl,qb,rb⟩:=bz s ry
   refine .inr ⟨a,b,us,ws,rfl,rfl,qa,qb,by rw [ra.length,rb.length];exact jJ hz,fun p hp=>?_⟩
   exact k _ _ _ (aM.mJ s hp) ⟨p,rfl,hp,s.free hp,_,az,ra.append rb⟩
  ·cases e
 ·cases e
theorem Gh:OpD (fun x y H Q=>rI xW (fun i j=>.int (i*j)) x y H Q∨yJ x y H Q) Dm.gW:=by
 intro H0 H x y dx dy z Q s rx ry e k
 unfold Dm.gW at e
 split at e
 ·split at e
  ·rename_i hj
   cases e;cases au rx;cases au ry
   exact .inl ⟨_,_,rfl,rfl,hj,k _ H0 H (aM.refl s) (.int _)⟩
  ·cases e
 ·split at e
  ·rename_i hz
   cases e;cases au ry
   obtain ⟨a,us,rfl,qa,ra⟩:=bz s rx
   obtain ⟨h1,h2,h3⟩:=hz
   unfold Dm.BIG at h1 h2
   refine .inr ⟨a,_,us,rfl,rfl,qa,by omega,by omega,by rw [ra.length];exact jJ h3,fun p hp=>?_⟩
   exact k _ _ _ (aM.mJ s hp) ⟨p,rfl,hp,s.free hp,_,az,ra.rep _⟩
  ·cases e
 ·cases e
theorem DX:OpD (B5 false) Dm.gEq:=by
 intro H0 H x y dx dy z Q s rx ry e k
 unfold Dm.gEq at e
 split at e
 ·rename_i hk
  rw [Bool.and_eq_true] at hk
  cases e
  exact ⟨dx,dy,rx.full s,ry.full s,hk.1,hk.2,k _ H0 H (aM.refl s) (.bl _)⟩
 ·cases e
theorem DY:OpD (B5 true) Dm.gNe:=by
 intro H0 H x y dx dy z Q s rx ry e k
 unfold Dm.gNe at e
 split at e
 ·rename_i hk
  rw [Bool.and_eq_true] at hk
  cases e
  exact ⟨dx,dy,rx.full s,ry.full s,hk.1,hk.2,k _ H0 H (aM.refl s) (.bl _)⟩
 ·cases e
theorem DZ:OpD (B6 false) Dm.gIn:=by
 intro H0 H x y dx dy z Q s rx ry e k
 unfold Dm.gIn at e
 split at e
 ·split at e
  ·rename_i hk
   rw [Bool.and_eq_true] at hk
   cases e
   exact ⟨dx,_,rx.full s,.inl (ry.full s),hk.1,hk.2,k _ H0 H (aM.refl s) (.bl _)⟩
  ·cases e
 ·split at e
  ·rename_i hk
   rw [Bool.and_eq_true] at hk
   cases e
   exact ⟨dx,_,rx.full s,.inr (ry.full s),hk.1,hk.2,k _ H0 H (aM.refl s) (.bl _)⟩
  ·cases e
 ·cases e
theorem pR:OpD (B6 true) Dm.cR:=by
 intro H0 H x y dx dy z Q s rx ry e k
 unfold Dm.cR at e
 split at e
 ·split at e
  ·rename_i hk
   rw [Bool.and_eq_true] at hk
   cases e
   exact ⟨dx,_,rx.full s,.inl (ry.full s),hk.1,hk.2,k _ H0 H (aM.refl s) (.bl _)⟩
  ·cases e
 ·split at e
  ·rename_i hk
   rw [Bool.and_eq_true] at hk
   cases e
   exact ⟨dx,_,rx.full s,.inr (ry.full s),hk.1,hk.2,k _ H0 H (aM.refl s) (.bl _)⟩
  ·cases e
 ·cases e
theorem uH {H0:Hp} {xs:List V} {ds:List Dm.Dat} {i:Int} {d:Dm.Dat} (rs:aC H0 xs ds) (e:Dm.atI ds i=some d):∃ v,L2.atI xs i=some v∧Rep H0 v d:=by
 unfold Dm.atI at e
 cases q:Dm.ixN ds.length i with
 | none=>rw [q] at e;cases e
 | some j=>
  rw [q] at e
  obtain ⟨v,hv,r⟩:=rs.get (i:=j) e
  refine ⟨v,?_,r⟩
  unfold L2.atI
  rw [rs.length]
  have q':L2.ixN ds.length i=some j:=q
  rw [q']
  exact hv
theorem JK {K:PySem.W.Frag}:OpD (fun x y H Q=>FL K x y H Q∨Jg K x y H Q) Dm.gIx:=by
 intro H0 H x y dx dy z Q s rx ry e k
 unfold Dm.gIx at e
 split at e
 ·rename_i ds i
  cases q:Dm.atI ds i with
  | none=>rw [q] at e;cases e
  | some d=>
   rw [q] at e;cases e
   cases au ry
   obtain ⟨a,us,rfl,qa,ra⟩:=bz s rx
   obtain ⟨v,hv,rv⟩:=uH ra q
   exact .inl ⟨a,us,i,v,rfl,rfl,.inl qa,hv,k _ H0 H (aM.refl s) rv⟩
 ·rename_i ds i
  cases q:Dm.atI ds i with
  | none=>rw [q] at e;cases e
  | some d=>
   rw [q] at e;cases e
   cases au ry
   obtain ⟨a,us,rfl,qa,ra⟩:=g8 s rx
   obtain ⟨v,hv,rv⟩:=uH ra q
   exact .inr ⟨a,us,i,v,rfl,rfl,.inl (.inl qa),hv,k _ H0 H (aM.refl s) rv⟩
 ·cases e
theorem Gi {K:PySem.W.Frag}:CallD (fun xs H Q=>∃ p ys,xs=[.ref p]∧(SqL K H p ys∨SqT K H p ys)∧Q (.int ys.length) H) Dm.d9:=by
 intro H0 H vs ds z Q s rs e k
 unfold Dm.d9 at e
 split at e
 ·cases e
  cases rs with
  | cons r rr=>
   cases rr
   obtain ⟨a,us,rfl,qa,ra⟩:=bz s r
   exact ⟨a,us,rfl,.inl (.inl qa),k _ H0 H (aM.refl s) (by rw [ra.length];exact .int _)⟩
 ·cases e
  cases rs with
  | cons r rr=>
   cases rr
   obtain ⟨a,us,rfl,qa,ra⟩:=g8 s r
   exact ⟨a,us,rfl,.inr (.inl (.inl qa)),k _ H0 H (aM.refl s) (by rw [ra.length];exact .int _)⟩
 ·cases e
theorem Cb:CallD (fun xs H Q=>∃ i j,xs=[.int i,.int j]∧Q (.int (if j<i then j else i)) H) Dm.je:=by
 intro H0 H vs ds z Q s rs e k
 unfold Dm.je at e
 split at e
 ·cases e
  cases rs with
  | cons r rr=>
   cases rr with
   | cons r' rr=>
    cases rr
    cases au r;cases au r'
    exact ⟨_,_,rfl,k _ H0 H (aM.refl s) (.int _)⟩
 ·cases e
theorem Cc:CallD (fun xs H Q=>∃ i j,xs=[.int i,.int j]∧Q (.int (if j>i then j else i)) H) Dm.mZ:=by
 intro H0 H vs ds z Q s rs e k
 unfold Dm.mZ at e
 split at e
 ·cases e
  cases rs with
  | cons r rr=>
   cases rr with
   | cons r' rr=>
    cases rr
    cases au r;cases au r'
    exact ⟨_,_,rfl,k _ H0 H (aM.refl s) (.int _)⟩
 ·cases e
theorem Cd {K:PySem.W.Frag}:CallD (fun xs H Q=>∃ p ys,xs=[.ref p]∧(SqL K H p ys∨SqT K H p ys)∧∀ l,H l=none→Q (.ref l) (upd H l (.lst ys))) Dm.fC:=by
 intro H0 H vs ds z Q s rs e k
 unfold Dm.fC at e
 split at e
 ·cases e
  cases rs with
  | cons r rr=>
   cases rr
   obtain ⟨a,us,rfl,qa,ra⟩:=bz s r
   exact ⟨a,us,rfl,.inl (.inl qa),fun p hp=>k _ _ _ (aM.mJ s hp) ⟨p,rfl,hp,s.free hp,_,az,ra⟩⟩
 ·cases e
  cases rs with
  | cons r rr=>
   cases rr
   obtain ⟨a,us,rfl,qa,ra⟩:=g8 s r
   exact ⟨a,us,rfl,.inr (.inl (.inl qa)),fun p hp=>k _ _ _ (aM.mJ s hp) ⟨p,rfl,hp,s.free hp,_,az,ra⟩⟩
 ·cases e
theorem yK {K:PySem.W.Frag}:CallD (fun xs H Q=>∃ p ys,xs=[.ref p]∧((SqL K H p ys∧∀ l,H l=none→Q (.ref l) (upd H l (.tup ys)))∨(SqT K H p ys∧Q (.ref p) H))) Dm.iN:=by
 intro H0 H vs ds z Q s rs e k
 unfold Dm.iN at e
 split at e
 ·cases e
  cases rs with
  | cons r rr=>
   cases rr
   obtain ⟨a,us,rfl,qa,ra⟩:=bz s r
   refine ⟨a,us,rfl,.inl ⟨.inl qa,fun p hp=>?_⟩⟩
   have g:=aM.BY (o:=HO.tup us) s hp
   exact k _ _ _ g (.tup az (ra.mono g.s0))
 ·cases e
  cases rs with
  | cons r rr=>
   cases rr
   rcases r with r | ⟨a,_,w⟩
   ·cases r with
    | tup q rs=>exact ⟨_,_,rfl,.inr ⟨.inl (.inl (s _ _ q)),k _ H0 H (aM.refl s) (.tup q rs)⟩⟩
   ·exact False.elim w
 ·cases e
noncomputable abbrev DS (X:Cx) (st:Stmt) (f:Dm.FS):Prop:=PS X st (tDS f)
noncomputable abbrev DSs (X:Cx) (st:List Stmt) (f:Dm.FS):Prop:=PSs X st (tDS f)
noncomputable abbrev DI (X:Cx) (tg it:Expr) (f:Dm.FI):Prop:=PI X tg it (tDI f)
theorem PI.weak {X:Cx} {tg it:Expr} {t t':TI} (h:PI X tg it t) (k:∀ σ H R,t' σ H R→t σ H R):PI X tg it t':=fun pins s σ H R I q=>h pins s σ H R I (k σ H R q)
section
variable {X:Cx} {a b c e:Expr} {fa fb fc f:Dm.FE} {pos:Pos}
theorem d_v (i:Nat) {x:Str} (hN:X.N[i]?=some x:=by rfl) (hv:Vis X.env.scope x:=by first | exact Or.inl rfl | exact Or.inr (Or.inl rfl) | exact Or.inr (Or.inr rfl)) (hd:(x == ("__debug__" : Str))=false:=by decide)
  (hcd:(x == ("__classdict__" : Str))=false:=by decide):DE X (.Name x pos) (Dm.eV i):=PE.weak (dX hN hv hd hcd) fun _ _ _=>Jp
theorem d_i {i:Int} {j}:DE X (.Constant (.int i) j pos) (Dm.eC (.int i)):=PE.weak E2 fun _ _ _=>gY fun _=>.int i
theorem d_b {v:Bool} {j}:DE X (.Constant (.bool v) j pos) (Dm.eC (.bl v)):=PE.weak IY fun _ _ _=>gY fun _=>.bl v
theorem d_n {j}:DE X (.Constant .none j pos) (Dm.eC .non):=PE.weak E3 fun _ _ _=>gY fun _=>.non
theorem d_g {x:Str} {i:Int} {t:Tok} (hg:Gl X x) (hm:X.mg x=some (.int i t)) (hd:(x == ("__debug__" : Str))=false:=by decide):DE X (.Name x pos) (Dm.eC (.int i)):=
 PE.weak (uh (v:=.int i) hg hm ⟨t,rfl⟩ hd) fun _ _ _=>gY fun _=>.int i
theorem nW {op:Operator} {r:R2} {g:Dm.Dat→Dm.Dat→Option Dm.RV} (o:OpR X (binaryOp op) r) (od:OpD r g) (ha:DE X a fa) (hb:DE X b fb):DE X (.BinOp a op b pos) (Dm.e2 g fa fb):=
 PE.weak (Jc o ha hb) fun _ _ _=>sj od
theorem bQ (ha:DE X a fa) (hb:DE X b fb):DE X (.BinOp a .Add b pos) (Dm.e2 Dm.bY fa fb):=nW B_ Gg ha hb
theorem g9 (ha:DE X a fa) (hb:DE X b fb):DE X (.BinOp a .Sub b pos) (Dm.e2 Dm.fq fa fb):=nW Ft F_ ha hb
theorem g_ (ha:DE X a fa) (hb:DE X b fb):DE X (.BinOp a .Mult b pos) (Dm.e2 Dm.gW fa fb):=nW Ca Gh ha hb
theorem D0 (ha:DE X a fa) (hb:DE X b fb):DE X (.BinOp a .FloorDiv b pos) (Dm.e2 Dm.r_ fa fb):=nW yH Ge ha hb
theorem jf (ha:DE X a fa) (hb:DE X b fb):DE X (.BinOp a .Mod b pos) (Dm.e2 Dm.iM fa fb):=nW Fw Ga ha hb
theorem yL (ha:DE X a fa) (hb:DE X b fb):DE X (.BinOp a .Pow b pos) (Dm.e2 Dm.pL fa fb):=nW Fx Gb ha hb
theorem JL (ha:DE X a fa) (hb:DE X b fb):DE X (.BinOp a .RShift b pos) (Dm.e2 Dm.wG fa fb):=nW Fz Gd ha hb
theorem Gj (ha:DE X a fa) (hb:DE X b fb):DE X (.BinOp a .BitAnd b pos) (Dm.e2 Dm.yr fa fb):=nW FA Gf ha hb
theorem j3 {op:CmpOp} {r:R2} {g:Dm.Dat→Dm.Dat→Option Dm.RV} (o:OpR X (compareOp op) r) (od:OpD r g) (ha:DE X a fa) (hb:DE X b fb) (hm:behindInMarks op b=false):DE X (.Compare a [op] [b] pos) (Dm.e2 g fa fb):=
 PE.weak (BJ o ha hb hm) fun _ _ _=>sj od
theorem jh {op:CmpOp} {r:R2} {g:Dm.Dat→Dm.Dat→Option Dm.RV} (o:OpR X (compareOp op) r) (od:OpD r g) (ha:DE X a fa) (hb:DE X b fb) (hm:behindInMarks op b=false):DT X (.Compare a [op] [b] pos) (Dm.tV (Dm.e2 g fa fb)):=
 PT.weak (BK o ha hb hm) fun σ H Q h=>sj od (nT h)
theorem LO {k:Nat} (hr:bf k X.A) (ha:DE X a fa) (hb:DE X b fb):DE X (.Compare a [.Eq] [b] pos) (Dm.e2 Dm.gEq fa fb):=j3 (yD hr) DX ha hb (cC _)
theorem LP {k:Nat} (hr:bf k X.A) (ha:DE X a fa) (hb:DE X b fb):DE X (.Compare a [.NotEq] [b] pos) (Dm.e2 Dm.gNe fa fb):=j3 (yE hr) DY ha hb (cC _)
theorem LQ (ha:DE X a fa) (hb:DE X b fb):DE X (.Compare a [.Lt] [b] pos) (Dm.e2 Dm.gLt fa fb):=j3 DJ DU ha hb (cC _)
theorem LR (ha:DE X a fa) (hb:DE X b fb):DE X (.Compare a [.LtE] [b] pos) (Dm.e2 Dm.gLe fa fb):=j3 xX yG ha hb (cC _)
theorem wB {k:Nat} (hr:bf k X.A) (ha:DE X a fa) (hb:DE X b fb) (hm:behindInMarks .In b=false:=by rfl):DE X (.Compare a [.In] [b] pos) (Dm.e2 Dm.gIn fa fb):=j3 (yF hr) DZ ha hb hm
theorem JM {k:Nat} (hr:bf k X.A) (ha:DE X a fa) (hb:DE X b fb) (hm:behindInMarks .NotIn b=false:=by rfl):DE X (.Compare a [.NotIn] [b] pos) (Dm.e2 Dm.cR fa fb):=j3 (m7 hr) pR ha hb hm
theorem sC {k:Nat} (hr:bf k X.A) (ha:DE X a fa) (hb:DE X b fb):DT X (.Compare a [.Eq] [b] pos) (Dm.tV (Dm.e2 Dm.gEq fa fb)):=jh (yD hr) DX ha hb (cC _)
theorem h_ {k:Nat} (hr:bf k X.A) (ha:DE X a fa) (hb:DE X b fb):DT X (.Compare a [.NotEq] [b] pos) (Dm.tV (Dm.e2 Dm.gNe fa fb)):=jh (yE hr) DY ha hb (cC _)
theorem JN (ha:DE X a fa) (hb:DE X b fb):DT X (.Compare a [.Lt] [b] pos) (Dm.tV (Dm.e2 Dm.gLt fa fb)):=jh DJ DU ha hb (cC _)
theorem yM (ha:DE X a fa) (hb:DE X b fb):DT X (.Compare a [.Gt] [b] pos) (Dm.tV (Dm.e2 Dm.gGt fa fb)):=jh Jd JH ha hb (cC _)
theorem Gk (ha:DE X a fa) (hb:DE X b fb):DT X (.Compare a [.GtE] [b] pos) (Dm.tV (Dm.e2 Dm.gGe fa fb)):=jh Je JI ha hb (cC _)
theorem LS {k:Nat} (hr:bf k X.A) (ha:DE X a fa) (hb:DE X b fb) (hm:behindInMarks .In b=false:=by rfl):DT X (.Compare a [.In] [b] pos) (Dm.tV (Dm.e2 Dm.gIn fa fb)):=jh (yF hr) DZ ha hb hm
theorem JO {k:Nat} (hr:bf k X.A) (ha:DE X a fa) (hb:DE X b fb) (hm:behindInMarks .NotIn b=false:=by rfl):DT X (.Compare a [.NotIn] [b] pos) (Dm.tV (Dm.e2 Dm.cR fa fb)):=jh (m7 hr) pR ha hb hm
theorem aL (ha:DE X a fa) (hb:DE X b fb) (hs:nM b:=by intro _ _;rfl):DE X (.Subscript a b pos) (Dm.e2 Dm.gIx fa fb):=PE.weak (DM (uy.or FO) ha hb hs) fun _ _ _=>sj JK
theorem ah:DA X [] []:=PA.weak rX fun _ _ _=>Jq
theorem aa {es:List Expr} {fs:List Dm.FE} (h:DE X e f) (r:DA X es fs) (hs:starEach (e::es) X.env=(false,eval e X.env)::starEach es X.env:=by rfl):DA X (e::es) (f::fs):=PA.weak (nK h r hs) fun _ _ _=>F2
theorem j4 {es:List Expr} {fs:List Dm.FE} {x1} (h:DA X es fs):DE X (.Tuple es x1 pos) (Dm.iJ fs):=PE.weak (FH h) fun _ _ _=>Jr
theorem cN {es:List Expr} {fs:List Dm.FE} (h:DA X es fs):DE X (.List es pos) (Dm.dm fs):=PE.weak (x9 h) fun _ _ _=>Js
theorem wK {es:List Expr} {fs:List Dm.FE} {r:List V→Hp→VK→Prop} {g:List Dm.Dat→Option Dm.RV} {x:Str} {id:String} {p:Pos} (hc:cM X (.builtin id) r) (cd:CallD r g) (hv:bootBuiltins x=some (.builtin id)) (hg:Gl X x) (hm:X.mg x=none) (ha:DA X (e::es) fs)
  (hn:x ≠ "__name__" := by decide) (hdb:(x == ("__debug__" : Str))=false:=by decide) (he:starEach (e::es) X.env=(false,eval e X.env)::starEach es X.env:=by rfl) (hpl:(backTo pos (starEach es X.env)).any (·.1)=false:=by rfl) :
  DE X (.Call (.Name x p) (e::es) [] pos) (Dm.eB g fs):=PE.weak (pD hc hg hm hv ha hn hdb he hpl) fun _ _ _=>F3 cd
theorem Gm {es:List Expr} {fs:List Dm.FE} {r:List V→Hp→VK→Prop} {g:List Dm.Dat→Option Dm.RV} {x:Str} {T:String} {p:Pos} (hc:cM X (.type T) r) (cd:CallD r g) (hv:bootBuiltins x=some (.type T)) (hg:Gl X x) (hm:X.mg x=none) (ha:DA X (e::es) fs)
  (hn:x ≠ "__name__" := by decide) (hdb:(x == ("__debug__" : Str))=false:=by decide) (he:starEach (e::es) X.env=(false,eval e X.env)::starEach es X.env:=by rfl) (hpl:(backTo pos (starEach es X.env)).any (·.1)=false:=by rfl) :
  DE X (.Call (.Name x p) (e::es) [] pos) (Dm.eB g fs):=PE.weak (wo hc hg hm hv ha hn hdb he hpl) fun _ _ _=>F3 cd
variable {es:List Expr} {fs:List Dm.FE} {p:Pos}
theorem ia (hg:Gl X "len") (hm:X.mg "len" = none) (ha:DA X [e] fs) (he:starEach [e] X.env=[(false,eval e X.env)]:=by rfl) (hpl:(backTo pos (starEach [] X.env)).any (·.1)=false:=by rfl):DE X (.Call (.Name "len" p) [e] [] pos) (Dm.eB Dm.d9 fs):=wK nN Gi PySem.boot_len hg hm ha (he:=he) (hpl:=hpl)
theorem nX (hc:X.calm=true) (hg:Gl X "min") (hm:X.mg "min" = none) (ha:DA X [a,b] fs) (he:starEach [a,b] X.env=(false,eval a X.env)::starEach [b] X.env:=by rfl) (hpl:(backTo pos (starEach [b] X.env)).any (·.1)=false:=by rfl):DE X (.Call (.Name "min" p) [a,b] [] pos) (Dm.eB Dm.je fs):=wK (we hc) Cb (by rfl) hg hm ha (he:=he) (hpl:=hpl)
theorem yN (hc:X.calm=true) (hg:Gl X "max") (hm:X.mg "max" = none) (ha:DA X [a,b] fs) (he:starEach [a,b] X.env=(false,eval a X.env)::starEach [b] X.env:=by rfl) (hpl:(backTo pos (starEach [b] X.env)).any (·.1)=false:=by rfl):DE X (.Call (.Name "max" p) [a,b] [] pos) (Dm.eB Dm.mZ fs):=wK (wc hc) Cc (by rfl) hg hm ha (he:=he) (hpl:=hpl)
theorem iR (hg:Gl X "list") (hm:X.mg "list" = none) (ha:DA X [e] fs) (he:starEach [e] X.env=[(false,eval e X.env)]:=by rfl) (hpl:(backTo pos (starEach [] X.env)).any (·.1)=false:=by rfl):DE X (.Call (.Name "list" p) [e] [] pos) (Dm.eB Dm.fC fs):=Gm nP Cd (by rfl) hg hm ha (he:=he) (hpl:=hpl)
theorem uI (hg:Gl X "tuple") (hm:X.mg "tuple" = none) (ha:DA X [e] fs) (he:starEach [e] X.env=[(false,eval e X.env)]:=by rfl) (hpl:(backTo pos (starEach [] X.env)).any (·.1)=false:=by rfl):DE X (.Call (.Name "tuple" p) [e] [] pos) (Dm.eB Dm.iN fs):=Gm mF yK (by rfl) hg hm ha (he:=he) (hpl:=hpl)
theorem ay {k:Nat} {F:Addr} {fd:FuncData} {ps:List Str} {g:List Dm.Dat→Option Dm.RV} {x:Str} (G:aQ X.prog X.w X.K X.mg X.base CX0 k F fd ps (spD g)) (hr:bf k X.A) (hg:Gl X x) (hm:X.mg x=some (.ref F)) (hk:PySem.W.keepIn X.K (.ref F)=true) (hb:Binds X.K fd ps [])
  (ha:DA X (e::es) fs) (hdb:(x == ("__debug__" : Str))=false:=by decide) (he:starEach (e::es) X.env=(false,eval e X.env)::starEach es X.env:=by rfl) (hpl:(backTo pos (starEach es X.env)).any (·.1)=false:=by rfl) :
  DE X (.Call (.Name x p) (e::es) [] pos) (Dm.eF g fs):=PE.weak (jH G hr hg hm hk hb .nil (pG (X:=X)) ha hdb he hpl) fun _ _ _=>sq
theorem JP {t:Dm.FT} {q:Expr} (hq:DT X q t) (ha:DE X a fa) (hb:DE X b fb):DE X (.IfExp q a b pos) (Dm.eIf t fa fb):=PE.weak (xM hq ha hb) fun _ _ _=>LF
theorem pS {op} (h:DE X a fa):DE X (.BoolOp op [a] pos) fa:=E6 h
theorem j5 {rest:List Expr} (ha:DE X a fa) (hb:DE X (.BoolOp .And (b::rest) pos) fb):DE X (.BoolOp .And (a::b::rest) pos) (Dm.gU fa fb):=PE.weak (E7 ha hb) fun _ _ _=>Jt
theorem JQ (ha:DE X a fa):DE X (.UnaryOp .Not a pos) (Dm.wF fa):=PE.weak (E8 ha) fun _ _ _=>Ju
noncomputable abbrev DW (X:Cx) (e:Expr) (f:Dm.FT):Prop:=PW X e (tDT f)
theorem PW.weak {t t':TT} (h:PW X e t) (k:∀ σ H Q,t' σ H Q→t σ H Q):PW X e t':=fun whole pins s σ H Q I q=>h whole pins s σ H Q I (k σ H Q q)
variable {ta tb:Dm.FT}
theorem sD (h:DT X a ta):DW X (.BoolOp .And [a] pos) ta:=pw_and1 h
theorem ji (h:DT X a ta):DW X (.BoolOp .Or [a] pos) ta:=pw_or1 h
theorem w_and {rest:List Expr} (ha:DT X a ta) (hb:DW X (.BoolOp .And (b::rest) pos) tb):DW X (.BoolOp .And (a::b::rest) pos) (Dm.jE ta tb):=PW.weak (pw_and ha hb) fun _ _ _=>F5
theorem w_or {rest:List Expr} (ha:DT X a ta) (hb:DW X (.BoolOp .Or (b::rest) pos) tb):DW X (.BoolOp .Or (a::b::rest) pos) (Dm.tOr ta tb):=PW.weak (pw_or ha hb) fun _ _ _=>Jv
theorem t_w (h:DW X a ta):DT X a ta:=h.pt
theorem eG (h:DT X a ta):DT X (.UnaryOp .Not a pos) (Dm.di ta):=PT.weak (E5 h) fun _ _ _=>F4
theorem dN (h:DE X e f) (he:∀ whole,isTrue e X.env whole=(do let v ← whole;standAt e.pos;holding [v] (truthy v)):=by intro _;rfl):DT X e (Dm.tV f):=PT.weak (E4 h he) fun _ _ _=>nT
variable {tg:Expr}
theorem sF (hg:Gl X "range") (hm:X.mg "range" = none) (ha:DA X [a] [fa]) (hs:starEach [a] X.env=[(false,eval a X.env)]:=by rfl):DI X tg (.Call (.Name "range" p) [a] [] pos) (Dm.iR1 fa):=
 PI.weak (v8 hg hm ha hs) fun _ _ _=>JD
theorem Ce (hg:Gl X "range") (hm:X.mg "range" = none) (ha:DA X [a,b] [fa,fb]) (hs:starEach [a,b] X.env=[(false,eval a X.env),(false,eval b X.env)]:=by rfl) (hs2:starEach [b] X.env=[(false,eval b X.env)]:=by rfl):DI X tg (.Call (.Name "range" p) [a,b] [] pos) (Dm.iR2 fa fb):=
 PI.weak (v9 hg hm ha hs hs2) fun _ _ _=>JE
end
section
variable {X:Cx} {st:Stmt} {rest:List Stmt} {fs gs:Dm.FS} {e a b c:Expr} {f fa fb:Dm.FE} {pos:Pos}
theorem bL:DSs X [] Dm.sNx:=PSs.weak um fun _ _ _=>LG
theorem ai (h1:DS X st fs) (h2:DSs X rest gs):DSs X (st::rest) (Dm.aD fs gs):=PSs.weak (gO h1 h2) fun _ _ _=>Jx
theorem aq (h1:DS X st fs):DSs X [st] fs:=uo h1
theorem s_a (i:Nat) {x:Str} {pos':Pos} (hN:X.N.Nodup) (he:DE X e f) (hi:X.N[i]?=some x:=by rfl) (hx:Loc X.env.scope x:=by first | exact Or.inl rfl | exact Or.inr rfl) (hs:swapsWith e (some (.Name x pos')) pos.line X.env=pure false:=by rfl)
  (hf:X.fn x=true∨X.env.scope.names.lookup x=some .local:=by first | exact .inl rfl | exact .inr rfl | assumption):DS X (.Assign [.Name x pos'] e pos) (Dm.sA i f):=PS.weak (Fg hN hi hx he hs hf) fun _ _ _=>yw
theorem iU:PGs X [] (eu []):=BG
theorem bh {es:List Expr} {is:List Nat} (i:Nat) {x:Str} {px:Pos} (hN:X.N.Nodup) (h2:PGs X es (eu is)) (hi:X.N[i]?=some x:=by rfl) (hx:Loc X.env.scope x:=by first | exact Or.inl rfl | exact Or.inr rfl)
  (hf:X.fn x=true∨X.env.scope.names.lookup x=some .local:=by first | exact .inl rfl | exact .inr rfl | assumption) (hs:(assignEach (.Name x px::es) X.env).map (·.2)=assign (.Name x px) X.env::(assignEach es X.env).map (·.2):=by rfl):PGs X (.Name x px::es) (eu (i::is)):=xP (nJ hN hi hx hf) h2 hs
theorem s_e (he:DE X e f) (hs:swapsWith e none pos.line X.env=pure false:=by rfl):DS X (.Expr e pos) (Dm.sE f):=PS.weak (nI he hs) fun _ _ _=>F6
theorem s_r (he:DE X e f):DS X (.Return (some e) pos) (Dm.sR f):=PS.weak (E9 he) fun _ _ _=>Jy
theorem cL {t:Dm.FT} {x y:List Stmt} (ht:DT X c t) (ha:DSs X x fs) (hb:DSs X y gs):DS X (.If c x y pos) (Dm.sIf t fs gs):=PS.weak (DC ht ha hb) fun _ _ _=>Jz
theorem nY:DS X st (fun _=>none):=PS.weak xO fun _ _ _ ⟨_,_,_,_,z,_⟩=>by cases z
theorem pT (i:Nat) {x:Str} {px ap cp:Pos} (he:DE X e f) (hi:X.N[i]?=some x:=by rfl) (hv:Vis X.env.scope x:=by first | exact Or.inl rfl | exact Or.inr (Or.inl rfl) | exact Or.inr (Or.inr rfl)) (hd:(x == ("__debug__" : Str))=false:=by decide)
  (hcd:(x == ("__classdict__" : Str))=false:=by decide) (hbase:attributeBase (.Name x px) "append" X.env (eval (.Name x px) X.env)=eval (.Name x px) X.env:=by rfl)
  (hfew:((backTo cp (starEach [e] X.env)).all (fun x=>!x.1)&&(backToKw cp (keywordEach [] X.env)).all (fun x=>x.1.isSome)
   && decide ([e].length+([]:List Keyword).length+(if ([]:List Keyword).isEmpty then 0 else 1)<30))=true:=by rfl)
  (hline:(ap.endLine == cp.line)=true:=by rfl) (hs:starEach [e] X.env=(false,eval e X.env)::starEach [] X.env:=by rfl) (hplain:(backTo cp (starEach [] X.env)).any (·.1)=false:=by rfl)
  (hsw:swapsWith (.Call (.Attribute (.Name x px) "append" ap) [e] [] cp) none pos.line X.env=pure false:=by rfl) :
  DS X (.Expr (.Call (.Attribute (.Name x px) "append" ap) [e] [] cp) pos) (Dm.mG i f):=
 PS.weak (nI (ya PySem.F.plainAttrs_list PySem.F.slot_list_append PySem.F.type_list_append iG (dX hi hv hd hcd) (aa he ah hs) hbase hfew hline hs hplain) hsw) fun _ _ _=>JA
theorem D3 (i:Nat) {x:Str} {j:Expr} {fj:Dm.FE} {px sp:Pos} (hj:DE X j fj) (he:DE X e f) (hi:X.N[i]?=some x:=by rfl) (hv:Vis X.env.scope x:=by first | exact Or.inl rfl | exact Or.inr (Or.inl rfl) | exact Or.inr (Or.inr rfl)) (hd:(x == ("__debug__" : Str))=false:=by decide)
  (hcd:(x == ("__classdict__" : Str))=false:=by decide) (ha:∀ v,assign (.Subscript (.Name x px) j sp) X.env v=(do
   let ov ← holding [v] (eval (.Name x px) X.env)
   let iv ← holding [v,ov] (eval j X.env)
   standAt sp
   holding [v,ov,iv] (setItem ov iv v)
   release [v,ov,iv] []):=by intro _;rfl)
  (hs:swapsWithSole [.Subscript (.Name x px) j sp] e pos.line X.env=pure false:=by rfl) (hw:swappedStores [.Subscript (.Name x px) j sp] e X.env=pure none:=by rfl) (h1:(assignEach [.Subscript (.Name x px) j sp] X.env).map (·.2)=[assign (.Subscript (.Name x px) j sp) X.env]:=by rfl) :
  DS X (.Assign [.Subscript (.Name x px) j sp] e pos) (Dm.r9 i fj f):=PS.weak (Ff he (Fe (dX hi hv hd hcd) hj set_list ha) hs hw h1) fun _ _ _=>JB
theorem JR (n:Nat) {t:Dm.FT} {body:List Stmt} (hp:PassesOwn (model X.prog X.w) X.A X.env X.xe) (ht:DT X c t) (hb:DSs X body fs):DS X (.While c body [] pos) (Dm.whD t fs n):=PS.weak (xS hp ht hb) fun _ _ _=>BZ
structure TG' (X:Cx) (tg:Expr) (is:List Nat) (bd:Dm.FB):Prop where
 ex:∃ g,PG X tg g∧BD is g bd
theorem g_n (i:Nat) {x:Str} {px:Pos} (hN:X.N.Nodup) (hi:X.N[i]?=some x:=by rfl) (hx:Loc X.env.scope x:=by first | exact Or.inl rfl | exact Or.inr rfl) (hf:X.fn x=true∨X.env.scope.names.lookup x=some .local:=by first | exact .inl rfl | exact .inr rfl | assumption) :
  TG' X (.Name x px) [i] (Dm.bN i):=⟨⟨_,nJ hN hi hx hf,uE i⟩⟩
theorem g_t {is:List Nat} {es:List Expr} {k:Nat} {tpos:Pos} (hc:X.calm=true) (hg:PGs X es (eu is)) (hn:(assignEach es X.env).length=is.length:=by rfl) (hst:(assignEach es X.env).findIdx? (·.1)=none:=by rfl):TG' X (.Tuple es k tpos) is (Dm.bT is):=
 ⟨⟨_,xQ hc hg hn hst,yx is rfl⟩⟩
theorem dO {tg it:Expr} {fi:Dm.FI} {is:List Nat} {bd:Dm.FB} {body:List Stmt} (hp:PassesOwn (model X.prog X.w) X.A X.env X.xe) (hc:X.calm=true) (hi:DI X tg it fi) (hg:TG' X tg is bd) (hb:DSs X body fs)
  (hs:∀ x,foldedSetIterable it X.env x=pure x:=by intro _;rfl):DS X (.For tg it body [] pos) (Dm.d8 fi bd fs):=by
 obtain ⟨g,h1,h2⟩:=hg.ex
 exact PS.weak (xV hp hc hi h1 hb hs) fun _ _ _=>JC h2
end
noncomputable def tyName:Dm.Dat→String
 | .non => "NoneType"
 | .bl _ => "bool"
 | .int _ => "int"
 | .str _ => "str"
 | .tup _ => "tuple"
 | .lst _ => "list"
 | .dct _ _ => "dict"
 | .exc _ => "dict"
 | .fn _ => "dict"
noncomputable def wL (T:String) (p:Dm.Dat→Bool):Prop:=∀ (K:PySem.W.Frag) (d:Dm.Dat),PySem.W.kitOne K (.type (tyName d)) (.type T)=some (p d)
theorem Cf:wL "int" Dm.isI:=fun K d=>by cases d<;>rfl
theorem yO:wL "bool" Dm.isB:=fun K d=>by cases d<;>rfl
theorem yP:wL "list" Dm.isL:=fun K d=>by cases d<;>rfl
theorem kit_tuple:wL "tuple" Dm.isT:=fun K d=>by cases d<;>rfl
theorem yQ {K:PySem.W.Frag} {H:Hp} {v:V} {d:Dm.Dat} (r:Rep H v d) (nx:∀ C,d≠.exc C∧d≠.fn C):gR K H v (.type (tyName d)):=by
 cases r with
 | non=>exact .non
 | bl b=>exact .bl b
 | int i=>exact .int i
 | str s=>exact .str _
 | tup q _=>exact .tup q
 | lst q _=>
  rcases q with q | ⟨o,q⟩
  ·exact .lst q
  ·exact .frz q
 | dct q _ _=>exact .dK q
 | exc _=>exact absurd rfl (nx _).1
 | fn _=>exact absurd rfl (nx _).2
noncomputable def JS (K:PySem.W.Frag) (T:String):List V→Hp→VK→Prop:=fun xs H Q=>∃ x t b,xs=[x,.ty T]∧gR K H x t∧PySem.W.kitOne K t (.type T)=some b∧Q (.bl b) H
section
variable {X:Cx} {e:Expr} {f:Dm.FE} {p p2 pos:Pos}
theorem yR {T:String}:cM X (.builtin "isinstance") (JS X.K T):=by
 intro pins s σ H xs us Q I r h
 obtain ⟨x,t,b,rfl,ty,e,q⟩:=h
 obtain ⟨u,u2,rfl,rx,ry⟩:=vals2 r
 cases ry
 exact wj I rx ty e fun tk=>⟨.bl b,H,I.tok tk,rfl,q⟩
theorem JT {K:PySem.W.Frag} {T:String} {p:Dm.Dat→Bool} (kp:wL T p) {σ:L2.St} {H:Hp} {Q:VK} (h:tD (Dm.e1 (Dm.pK p) f) σ H Q):tCB (JS K T) (uv (tD f) (uv (tC (.ty T)) x8)) σ H Q:=by
 obtain ⟨H0,ρ,x,ρ',st,e,k⟩:=h
 unfold Dm.e1 at e
 split at e
 ·cases e
 rename_i x1 ρ1 e1
 split at e
 ·cases e
 rename_i dx p1
 have nx:∀ C,dx≠.exc C∧dx≠.fn C:=fun C=>⟨fun z=>(by subst z;cases e),fun z=>(by subst z;cases e)⟩
 have ev:Dm.pK p dx=Dm.vB (p dx):=by cases dx<;>first | rfl | exact absurd rfl (nx _).1 | exact absurd rfl (nx _).2
 rw [ev] at e
 dsimp only at e
 cases e
 refine ⟨H0,ρ,x1,_,st,e1,fun v H1 Hb t1 r1=>?_⟩
 exact ⟨v,_,_,rfl,yQ ((r1.look t1.st p1).full t1.st.same) nx,kp K dx,k _ H1 Hb t1 (Rep.bl _)⟩
theorem pU {T:String} {tn:Str} {p':Dm.Dat→Bool} (kp:wL T p') (hvT:bootBuiltins tn=some (.type T)) (hgT:Gl X tn) (hmT:X.mg tn=none) (hg:Gl X "isinstance") (hm:X.mg "isinstance" = none) (h:DE X e f)
  (hn:tn ≠ "__name__" := by decide) (hdb:(tn == ("__debug__" : Str))=false:=by decide)
  (he:starEach [e,.Name tn p2] X.env=(false,eval e X.env)::starEach [.Name tn p2] X.env:=by rfl) (hpl:(backTo pos (starEach [.Name tn p2] X.env)).any (·.1)=false:=by rfl) (he2:starEach [.Name tn p2] X.env=(false,eval (.Name tn p2) X.env)::starEach [] X.env:=by rfl) :
  DE X (.Call (.Name "isinstance" p) [e,.Name tn p2] [] pos) (Dm.e1 (Dm.pK p') f):=
 PE.weak (pD yR hg hm PyProof.Rows.boot_isinstance (nK h (nK (BF (v:=.ty T) hgT hmT hvT rfl hn hdb) rX he2) he) (he:=he) (hpl:=hpl)) fun _ _ _=>JT kp
theorem all_range (bs:List Bool):(List.range bs.length).all (fun i=>bs.getD i true)=bs.all id:=by
 rw [Bool.eq_iff_iff,List.all_eq_true,List.all_eq_true]
 constructor
 ·intro h b hb
  obtain ⟨i,hi,rfl⟩:=List.mem_iff_getElem.mp hb
  have:=h i (List.mem_range.mpr hi)
  rw [List.getD_eq_getElem?_getD,List.getElem?_eq_getElem hi] at this
  exact this
 ·intro h i hi
  have hi:=List.mem_range.mp hi
  rw [List.getD_eq_getElem?_getD,List.getElem?_eq_getElem hi]
  exact h _ (List.getElem_mem hi)
theorem wM (hc:X.calm=true):cM X (.builtin "all") (fun xs H Q=>∃ (a:Addr) (bs:List Bool),xs=[.ref a]∧Rd H a (.lst (bs.map V.bl))∧Q (.bl (bs.all id)) H):=by
 intro pins s σ H xs us Q I r h
 obtain ⟨a,bs,rfl,hq,q⟩:=h
 obtain ⟨u,rfl,rx⟩:=vals1 r
 cases rx
 obtain ⟨z,its,n,rv,e⟩:=hq.ok I.hok
 have hl:s.heap.IsList a its.toArray:=⟨_,e,rfl,_,rfl⟩
 have hlen:=rv.length
 rw [List.length_map] at hlen
 have hax:a≠s.heap.objs.size:=Nat.ne_of_lt (Heap.lt_size e)
 refine PySem.call_all_walk (wpAny_pyIter_list hl ⟨s.heap.objs.size,_,_,_,_,_,fun i=>bs.getD i true,rfl,Walks.list (A:=X.A.in1) (I.ok.hd hc) s.heap.objs.size a hax its.toArray,⟨⟨_,Heap.get?_push_size _ rfl,rfl,rfl⟩,hl.push _⟩,?_,fun h' tk hk=>?_⟩)
 ·intro i v s' Q' E' hv hQ'
  have hv':its[i]?=some v:=by simpa using hv
  have hi:i<bs.length:=by rw [hlen];exact (List.getElem?_eq_some_iff.mp hv').1
  have hb:(bs.map V.bl)[i]?=some (V.bl bs[i]):=by rw [List.getElem?_map,List.getElem?_eq_getElem hi];rfl
  obtain ⟨u,hu,ru⟩:=rv.get hb
  rw [hv'] at hu
  cases hu
  cases ru
  refine wpAny_truthy_bool ?_
  have e2:bs.getD i true=bs[i]:=by rw [List.getD_eq_getElem?_getD,List.getElem?_eq_getElem hi];rfl
  rw [← e2]
  exact hQ'
 ·have e1:its.toArray.size=bs.length:=by rw [List.size_toArray,hlen]
  rw [e1,all_range]
  refine ⟨.bl _,H,I.kept (t':=tk) fun b o eb=>hk b o ?_ (Heap.get?_push_of_some _ eb),rfl,q⟩
  intro hm
  have:b=s.heap.objs.size:=by simpa using hm
  exact absurd (Heap.lt_size eb) (by rw [this];exact Nat.lt_irrefl _)
end
section
variable {X:Cx} {a b c e:Expr} {f fa fb fc:Dm.FE} {p p2 pos:Pos}
theorem Cg {r r':R2} {g h:Dm.Dat→Dm.Dat→Option Dm.RV} (o1:OpD r g) (o2:OpD r' h) {σ:L2.St} {H:Hp} {Q:VK} (hh:tD (Dm.jW g h fa fb fc) σ H Q):xY r r' (tD fa) (tD fb) (tD fc) σ H Q:=by
 obtain ⟨H0,ρ,x,ρ',st,e,k⟩:=hh
 unfold Dm.jW at e
 split at e
 ·cases e
 rename_i x1 ρ1 e1
 split at e
 ·cases e
 rename_i y1 ρ2 e2
 split at e
 ·cases e
 rename_i dx p1
 split at e
 ·cases e
 rename_i dy p2
 refine ⟨H0,ρ,x1,ρ1,st,e1,fun v H1 Hb t1 r1=>⟨H1,ρ1,y1,ρ2,t1.st,e2,fun u H2 Hc t2 r2=>?_⟩⟩
 split at e
 ·rename_i gz
  refine o1 H2 Hc v u dx dy _ _ t2.st.same ((r1.mono t2).look t2.st p1) (r2.look t2.st p2) gz fun w H3 Hd g3 r3=>?_
  refine ⟨true,Rep.nS r3,?_⟩
  rw [if_pos rfl]
  have t3:=t2.trans (.grow t2.st g3)
  have r2':=r2.mono (.grow t2.st g3)
  split at e
  ·cases e
  rename_i z ρ3 e3
  split at e
  ·cases e
  rename_i dy' p3
  split at e
  ·cases e
  rename_i dz p4
  split at e
  ·cases e
  rename_i w2 hz
  cases e
  refine ⟨H3,ρ2,z,_,t3.st,e3,fun w' H4 He t4 r4=>?_⟩
  refine o2 H4 He u w' dy' dz w2 Q t4.st.same ((r2'.mono t4).look t4.st p3) (r4.look t4.st p4) hz fun w5 H5 Hf g5 r5=>?_
  exact k w5 H5 Hf (t1.trans (t3.trans (t4.trans (.grow t4.st g5)))) ((r5.toV t4.st).early fun a n=>(t1.trans (t3.trans t4)).stp.gone n)
 ·rename_i gz
  cases e
  refine o1 H2 Hc v u dx dy _ _ t2.st.same ((r1.mono t2).look t2.st p1) (r2.look t2.st p2) gz fun w H3 Hd g3 r3=>?_
  refine ⟨false,Rep.nS r3,?_⟩
  rw [if_neg Bool.false_ne_true]
  exact k _ H3 Hd (t1.trans (t2.trans (.grow t2.st g3))) (Rep.bl false)
 ·cases e
theorem Ci {op op':CmpOp} {r r':R2} {g h:Dm.Dat→Dm.Dat→Option Dm.RV} (o1:OpR X (compareOp op) r) (q1:OpD r g) (o2:OpR X (compareOp op') r') (q2:OpD r' h) (ha:DE X a fa) (hb:DE X b fb) (hc:DE X c fc)
  (hm:lastMarks [op,op'] [b,c]=false:=by with_unfolding_all rfl):DE X (.Compare a [op,op'] [b,c] pos) (Dm.jW g h fa fb fc):=PE.weak (xZ o1 o2 ha hb hc hm) fun _ _ _=>Cg q1 q2
end
section
variable {X:Cx} {nm:List Str} {elt tg iter:Expr} {ifs:List Expr} {scope:Scope} {pos:Pos} {own:List Str} {fi:Dm.FI} {bd:Dm.FB} {is:List Nat} {t:Dm.FT} {f:Dm.FE}
noncomputable abbrev DTs (X:Cx) (ifs:List Expr) (t:Dm.FT):Prop:=PTs X ifs (tDT t)
theorem bR:DTs X [] Dm.bO:=fun pins s σ H Q I h=>by
 obtain ⟨H0,ρ,b,ρ',st,e,k⟩:=h
 cases e
 exact uF pins s σ H Q I (k H0 H (.refl st))
theorem cH {c:Expr} (h:DT X c t):DTs X [c] t:=B4 h
structure TGc (X:Cx) (nm:List Str) (scope:Scope) (own:List Str) (tg:Expr) (is:List Nat) (bd:Dm.FB):Prop where
 ex:∃ g,(∀ cl C s H fp,PG (aU X nm scope own cl C s H fp) tg g)∧BD is g bd
theorem c_n (i:Nat) {x:Str} {px:Pos} (hN:(nm++own).Nodup) (hi:(nm++own)[i]?=some x) (hx:(relabel scope X.env).names.lookup x=some .local):TGc X nm scope own (.Name x px) [i] (Dm.bN i):=
 ⟨⟨_,fun cl C s H fp=>nJ (X:=aU X nm scope own cl C s H fp) hN hi (.inl hx) (.inr hx),uE i⟩⟩
theorem c_t {es:List Expr} {k:Nat} {tpos:Pos} (hc:X.calm=true) (hg:∀ cl C s H fp,PGs (aU X nm scope own cl C s H fp) es (eu is)) (hn:∀ cl C,(assignEach es (compEnvC scope cl C X.env)).length=is.length:=by intro _ _;rfl)
  (hst:∀ cl C,(assignEach es (compEnvC scope cl C X.env)).findIdx? (·.1)=none:=by intro _ _;rfl):TGc X nm scope own (.Tuple es k tpos) is (Dm.bT is):=
 ⟨⟨_,fun cl C s H fp=>xQ (X:=aU X nm scope own cl C s H fp) hc (hg cl C s H fp) (hn cl C) (hst cl C),yx is rfl⟩⟩
theorem Gn (hc:X.calm=true) (S:cj X nm scope) (hi:DI X tg iter fi) (hg:TGc X nm scope own tg is bd) (ht:∀ cl C s H fp,DTs (aU X nm scope own cl C s H fp) ifs t) (he:∀ cl C s H fp,DE (aU X nm scope own cl C s H fp) elt f)
  (hl:∀ i∈is,X.N.length≤i) (hs:∀ x,foldedSetIterable iter X.env x=pure x:=by intro _;rfl):DE X (.ListComp elt [⟨tg,iter,ifs,0⟩] scope pos) (Dm.bF fi own.length bd t f):=by
 obtain ⟨g,h1,h2⟩:=hg.ex
 intro pins s σ H Q I h
 exact uG hc S hi h1 ht he hs pins s σ H Q I (sy h2 (fun i hi=>by rw [I.len];exact hl i hi) h)
theorem Gp (j:Nat) {y:Str} {py spos:Pos} (hN:X.N.Nodup) (hc:X.calm=true) (S:cj X nm scope) (hi:DI X tg iter fi) (hg:TGc X nm scope own tg is bd) (ht:∀ cl C s H fp,DTs (aU X nm scope own cl C s H fp) ifs t) (he:∀ cl C s H fp,DE (aU X nm scope own cl C s H fp) elt f)
  (hl:∀ i∈is,X.N.length≤i) (hj:X.N[j]?=some y:=by rfl) (hy:Loc X.env.scope y:=by first | exact Or.inl rfl | exact Or.inr rfl)
  (hsw:swapsWith (.ListComp elt [⟨tg,iter,ifs,0⟩] scope pos) (some (.Name y py)) spos.line X.env=pure true:=by rfl) (hs:∀ x,foldedSetIterable iter X.env x=pure x:=by intro _;rfl)
  (hf:X.fn y=true∨X.env.scope.names.lookup y=some .local:=by first | exact .inl rfl | exact .inr rfl | assumption):DS X (.Assign [.Name y py] (.ListComp elt [⟨tg,iter,ifs,0⟩] scope pos) spos) (Dm.sA j (Dm.bF fi own.length bd t f)):=by
 obtain ⟨g,h1,h2⟩:=hg.ex
 intro pins s σ H D I h
 exact ez hN hj hy hc S hi h1 ht he hsw hs hf pins s σ H D I (sy h2 (fun i hi=>by rw [I.len];exact hl i hi) (yw h))
end
theorem j6 {H0:Hp}:∀ {ds:List Dm.Dat} {bs:List Bool} {vs:List V},aC H0 vs ds→Dm.bools ds=some bs→vs=bs.map V.bl
 | [],bs,vs,r,e=>by cases r;cases e;rfl
 | .bl b::ds,bs,vs,r,e=>by
  cases r with
  | cons r rs=>
   unfold Dm.bools at e
   cases q:Dm.bools ds with
   | none=>rw [q] at e;cases e
   | some cs=>
    rw [q] at e
    cases e
    cases Rep.nS r
    rw [j6 rs q]
    rfl
 | .non::ds,bs,vs,r,e=>by cases e
 | .int _::ds,bs,vs,r,e=>by cases e
 | .str _::ds,bs,vs,r,e=>by cases e
 | .tup _::ds,bs,vs,r,e=>by cases e
 | .lst _::ds,bs,vs,r,e=>by cases e
 | .dct _ _::ds,bs,vs,r,e=>by cases e
theorem Gq:CallD (fun xs H Q=>∃ (a:Addr) (bs:List Bool),xs=[.ref a]∧Rd H a (.lst (bs.map V.bl))∧Q (.bl (bs.all id)) H) Dm.sd:=by
 intro H0 H vs ds z Q s rs e k
 unfold Dm.sd at e
 split at e
 ·split at e
  ·rename_i bs hb
   cases e
   cases rs with
   | cons r rr=>
    cases rr
    obtain ⟨a,us,rfl,qa,ra⟩:=bz s r
    have:=j6 ra hb
    subst this
    exact ⟨a,bs,rfl,qa,k _ H0 H (aM.refl s) (.bl _)⟩
  ·cases e
 ·cases e
section
variable {X:Cx} {a b c e:Expr} {f:Dm.FE} {fs:List Dm.FE} {p p2 pos:Pos}
theorem D4 (hc:X.calm=true) (hg:Gl X "all") (hm:X.mg "all" = none) (ha:DA X [e] fs) (he:starEach [e] X.env=[(false,eval e X.env)]:=by rfl) (hpl:(backTo pos (starEach [] X.env)).any (·.1)=false:=by rfl) :
  DE X (.Call (.Name "all" p) [e] [] pos) (Dm.eB Dm.sd fs):=wK (wM hc) Gq (by rfl) hg hm ha (he:=he) (hpl:=hpl)
end
noncomputable def b4 (sc:Scope):List Str→List Str→Bool
 | [],[]=>true
 | x::N,y::nm=>(x == y||(sc.names.lookup y).isNone)&&b4 sc N nm
 | _,_=>false
theorem b4.len {sc:Scope}:∀ {N nm:List Str},b4 sc N nm=true→nm.length=N.length
 | [],[],_=>rfl
 | [],_::_,h=>by cases h
 | _::_,[],h=>by cases h
 | x::N,y::nm,h=>by
  rw [b4,Bool.and_eq_true] at h
  rw [List.length_cons,List.length_cons,b4.len h.2]
theorem b4.at {sc:Scope}:∀ {N nm:List Str},b4 sc N nm=true→∀ (i:Nat) (x:Str),nm[i]?=some x→N[i]?=some x∨sc.names.lookup x=none
 | [],[],_,i,x,e=>by simp at e
 | [],_::_,h,_,_,_=>by cases h
 | _::_,[],h,_,_,_=>by cases h
 | x::N,y::nm,h,0,z,e=>by
  rw [b4,Bool.and_eq_true,Bool.or_eq_true] at h
  simp at e
  subst e
  rcases h.1 with q | q
  ·have:x=y:=by simpa using q
   subst this
   exact .inl rfl
  ·exact .inr (by simpa using q)
 | x::N,y::nm,h,i+1,z,e=>by
  rw [b4,Bool.and_eq_true] at h
  rw [List.getElem?_cons_succ] at e ⊢
  exact b4.at h.2 i z e
noncomputable def j7 (osc:Scope) (N nm:List Str) (sc:Scope):Bool:=
 sc.names.all (fun y=>y.2 != .cell)&&sc.names.all (fun y=>y.2 != .local||sc.names.lookup y.1 == some .local) &&
 sc.names.all (fun y=>y.2 != .free||(osc.names.lookup y.1 == some .cell||osc.names.lookup y.1 == some .free))&&nm.all (fun x=>sc.names.lookup x != some .local)&&b4 sc N nm
theorem cj.of {X:Cx} {nm:List Str} {scope:Scope} (h:j7 X.env.scope X.N nm scope=true) (hk:scope.kind=.function):cj X nm scope:=by
 unfold j7 at h
 simp only [Bool.and_eq_true,List.all_eq_true] at h
 obtain ⟨⟨⟨⟨h1,h2⟩,h3⟩,h4⟩,h5⟩:=h
 refine ⟨hk,fun y hy=>?_,fun y hy hl=>?_,fun y hy hf=>?_,fun x hx=>?_,b4.len h5,b4.at h5⟩
 ·have:=h1 y hy;simpa using this
 ·have:=h2 y hy
  rw [hl] at this
  simpa using this
 ·have:=h3 y hy
  rw [hf] at this
  have:(X.env.scope.names.lookup y.1 == some .cell||X.env.scope.names.lookup y.1 == some .free)=true:=by simpa using this
  rw [Bool.or_eq_true,beq_iff_eq,beq_iff_eq] at this
  exact this
 ·have:=h4 x hx;simpa using this
section
variable {X:Cx} {elt tg iter:Expr} {ifs:List Expr} {scope:Scope} {pos:Pos} {fi:Dm.FI} {bd:Dm.FB} {is:List Nat} {t:Dm.FT} {f:Dm.FE}
theorem pV {l:List Nat} {n:Nat} (h:(l.all fun i=>decide (n≤i))=true):∀ i∈l,n≤i:=fun i hi=>of_decide_eq_true (List.all_eq_true.mp h i hi)
theorem yS (nm own:List Str) (hg:TGc X nm scope own tg is bd) (hi:DI X tg iter fi) (ht:∀ cl C s H fp,DTs (aU X nm scope own cl C s H fp) ifs t) (he:∀ cl C s H fp,DE (aU X nm scope own cl C s H fp) elt f)
  (hc:X.calm=true:=by rfl) (hk:scope.kind=.function:=by rfl) (hS:j7 X.env.scope X.N nm scope=true:=by rfl) (hl:(is.all fun i=>decide (X.N.length≤i))=true:=by rfl) (hs:∀ x,foldedSetIterable iter X.env x=pure x:=by intro _;rfl) :
  DE X (.ListComp elt [⟨tg,iter,ifs,0⟩] scope pos) (Dm.bF fi own.length bd t f):=Gn hc (cj.of hS hk) hi hg ht he (pV hl) hs
theorem JU (j:Nat) (nm own:List Str) {y:Str} {py spos:Pos} (hN:X.N.Nodup) (hg:TGc X nm scope own tg is bd) (hi:DI X tg iter fi) (ht:∀ cl C s H fp,DTs (aU X nm scope own cl C s H fp) ifs t) (he:∀ cl C s H fp,DE (aU X nm scope own cl C s H fp) elt f)
  (hc:X.calm=true:=by rfl) (hk:scope.kind=.function:=by rfl) (hS:j7 X.env.scope X.N nm scope=true:=by rfl) (hl:(is.all fun i=>decide (X.N.length≤i))=true:=by rfl) (hj:X.N[j]?=some y:=by rfl) (hy:Loc X.env.scope y:=by first | exact Or.inl rfl | exact Or.inr rfl)
  (hsw:swapsWith (.ListComp elt [⟨tg,iter,ifs,0⟩] scope pos) (some (.Name y py)) spos.line X.env=pure true:=by rfl) (hs:∀ x,foldedSetIterable iter X.env x=pure x:=by intro _;rfl)
  (hf:X.fn y=true∨X.env.scope.names.lookup y=some .local:=by first | exact .inl rfl | exact .inr rfl | assumption):DS X (.Assign [.Name y py] (.ListComp elt [⟨tg,iter,ifs,0⟩] scope pos) spos) (Dm.sA j (Dm.bF fi own.length bd t f)):=
 Gp j hN hc (cj.of hS hk) hi hg ht he (pV hl) hj hy hsw hs hf
end
theorem PI.or {X:Cx} {tg it:Expr} {t t':TI} (h:PI X tg it t) (h':PI X tg it t'):PI X tg it (fun σ H R=>t σ H R∨t' σ H R):=fun pins s σ H R I q=>q.elim (h pins s σ H R I) (h' pins s σ H R I)
theorem JV {K:PySem.W.Frag} {f:Dm.FE} {σ:L2.St} {H:Hp} {R:It→Hp→Prop} (h:tDI (Dm.iS f) σ H R):pA K (tD f) σ H R∨xT K (tD f) σ H R:=by
 obtain ⟨H0,ρ,ys,ρ',st,e,k⟩:=h
 unfold Dm.iS at e
 split at e
 ·cases e
 rename_i x ρ1 e1
 split at e
 ·rename_i ds ρ2 e2
  cases e
  exact .inl (LH ⟨H0,ρ,_,_,st,by unfold Dm.iL;rw [e1];dsimp only;rw [e2],k⟩)
 ·rename_i ds ρ2 e2
  cases e
  exact .inr (LI ⟨H0,ρ,_,_,st,by unfold Dm.iT;rw [e1];dsimp only;rw [e2],k⟩)
 ·cases e
theorem i_S {X:Cx} {tg e:Expr} {f:Dm.FE} (h:DE X e f):DI X tg e (Dm.iS f):=PI.weak (PI.or (uu h) (xU h)) fun _ _ _=>JV
noncomputable def yT (K:PySem.W.Frag):Bool:=K.all fun p=>match p.2.cls with | .type n=>n != "list" | _=>true
theorem lookup_mem {a:Addr} {o:Obj}:∀ {K:List (Addr×Obj)},K.lookup a=some o→(a,o)∈K
 | [],h=>by cases h
 | (b,x)::r,h=>by
  rw [List.lookup_cons] at h
  cases q:a == b with
  | true=>
   rw [q] at h
   cases h
   have:a=b:=by simpa using q
   rw [this]
   exact List.mem_cons_self
  | false=>
   rw [q] at h
   exact List.mem_cons_of_mem _ (lookup_mem h)
theorem Gr {f:List Dm.Dat→Option Dm.RV} {K:PySem.W.Frag} {H:Hp} {a:Addr} {ns:List Int} {E:XK} (hf:f [.lst (ns.map Dm.Dat.int)]=some (.val (.bl true))) (hK:yT K=true) (hS:SqL K H a (ns.map V.int)) :
  spD f [.ref a] H (fun v _=>v=.bl true) E:=by
 have hq:Rd H a (.lst (ns.map V.int)):=by
  rcases hS with h | ⟨o,its,n,hk,hc,_⟩
  ·exact h
  ·have:=List.all_eq_true.mp hK _ (lookup_mem hk)
   dsimp only at this
   rw [hc] at this
   exact absurd this (by decide)
 have hr:∀ ns:List Int,aC H (ns.map V.int) (ns.map Dm.Dat.int):=fun ns=>by
  induction ns with
  | nil=>exact .nil
  | cons n ns ih=>exact .cons (.int n) ih
 exact ⟨H,_,_,ak.refl _,.cons (.lst hq (hr ns)) .nil,hf,fun v H0' H' _ r=>Rep.nS r⟩
end Br
namespace Dm
noncomputable def iRd (a b c:FE):FI:=fun ρ=>match a ρ with
 | some (.val (.int i),ρ1)=>(match b ρ1 with
  | some (.val (.int j),ρ2)=>(match c ρ2 with
   | some (.val (.int k),ρ3)=>if k=-1∧j≤BIG∧-BIG≤j∧i≤BIG∧-BIG≤i then some (downs i (i-j).toNat,ρ3) else none
   | _=>none)
  | _=>none)
 | _=>none
noncomputable def wN (a:FE):FI:=fun ρ=>match a ρ with
 | none=>none
 | some (x,ρ1)=>match tk ρ1 x with
  | some (.lst ds,ρ2)=>some (ds.reverse,ρ2)
  | _=>none
noncomputable def ic:Nat→List Dat→List Dat
 | _,[]=>[]
 | i,d::ds=>.tup [.int (i:Nat),d]::ic (i+1) ds
noncomputable def iEn (a:FE):FI:=fun ρ=>match a ρ with
 | none=>none
 | some (x,ρ1)=>match tk ρ1 x with
  | some (.lst ds,ρ2)=>some (ic 0 ds,ρ2)
  | _=>none
noncomputable def j8 (d:Dat):Option RV:=match d with
 | .lst ds=>some (.new (.lst ds.reverse))
 | _=>none
noncomputable def m8:List Dat→Option RV
 | [.int j]=>if j≤1000000∧-1000000≤j then some (.new (.lst (ups 0 j.toNat))) else none
 | _=>none
end Dm
namespace Br
open PySem PySem.Spec PyProof.Rows L2
theorem m9 {X:Cx} {pins:List (Addr×Obj)} {σ:L2.St} {H:Hp} {s:Shared} {h':Heap} {t':Nat} {fp:List Addr} {p:Addr} {o:HO} (I:Inv X pins σ H s) (hf:∀ b∈fp,mE X pins H b)
  (k:∀ b u,b∉fp→s.heap.get? b=some u→h'.get? b=some u) (hp:s.heap.objs.size≤p) (new:aY X.prog X.w (upd H p o) h' p o):Inv X pins σ (upd H p o) { s with heap:=h',toks:=t' }:=by
 have hn:H p=none:=I.hok.fresh hp
 have nf:∀ b u,H b=some u→b∉fp:=fun b u e z=>by rw [(hf b z).1] at e;cases e
 have nL:X.env.locals∉fp:=fun z=>(hf _ z).2.1 rfl
 refine I.step (g':=s.gens) (d':=s.drawn) (ch:=fp) (fun b hb=>?_) (fun b u _ _ hc e _=>k b u hc e) (fun b u _ _ hc e _=>⟨u.slots,k b u hc e⟩)
  (fun b u _ e n=>by rw [av (Nat.ne_of_lt (Nat.lt_of_lt_of_le (Heap.lt_size e) hp))];exact n) (fun b u hc e=>⟨u,k b u hc e⟩)
  (fun b xs q=>by rw [av (aK q hn)];exact q) (fun b u xs q=>by rw [av (aK q hn)];exact q) (fun b ps q=>⟨#[],by rw [av (aK q hn),q];simp⟩) (fun m hm=>?_) (fun b u e=>?_) I.bare
 ·obtain ⟨f0,f1,f2,f3,f4,f5⟩:=hf b hb
  exact ⟨f3,f1,f4,f5⟩
 ·obtain ⟨o,es,ep,ho,r⟩:=hm
  exact ⟨o,es,ep,k _ o nL ho,r⟩
 ·by_cases hb:b=p
  ·subst hb;rw [az] at e;cases e;exact new
  ·rw [av hb] at e
   refine (I.hok b u e).stay (fun c v hc q=>k c v ?_ q) (fun c q=>by rw [av (aK q hn)];exact q) fun c xs q=>by rw [av (aK q hn)];exact q
   rcases hc with z | z
   ·rw [z];exact nf b u e
   ·exact nf c _ z
noncomputable def Itv (K:PySem.W.Frag) (a:Addr) (n:Nat):It:=
 ⟨fun i H=>∃ xs x,SqL K H a xs∧xs.length=n∧xs.reverse[i]?=some x,fun i H x H'=>H'=H∧∀ xs,SqL K H a xs→xs.reverse[i]?=some x,fun i H=>n≤i⟩
theorem yU {P:Program} {w:World} {K:PySem.W.Frag} {tg:Expr} (a it:Addr) (n:Nat):Turn P w K tg (Itv K a n) [it] it (fun i h=>i≤n∧h.IsRevIter it a ((n:Int)-1-(i:Nat))) where
 mem:=by simp
 obj:=fun i h st b hb=>by
  have e:b=it:=by simpa using hb
  subst e
  obtain ⟨_,o,e,c,d⟩:=st
  exact ⟨o,e,fun v z=>by rw [d] at z;cases z⟩
 keep:=fun i h h' st k=>⟨st.1,st.2.at fun o e=>k it (by simp) o e⟩
 item:=by
  intro X hP hw hK hc i pins s σ H E I hf st hg
  subst hP hw hK
  obtain ⟨xs,x,hq,hl,hx⟩:=hg
  obtain ⟨its,rv,p,hz⟩:=I.list hq
  have hi:i<n:=by
   have:=(List.getElem?_eq_some_iff.mp hx).1
   rw [List.length_reverse,hl] at this
   exact this
  rw [List.getElem?_reverse (by omega),hl] at hx
  obtain ⟨u,hu,ru⟩:=rv.get hx
  obtain ⟨f0,f1,f2,f3,f4,f5⟩:=hf it (by simp)
  obtain ⟨_,st⟩:=st
  have ei:((n:Int)-1-(i:Nat))=((n-1-i:Nat):Int):=by omega
  rw [ei] at st
  refine wpAny_pyNext_rev_item st p.isList (x:=u) (by simpa using hu) fun h' st' sb=>?_
  have ej:((n-1-i:Nat):Int)-1=(n:Int)-1-((i+1:Nat):Int):=by omega
  rw [ej] at st'
  have I1:Inv X pins σ H { s with heap:=h' }:=I.turned (t':=s.toks) (fun b o hb e=>(sb.2 b hb).trans e) f0 f1 f3 f4 f5
  obtain ⟨o,e,c,d⟩:=id st'
  refine ⟨u,rfl,ur (s:={ s with heap:=h' }) e c d (by decide) ⟨x,H,I1,ru,⟨rfl,fun ys hy=>?_⟩,⟨hi,st'⟩,fun b hb=>(hf b hb).1⟩⟩
  rw [I.dY hy hq,List.getElem?_reverse (by omega),hl];exact hx
 done:=by
  intro X hP hw hK hc i pins s σ H E I hf st hg
  subst hP hw hK
  obtain ⟨f0,f1,f2,f3,f4,f5⟩:=hf it (by simp)
  obtain ⟨h1,st⟩:=st
  have h2:n≤i:=hg
  have ei:((n:Int)-1-(i:Nat))=-1:=by omega
  rw [ei] at st
  exact wpAny_pyNext_rev_end (I.ok.hd hc) st fun h' eb=>⟨rfl,I.turned (t':=s.toks) (fun b o hb e=>eb b o hb e) f0 f1 f3 f4 f5⟩
 self:=fun _ _ _ _ _ st h=>wpAny_pyIter_revIter st.2 h
noncomputable def D5 (K:PySem.W.Frag) (tl:TE):TI:=fun σ H R=>tl σ H fun x H1=>∃ a xs,x=.ref a∧SqL K H1 a xs∧R (Itv K a xs.length) H1
section
variable {X:Cx} {tg l:Expr} {tl:TE} {p pos:Pos}
theorem yV {Q:Value→Shared→Prop} {Qx:VK} {pins:List (Addr×Obj)} {s:Shared} {σ:L2.St} {H:Hp} (hg:Gl X "reversed") (hm:X.mg "reversed" = none) (hl:PE X l tl) (hs:starEach [l] X.env=[(false,eval l X.env)]) (I:Inv X pins σ H s) (h:tl σ H Qx)
  (k:∀ x H1 s1,Inv X pins σ H1 s1→Qx x H1→∃ a xs,x=.ref a∧SqL X.K H1 a xs∧∀ its:List Value,Vals xs its→PlainL s1.heap a its.toArray→xs.length≤sizeLine→Q (.ref s1.heap.objs.size) { s1 with heap:=s1.heap.push (revObj a ((its.toArray.size:Int)-1)) }) :
  wpAny (model X.prog X.w) X.A (eval (.Call (.Name "reversed" p) [l] [] pos) X.env) Q X.xe s:=by
 refine Call_ (cB I hg hm boot_reversed (PyProof.Rows.callWith_type1 (spliced_more ?_ (by rw [hs];rfl)) (by rw [hs];rfl) rfl))
 refine thn (hl pins s σ H _ I h) fun v s1 ⟨x,H1,I1,r1,q1⟩=>?_
 obtain ⟨a,xs,e,hq,q⟩:=k x H1 s1 I1 q1
 subst e
 cases r1
 obtain ⟨its,rv,pl,hz⟩:=I1.list hq
 refine Calls.spliced_nil (call_reversed_list pl.isList (q its rv pl hz))
theorem Gs (hg:Gl X "reversed") (hm:X.mg "reversed" = none) (hl:PE X l tl) (hs:starEach [l] X.env=[(false,eval l X.env)]:=by rfl):PI X tg (.Call (.Name "reversed" p) [l] [] pos) (D5 X.K tl):=by
 intro pins s σ H R I h
 refine yV hg hm hl hs I h fun x H1 s1 I1 q1=>?_
 obtain ⟨a,xs,e,hq,q⟩:=q1
 refine ⟨a,xs,e,hq,fun its rv pl hz=>?_⟩
 have hn:(its.toArray.size:Int)=((xs.length:Nat):Int):=by rw [List.size_toArray,rv.length]
 have st:({ s1 with heap:=s1.heap.push (revObj a ((its.toArray.size:Int)-1)) }:Shared).heap.IsRevIter s1.heap.objs.size a (((xs.length:Nat):Int)-1-((0:Nat):Int)):=⟨_,Heap.get?_push_size _ rfl,rfl,by rw [hn];simp [revObj]⟩
 refine wpAny_pyIter_revIter st ?_
 refine ⟨s1.heap.objs.size,[s1.heap.objs.size],_,_,H1,rfl,I1.kept (t':=s1.toks) fun b o e=>Heap.get?_push_of_some _ e,yU a _ xs.length,⟨Nat.zero_le _,st⟩,fun b hb=>?_,q⟩
 have e:b=s1.heap.objs.size:=by simpa using hb
 subst e
 exact I1.v5 (Nat.le_refl _) (I1.hok.fresh (Nat.le_refl _))
end
section
variable {X:Cx} {tg:Expr}
end
noncomputable def Ite (K:PySem.W.Frag) (a:Addr):It:=
 ⟨fun i H=>∃ xs x,SqL K H a xs∧xs[i]?=some x,fun i H x H'=>∃ p v,H p=none∧x=.ref p∧H'=upd H p (.tup [.int i,v])∧∀ xs,SqL K H a xs→xs[i]?=some v,fun i H=>∃ xs,SqL K H a xs∧xs.length≤i⟩
theorem wO {P:Program} {w:World} {K:PySem.W.Frag} {elts:List Expr} {x1} {tp:Pos} (a e it:Addr) (hne:e≠it):Turn P w K (.Tuple elts x1 tp) (Ite K a) [e,it] e (fun i h=>(∃ old,IsEnum h e it (i:Nat) old)∧h.IsListIter it a i) where
 mem:=by simp
 obj:=fun i h st b hb=>by
  obtain ⟨⟨old,he⟩,o,e1,c,d⟩:=st
  rcases List.mem_cons.mp hb with rfl | hb
  ·exact ⟨_,he,fun v z=>by
    have z':Data.fields _=Data.cell v:=z
    cases z'⟩
  ·have e2:b=it:=by simpa using hb
   subst e2
   exact ⟨o,e1,fun v z=>by rw [d] at z;cases z⟩
 keep:=fun i h h' st k=>⟨let ⟨old,he⟩:=st.1;⟨old,k e (by simp) _ he⟩,st.2.at fun o z=>k it (by simp) o z⟩
 item:=by
  intro X hP hw hK hc i pins s σ H E I hf st hg
  subst hP hw hK
  obtain ⟨xs,x,hq,hx⟩:=hg
  obtain ⟨its,rv,p,hz⟩:=I.list hq
  obtain ⟨u,hu,ru⟩:=rv.get hx
  obtain ⟨⟨old,he⟩,hit⟩:=st
  refine wpAny_pyNext_enum_item he hit p.isList (x:=u) (by simpa using hu) hne fun h1 heo LU ht1 hz1 hk1=>?_
  refine ⟨_,rfl,wpAny_letOwnedTupleGo_enum heo fun h2 he2 hs2=>?_⟩
  have hlt:e<s.heap.objs.size:=Heap.lt_size he
  have ht2:h2.get? s.heap.objs.size=some { cls:=.type "tuple",data:=.seq #[.int i s.toks,u] }:=(hs2.2 _ (Nat.ne_of_gt hlt)).trans ht1
  have k2:∀ b o,b∉[e,it]→s.heap.get? b=some o→h2.get? b=some o:=fun b o hb z=>by
   have n1:b≠e:=fun y=>hb (by simp [y])
   have n2:b≠it:=fun y=>hb (by simp [y])
   exact (hs2.2 b n1).trans (hk1 b o n1 n2 z)
  have hn:H s.heap.objs.size=none:=I.hok.fresh (Nat.le_refl _)
  have I2:Inv X pins σ (upd H s.heap.objs.size (.tup [.int i,x])) { s with heap:=h2,toks:=s.toks+1 }:=
   m9 I hf k2 (Nat.le_refl _) ⟨by simp [sizeLine],[.int i s.toks,u],.cons ⟨s.toks,rfl⟩ (.cons ru .nil),_,ht2,rfl,_,rfl⟩
  refine ⟨.ref s.heap.objs.size,_,I2,rfl,⟨_,x,hn,rfl,rfl,fun ys hy=>by rw [I.dY hy hq];exact hx⟩,⟨⟨u,?_⟩,?_⟩,fun b hb=>?_⟩
  ·have:(((i+1:Nat):Int))=(i:Int)+1:=by omega
   rw [this];exact he2
  ·exact LU.at fun o z=>(hs2.2 it (Ne.symm hne)).trans z
  ·have hb1:b≠s.heap.objs.size:=fun y=>by
    rcases List.mem_cons.mp hb with z | z
    ·rw [y] at z;exact absurd z (Nat.ne_of_gt hlt)
    ·have z':b=it:=by simpa using z
     obtain ⟨o,ho,_⟩:=hit
     have:=Heap.lt_size ho
     rw [← z',y] at this
     exact Nat.lt_irrefl _ this
   rw [av hb1]
   exact (hf b hb).1
 done:=by
  intro X hP hw hK hc i pins s σ H E I hf st hg
  subst hP hw hK
  obtain ⟨xs,hq,hx⟩:=hg
  obtain ⟨its,rv,p,hz⟩:=I.list hq
  obtain ⟨f0,f1,f2,f3,f4,f5⟩:=hf it (by simp)
  obtain ⟨⟨old,he⟩,hit⟩:=st
  have hl:=rv.length
  exact wpAny_pyNext_enum_end (I.ok.hd hc) he hit p.isList (by simp;omega) fun h' eb=>⟨rfl,I.turned (t':=s.toks) (fun b o hb e=>eb b o hb e) f0 f1 f3 f4 f5⟩
 self:=fun A i s Q E st h=>by
  obtain ⟨⟨old,he⟩,hit⟩:=st
  have hT:s.TypeIs (.ref e) "enumerate" := ⟨_,he,rfl⟩
  refine wpAny_pyIter_slot hT F.slot_enumerate_iter (wpAny_call_entry F.slot_enumerate_iter hT F.entry_enumerate_iter ?_ (F.args_enumerate_iter_1 _))
  show wpAny _ _ (ret (.ref e)) _ _ s
  exact wpAny_pure ⟨_,rfl,"enumerate",_,hT,F.slot_enumerate_next.lookup,h⟩
noncomputable def JX (K:PySem.W.Frag) (tl:TE):TI:=fun σ H R=>tl σ H fun x H1=>∃ a,x=.ref a∧(∃ xs,SqL K H1 a xs)∧R (Ite K a) H1
section
variable {X:Cx} {l:Expr} {tl:TE} {p pos:Pos} {elts:List Expr} {x1:Nat} {tp:Pos}
theorem Cj (hg:Gl X "enumerate") (hm:X.mg "enumerate" = none) (hl:PE X l tl) (hs:starEach [l] X.env=[(false,eval l X.env)]:=by rfl):PI X (.Tuple elts x1 tp) (.Call (.Name "enumerate" p) [l] [] pos) (JX X.K tl):=by
 intro pins s σ H R I h
 refine Call_ (cB I hg hm boot_enumerate (PyProof.Rows.callWith_type1 (spliced_more ?_ (by rw [hs];rfl)) (by rw [hs];rfl) rfl))
 refine thn (hl pins s σ H _ I h) fun v s1 ⟨x,H1,I1,r1,q1⟩=>?_
 obtain ⟨a,e,⟨xs,hq⟩,q⟩:=q1
 subst e
 cases r1
 obtain ⟨its,rv,pl,hz⟩:=I1.list hq
 refine Calls.spliced_nil (call_enumerate_list pl.isList fun h' he hit hsz k=>?_)
 have I2:Inv X pins σ H1 { s1 with heap:=h' }:=I1.kept (t':=s1.toks) k
 have T:=wO (P:=X.prog) (w:=X.w) (K:=X.K) (elts:=elts) (x1:=x1) (tp:=tp) a (s1.heap.objs.size+1) s1.heap.objs.size (Nat.succ_ne_self _)
 refine T.self X.A 0 { s1 with heap:=h' } _ X.xe ⟨⟨_,he⟩,hit⟩ ?_
 refine ⟨s1.heap.objs.size+1,[s1.heap.objs.size+1,s1.heap.objs.size],_,_,H1,rfl,I2,T,⟨⟨_,he⟩,hit⟩,fun b hb=>?_,q⟩
 have:s1.heap.objs.size≤b:=by
  rcases List.mem_cons.mp hb with rfl | hb
  ·exact Nat.le_succ _
  ·have:b=s1.heap.objs.size:=by simpa using hb
   exact Nat.le_of_eq this.symm
 exact I1.v5 this (I1.hok.fresh this)
end
theorem sG:typeLookup (.type "list_reverseiterator") "__len__" = pure none:=by rw [typeLookup_type,builtinLookup_eq_fast];kernel_rfl
theorem yW:typeLookup (.type "list_reverseiterator") "__length_hint__" = pure (some (.builtin "list_reverseiterator.__length_hint__")):=by rw [typeLookup_type,builtinLookup_eq_fast];kernel_rfl
section
variable {prog:Program} {w:World} {A:Around} {E:Value→Shared→Prop} {s:Shared}
theorem yX {I l:Addr} {i:Int} {Q:Bool→Shared→Prop} (hit:s.heap.IsRevIter I l i) (h:Q false s):wpAny (model prog w) A (Builtin.List.listLengthHint (.ref I)) Q E s:=by
 unfold Builtin.List.listLengthHint
 refine wpAny_bind (wpAny_specialOf hit.typeIs sG ?_)
 show wpAny _ A (specialOf (Value.ref I) (Str.ofString "__length_hint__") >>= _) _ _ _
 refine wpAny_bind (wpAny_specialOf hit.typeIs yW ?_)
 generalize hid:("list_reverseiterator.__length_hint__" : String)=id0
 wp_delta
 rw [show splitId id0=some ("list_reverseiterator","__length_hint__") from by subst hid;decide +kernel]
 subst hid
 refine wpAny_bind (wpAny_isInstance (T := "list_reverseiterator") (b:=true) hit.typeIs (by rw [isSubtype_type];kernel_rfl) ?_)
 refine wpAny_ite_split (fun hab=>absurd hab (by decide)) (fun _=>?_)
 refine wpAny_ite_split (fun _=>?_) (fun hab=>absurd (by decide +kernel) hab)
 refine wpAny_ite_split (fun hab=>absurd hab (by decide +kernel)) (fun _=>wpAny_pure h)
theorem sH {R:Result→Shared→Prop} {I l:Addr} {items:Array Value} (hh:A.handled=none) (hit:s.heap.IsRevIter I l ((items.size:Int)-1)) (hl:s.heap.IsList l items) (hne:l≠I) (hlen:items.size≤sizeLine)
  (S:Addr) (res:Value) (c₀:Nat) (hSI:S≠I) (hSl:S≠l) (hS:s.heap.get? S=some { cls:=.type "list",data:=.seq #[] c₀ })
  (hR:∀ h' tk acc' c',(∀ b o,b≠S→b≠I→s.heap.get? b=some o→h'.get? b=some o)→h'.get? S=some { cls:=.type "list",dict:=none,data:=.seq acc' c',slots:=#[] } →
   ItemsOf (fun i v=>items[items.size-1-i]?=some v) acc' items.size→R (.ok (.ret res)) { s with heap:=h',toks:=tk }) :
  wpAny (model prog w) A.in1 (Builtin.List.listExtendWith (.ref S) (.ref I) res)
   (fun fin s'=>match fin with | .done f=>R (.ok f) s' | .again c'=>c'.quiet=true∧codeAny (model prog w) A c' R s') (fun e s'=>R (.error e) s') s:=by
 have hSf:S∉[I,l]:=fun hm=>by
  rcases List.mem_cons.mp hm with z | z
  ·exact hSI z
  ·exact hSl (List.mem_singleton.mp z)
 have W:=(Walks.listRev (prog:=prog) (w:=w) (A:=A.in1) hh I l hne items).toS
 unfold Builtin.List.listExtendWith
 refine wpAny_bind (wpAny_typeOf (T := "list_reverseiterator") hit.typeIs ?_)
 have h1:Builtin.List.listSameRef (.ref S) (.ref I)=false:=by simp [Builtin.List.listSameRef,hSI]
 have h2:(Value.type "list_reverseiterator" == Value.type "list")=false:=by decide
 have h3:(Value.type "list_reverseiterator" == Value.type "tuple")=false:=by decide
 simp only [h1,h2,h3,Bool.or_false,Bool.false_eq_true,if_false]
 refine wpAny_bind (wpAny_pyIter_revIter hit ?_)
 refine wpAny_bind (wpAny_holding (yX hit ?_))
 refine wpAny_ite_split (fun hab=>absurd hab (by decide +kernel)) (fun _=>wpAny_pure ⟨plainId_quiet F.plain_extend_loop _,?_⟩)
 have hst:(0≤items.size)∧s.heap.IsRevIter I l ((items.size:Int)-1-((0:Nat):Int))∧s.heap.IsList l items:=⟨Nat.zero_le _,by simpa using hit,hl⟩
 refine codeAny_extend_loopS W hlen S hSf res items.size 0 _ #[] c₀ rfl (Nat.zero_le _) hst hS (ItemsOf.nil _) fun s' acc' c' hm hS' hacc=>?_
 rw [Moved.eq_with hm]
 refine hR s'.heap s'.toks acc' c' (fun b o hb hb2 e=>hm.heap b o (fun hmem=>?_) e) hS' hacc
 rcases List.mem_cons.mp hmem with e' | hmem
 ·exact hb e'
 ·exact hb2 (List.mem_singleton.mp hmem)
theorem yY {R:Result→Shared→Prop} {I l:Addr} {items:Array Value} (hh:A.handled=none) (hit:s.heap.IsRevIter I l ((items.size:Int)-1)) (hl:s.heap.IsList l items) (hne:l≠I) (hlen:items.size≤sizeLine)
  (S:Addr) (hSI:S≠I) (hSl:S≠l) (hS:s.heap.get? S=some { cls:=.type "list",data:=.seq #[] })
  (hR:∀ h' tk acc' c',(∀ b o,b≠S→b≠I→s.heap.get? b=some o→h'.get? b=some o)→h'.get? S=some { cls:=.type "list",dict:=none,data:=.seq acc' c',slots:=#[] } →
   ItemsOf (fun i v=>items[items.size-1-i]?=some v) acc' items.size→R (.ok (.ret .none)) { s with heap:=h',toks:=tk }) :
  wpAny (model prog w) A.in1 (Builtin.«list.__init__» ⟨[.ref S,.ref I],[]⟩)
   (fun fin s'=>match fin with | .done f=>R (.ok f) s' | .again c'=>c'.quiet=true∧codeAny (model prog w) A c' R s') (fun e s'=>R (.error e) s') s:=by
 show wpAny _ A.in1 (do let old ← Builtin.List.listItems (.ref S);Builtin.List.listUpdate (.ref S) (fun _=>#[]);letGo old.toList.reverse;Builtin.List.listExtendWith (.ref S) (.ref I) .none) _ _ s
 refine wpAny_bind ?_
 unfold Builtin.List.listItems
 refine wpAny_bind (wpAny_seqItems hS rfl (wpAny_pure ?_))
 show wpAny _ A.in1 (updateSeq S (fun _=>#[]) >>= fun _=>letGo (#[]:Array Value).toList.reverse >>= fun _=>Builtin.List.listExtendWith (.ref S) (.ref I) .none) _ _ s
 refine wpAny_bind (wpAny_updateSeq hS rfl ?_)
 have hS₂:=Heap.get?_update_self (Obj.mapSeq (fun _=>(#[]:Array Value))) hS rfl
 have oth:∀ b o,b≠S→s.heap.get? b=some o→(s.heap.update S (Obj.mapSeq (fun _=>(#[]:Array Value)))).get? b=some o:=
  fun b o hb e=>(Heap.get?_update_other _ _ (Ne.symm hb)).trans e
 refine wpAny_bind (wpAny_letGo ?_)
 refine sH hh (hit.at fun o e=>oth I o (Ne.symm hSI) e) (hl.at fun o e=>oth l o (Ne.symm hSl) e) hne hlen S .none _ hSI hSl hS₂ fun h' tk acc' c' hk hS' hacc=>?_
 exact hR h' tk acc' c' (fun b o hb hb2 e=>hk b o hb hb2 (oth b o hb e)) hS' hacc
theorem mK {Q:Value→Shared→Prop} {I l:Addr} {items:Array Value} (hh:A.handled=none) (hit:s.heap.IsRevIter I l ((items.size:Int)-1)) (hl:s.heap.IsList l items) (hne:l≠I) (hlen:items.size≤sizeLine)
  (hQ:∀ h' tk acc' c',(∀ b o,b≠I→s.heap.get? b=some o→h'.get? b=some o)→h'.get? s.heap.objs.size=some { cls:=.type "list",dict:=none,data:=.seq acc' c',slots:=#[] } →
   ItemsOf (fun i v=>items[items.size-1-i]?=some v) acc' items.size→Q (.ref s.heap.objs.size) { s with heap:=h',toks:=tk }) :
  wpAny (model prog w) A (call (.type "list") [.ref I]) Q E s:=by
 refine callType_codes (Q₁:=fun obj s₁=>obj=.ref s.heap.objs.size∧s₁={ s with heap:=s.heap.push { cls:=.type "list",data:=.seq #[] } }) F.called_list (F.typeCall_list_1 _) F.entry_list_init
  (code_list_new _ ⟨rfl,rfl⟩) fun obj s₁ h₁=>?_
 obtain ⟨rfl,rfl⟩:=h₁
 have hS:(s.heap.push { cls:=.type "list",data:=.seq #[] }).get? s.heap.objs.size=some { cls:=.type "list",data:=.seq #[] }:=Heap.get?_push_size _ rfl
 obtain ⟨oi,hoi,_⟩:=id hit
 obtain ⟨ol,hol,_⟩:=id hl
 refine ⟨⟨_,hS,rfl⟩,F.args_list_init_2 _ _,yY (A:=A.in1) hh (hit.at fun o e=>Heap.get?_push_of_some _ e) (hl.at fun o e=>Heap.get?_push_of_some _ e) hne hlen _ (Nat.ne_of_gt (Heap.lt_size hoi)) (Nat.ne_of_gt (Heap.lt_size hol)) hS fun h' tk acc' c' hk hS' hacc=>?_⟩
 exact ⟨rfl,hQ h' tk acc' c' (fun b o hb e=>hk b o (Nat.ne_of_lt (Heap.lt_size e)) hb (Heap.get?_push_of_some _ e)) hS' hacc⟩
end
theorem j9 {P:Nat→Value→Prop} {acc:Array Value} {ys:List V} (h:ItemsOf P acc ys.length) (k:∀ i v,P i v→i<ys.length→∃ y,ys[i]?=some y∧RelV y v):Vals ys acc.toList:=by
 have:∀ (ys:List V) (us:List Value),ys.length=us.length→(∀ (i:Nat) (u:Value),us[i]?=some u→∃ y,ys[i]?=some y∧RelV y u)→Vals ys us:=by
  intro ys
  induction ys with
  | nil=>intro us e _;cases us with
   | nil=>exact .nil
   | cons _ _=>cases e
  | cons y ys ih=>intro us e f;cases us with
   | nil=>cases e
   | cons u us=>
    obtain ⟨y',h1,h2⟩:=f 0 u rfl
    cases h1
    exact .cons h2 (ih us (by simpa using e) fun i u' hu=>by simpa using f (i+1) u' (by simpa using hu))
 refine this ys acc.toList (by have:=h.1;simp only [Array.length_toList];exact this.symm) fun i u hu=>?_
 have hu':acc[i]?=some u:=by rw [← Array.getElem?_toList];exact hu
 have hi:i<ys.length:=by
  rw [← h.1]
  exact (Array.getElem?_eq_some_iff.mp hu').1
 exact k i u (h.2 i u hu') hi
noncomputable def Gu (K:PySem.W.Frag) (tl:TE):TE:=fun σ H Q=>tl σ H fun x H1=>∃ a xs,x=.ref a∧SqL K H1 a xs∧∀ q,H1 q=none→Q (.ref q) (upd H1 q (.lst xs.reverse))
noncomputable def JY (ta:TA):TE:=fun σ H Q=>ta σ H fun vs H1=>∃ j:Int,vs=[.int j]∧-(2 ^ 62)≤j∧j≤1000000∧∀ q,H1 q=none→Q (.ref q) (upd H1 q (.lst ((List.range j.toNat).map fun i=>V.int (i:Nat))))
section
variable {X:Cx} {l a:Expr} {tl:TE} {ta:TA} {p pos p0 mL:Pos}
theorem yZ (hc:X.calm=true) (hgl:Gl X "list") (hml:X.mg "list" = none) (hg:Gl X "reversed") (hm:X.mg "reversed" = none) (hl:PE X l tl) (hs:starEach [l] X.env=[(false,eval l X.env)]:=by rfl)
  (hs0:starEach [.Call (.Name "reversed" p) [l] [] pos] X.env=[(false,eval (.Call (.Name "reversed" p) [l] [] pos) X.env)]:=by rfl) :
  PE X (.Call (.Name "list" p0) [.Call (.Name "reversed" p) [l] [] pos] [] mL) (Gu X.K tl):=by
 intro pins s σ H Q I h
 refine wpAny_Call_Name_kw (cB I hgl hml boot_list (PyProof.Rows.callWith_type1 (spliced_more ?_ (by rw [hs0];rfl)) (by rw [hs0];rfl) rfl))
 refine yV hg hm hl hs I h fun x H1 s1 I1 q1=>?_
 obtain ⟨a,xs,e,hq,q⟩:=q1
 refine ⟨a,xs,e,hq,fun its rv pl hz=>Calls.spliced_nil ?_⟩
 have hal:a<s1.heap.objs.size:=by
  obtain ⟨o,ho,_⟩:=pl.isList
  exact Heap.lt_size ho
 have hn:=rv.length
 refine mK (items:=its.toArray) (I.ok.hd hc) ⟨_,Heap.get?_push_size _ rfl,rfl,rfl⟩ (pl.isList.at fun o e=>Heap.get?_push_of_some _ e) (Nat.ne_of_lt hal) (by rw [List.size_toArray,← hn];exact hz) fun h' tk acc' c' hk hS' hacc=>?_
 have hsz:({ s1 with heap:=s1.heap.push (revObj a ((its.toArray.size:Int)-1)) }:Shared).heap.objs.size=s1.heap.objs.size+1:=Heap.size_push ..
 have hp:s1.heap.objs.size≤({ s1 with heap:=s1.heap.push (revObj a ((its.toArray.size:Int)-1)) }:Shared).heap.objs.size:=by rw [hsz];exact Nat.le_succ _
 have vl:Vals xs.reverse acc'.toList:=by
  refine j9 (by rw [List.length_reverse,hn,← List.size_toArray];exact hacc) fun i v hv hi=>?_
  rw [List.length_reverse] at hi
  rw [List.size_toArray] at hv
  have hv':its[its.length-1-i]?=some v:=by simpa using hv
  rw [List.getElem?_reverse hi,hn]
  have hlt:=(List.getElem?_eq_some_iff.mp hv').1
  have hx:xs[its.length-1-i]?=some (xs[its.length-1-i]'(by omega)):=List.getElem?_eq_getElem _
  obtain ⟨u,hu,ru⟩:=rv.get hx
  rw [hv'] at hu
  cases hu
  exact ⟨_,hx,ru⟩
 have ok:aY X.prog X.w (upd H1 ({ s1 with heap:=s1.heap.push (revObj a ((its.toArray.size:Int)-1)) }:Shared).heap.objs.size (.lst xs.reverse)) h' ({ s1 with heap:=s1.heap.push (revObj a ((its.toArray.size:Int)-1)) }:Shared).heap.objs.size (.lst xs.reverse):=⟨by rw [List.length_reverse];exact hz,acc'.toList,c',vl,by simpa using hS'⟩
 exact ⟨.ref _,_,I1.laid (t':=tk) (fun b u e=>hk b u (Nat.ne_of_lt (Heap.lt_size e)) (Heap.get?_push_of_some _ e)) hp ok,rfl,q _ (I1.hok.fresh hp)⟩
theorem Ck (hc:X.calm=true) (hgl:Gl X "list") (hml:X.mg "list" = none) (hg:Gl X "range") (hm:X.mg "range" = none) (ha:PA X [a] ta) (hs:starEach [a] X.env=[(false,eval a X.env)]:=by rfl)
  (hs0:starEach [.Call (.Name "range" p) [a] [] pos] X.env=[(false,eval (.Call (.Name "range" p) [a] [] pos) X.env)]:=by rfl) :
  PE X (.Call (.Name "list" p0) [.Call (.Name "range" p) [a] [] pos] [] mL) (JY ta):=by
 intro pins s σ H Q I h
 refine wpAny_Call_Name_kw (cB I hgl hml boot_list (PyProof.Rows.callWith_type1 (spliced_more ?_ (by rw [hs0];rfl)) (by rw [hs0];rfl) rfl))
 refine Call_ (cB I hg hm boot_range (PyProof.Rows.callWith_type1 (thn (ha pos pins s σ H _ I h) fun us s1 ⟨vs,H1,I1,r1,q1⟩=>?_) hs rfl))
 obtain ⟨j,e,q1,q2,q⟩:=q1
 subst e
 cases r1 with
 | cons r rr=>
  cases rr
  obtain ⟨t,rfl⟩:=r
  refine call_range_1 (Calls.spliced_nil ?_)
  have hn:Builtin.Range.rangeSize 0 j 1=(j.toNat:Nat):=by rw [rangeSize_one];split<;>omega
  refine call_list_range (n:=j.toNat) (I.ok.hd hc) (IsRange.new ..) (small_one (by omega) (by omega) q1 (by omega)) hn (by omega) fun h' tk acc' c' hk hS' hacc=>?_
  have hsz:(s1.heap.push { cls:=.type "range",data:=.fields #[.int 0 s1.toks,.int j t,.int 1 (s1.toks+1)] }).objs.size=s1.heap.objs.size+1:=Heap.size_push ..
  have hp:s1.heap.objs.size≤(s1.heap.push { cls:=.type "range",data:=.fields #[.int 0 s1.toks,.int j t,.int 1 (s1.toks+1)] }).objs.size:=by rw [hsz];exact Nat.le_succ _
  have vl:Vals ((List.range j.toNat).map fun i=>V.int (i:Nat)) acc'.toList:=by
   refine j9 (by rw [List.length_map,List.length_range];exact hacc) fun i v hv hi=>?_
   obtain ⟨t,rfl⟩:=hv
   rw [List.length_map,List.length_range] at hi
   refine ⟨.int (i:Nat),by rw [List.getElem?_map,List.getElem?_range hi];rfl,t,?_⟩
   have:(0:Int)+(i:Int)*1=i:=by omega
   rw [this]
  have ok:aY X.prog X.w (upd H1 (s1.heap.push { cls:=.type "range",data:=.fields #[.int 0 s1.toks,.int j t,.int 1 (s1.toks+1)] }).objs.size (.lst ((List.range j.toNat).map fun i=>V.int (i:Nat)))) h' (s1.heap.push { cls:=.type "range",data:=.fields #[.int 0 s1.toks,.int j t,.int 1 (s1.toks+1)] }).objs.size (.lst ((List.range j.toNat).map fun i=>V.int (i:Nat))):=
   ⟨by rw [List.length_map,List.length_range,sizeLine_eq];omega,acc'.toList,c',vl,by simpa using hS'⟩
  exact ⟨.ref _,_,I1.laid (t':=tk) (fun b u e=>hk b u (Heap.get?_push_of_some _ e)) hp ok,rfl,q _ (I1.hok.fresh hp)⟩
end
theorem aC.rev {H:Hp} {xs:List V} {ds:List Dm.Dat} (h:aC H xs ds):aC H xs.reverse ds.reverse:=by
 induction xs generalizing ds with
 | nil=>cases h;exact .nil
 | cons x xs ih=>
  cases h with
  | cons r rs=>rw [List.reverse_cons,List.reverse_cons];exact (ih rs).append (.cons r .nil)
theorem Gv {K:PySem.W.Frag} {H0:Hp} {a:Addr} {xs:List V} {ds:List Dm.Dat} (hq:Rd H0 a (.lst xs)) (rs:aC H0 xs ds):JW (Itv K a xs.length) H0 ds.reverse:=by
 intro H0' H s0 s1
 have q:SqL K H a xs:=.inl (ak.rd s1 (ak.rd s0 hq))
 refine ⟨fun i hi=>by rw [List.length_reverse,← rs.length] at hi;exact hi,fun i d e=>?_⟩
 obtain ⟨v,hv,rv⟩:=rs.rev.get e
 refine ⟨⟨xs,v,q,rfl,hv⟩,fun x H' y=>?_⟩
 obtain ⟨e1,y⟩:=y
 subst e1
 have z:=y xs q
 rw [hv] at z
 cases z
 exact ⟨H0',aM.refl s1,rv.mono s0⟩
theorem pW:∀ (ds:List Dm.Dat) (i:Nat),(Dm.ic i ds).length=ds.length
 | [],_=>rfl
 | _::ds,i=>by simp [Dm.ic,pW ds]
theorem pX:∀ (ds:List Dm.Dat) (i j:Nat) (d:Dm.Dat),(Dm.ic i ds)[j]?=some d→∃ x,ds[j]?=some x∧d=.tup [.int ((i+j:Nat):Int),x]
 | [],_,_,_,h=>by cases h
 | x::ds,i,0,d,h=>by cases h;exact ⟨x,rfl,rfl⟩
 | x::ds,i,j+1,d,h=>by
  obtain ⟨y,h1,h2⟩:=pX ds (i+1) j d h
  refine ⟨y,h1,?_⟩
  rw [h2]
  have:i+1+j=i+(j+1):=by omega
  rw [this]
theorem Cm {K:PySem.W.Frag} {H0:Hp} {a:Addr} {xs:List V} {ds:List Dm.Dat} (hq:Rd H0 a (.lst xs)) (rs:aC H0 xs ds):JW (Ite K a) H0 (Dm.ic 0 ds):=by
 intro H0' H s0 s1
 have q:SqL K H a xs:=.inl (ak.rd s1 (ak.rd s0 hq))
 refine ⟨fun i hi=>⟨xs,q,by rw [rs.length,← pW ds 0];exact hi⟩,fun i d e=>?_⟩
 obtain ⟨d',hd,rfl⟩:=pX ds 0 i d e
 obtain ⟨v,hv,rv⟩:=rs.get hd
 refine ⟨⟨xs,v,q,hv⟩,fun x H' y=>?_⟩
 obtain ⟨p,v',hn,rfl,rfl,y⟩:=y
 have z:=y xs q
 rw [hv] at z
 cases z
 have g:=aM.BY (o:=HO.tup [.int i,v]) s1 hn
 refine ⟨_,g,.tup az (.cons ?_ (.cons ((rv.mono s0).mono g.s0) .nil))⟩
 rw [Nat.zero_add]
 exact .int _
section
variable {σ:L2.St} {H:Hp} {R:It→Hp→Prop}
theorem Gw {K:PySem.W.Frag} {f:Dm.FE} (h:tDI (Dm.wN f) σ H R):D5 K (tD f) σ H R:=by
 obtain ⟨H0,ρ,ys,ρ',st,e,k⟩:=h
 unfold Dm.wN at e
 split at e
 ·cases e
 rename_i x ρ1 e1
 split at e
 ·rename_i ds ρ2 e2
  cases e
  refine ⟨H0,ρ,_,ρ1,st,e1,fun v H0' H' t r=>?_⟩
  obtain ⟨H1,t1,b1,r1,_,_⟩:=take1 t (ak.refl _) r e2
  cases r1 with
  | lst q rs=>exact ⟨_,_,rfl,.inl (ak.rd t1.st.same q),k _ H1 H' t1 (Gv q rs)⟩
 ·cases e
theorem JZ {K:PySem.W.Frag} {f:Dm.FE} (h:tDI (Dm.iEn f) σ H R):JX K (tD f) σ H R:=by
 obtain ⟨H0,ρ,ys,ρ',st,e,k⟩:=h
 unfold Dm.iEn at e
 split at e
 ·cases e
 rename_i x ρ1 e1
 split at e
 ·rename_i ds ρ2 e2
  cases e
  refine ⟨H0,ρ,_,ρ1,st,e1,fun v H0' H' t r=>?_⟩
  obtain ⟨H1,t1,b1,r1,_,_⟩:=take1 t (ak.refl _) r e2
  cases r1 with
  | lst q rs=>exact ⟨_,rfl,⟨_,.inl (ak.rd t1.st.same q)⟩,k _ H1 H' t1 (Cm q rs)⟩
 ·cases e
end
theorem y9 {K:PySem.W.Frag}:UnD (fun x H Q=>∃ a xs,x=.ref a∧SqL K H a xs∧∀ q,H q=none→Q (.ref q) (upd H q (.lst xs.reverse))) Dm.j8:=by
 intro H0 H x dx z Q s rx e k
 unfold Dm.j8 at e
 split at e
 ·cases e
  obtain ⟨a,us,rfl,qa,ra⟩:=bz s rx
  exact ⟨a,us,rfl,.inl qa,fun p hp=>k _ _ _ (aM.mJ s hp) ⟨p,rfl,hp,s.free hp,_,az,ra.rev⟩⟩
 ·cases e
theorem y_ {H:Hp}:∀ (n:Nat) ,aC H ((List.range n).map fun i=>V.int (i:Nat)) (Dm.ups 0 n):=by
 intro n
 unfold Dm.ups
 have:∀ l:List Nat,aC H (l.map fun i=>V.int (i:Nat)) (l.map fun i=>Dm.Dat.int (0+(i:Nat))):=fun l=>by
  induction l with
  | nil=>exact .nil
  | cons x l ih=>rw [List.map_cons,List.map_cons,Int.zero_add];exact .cons (.int _) ih
 exact this _
theorem Cn:CallD (fun xs H Q=>∃ j:Int,xs=[.int j]∧-(2 ^ 62)≤j∧j≤1000000∧∀ q,H q=none→Q (.ref q) (upd H q (.lst ((List.range j.toNat).map fun i=>V.int (i:Nat))))) Dm.m8:=by
 intro H0 H xs ds z Q s rx e k
 unfold Dm.m8 at e
 split at e
 ·rename_i j
  split at e
  ·rename_i hb
   cases e
   cases rx with
   | cons r rr=>
    cases rr
    cases au r
    exact ⟨j,rfl,by omega,hb.1,fun p hp=>k _ _ _ (aM.mJ s hp) ⟨p,rfl,hp,s.free hp,_,az,y_ _⟩⟩
  ·cases e
 ·cases e
section
variable {X:Cx} {tg e a b c:Expr} {f fa fb fc:Dm.FE} {p pos p0 mL:Pos} {elts:List Expr} {x1:Nat} {tp:Pos}
theorem J0 (hg:Gl X "reversed") (hm:X.mg "reversed" = none) (h:DE X e f) (hs:starEach [e] X.env=[(false,eval e X.env)]:=by rfl):DI X tg (.Call (.Name "reversed" p) [e] [] pos) (Dm.wN f):=PI.weak (Gs hg hm h hs) fun _ _ _=>Gw
theorem LV (hg:Gl X "enumerate") (hm:X.mg "enumerate" = none) (h:DE X e f) (hs:starEach [e] X.env=[(false,eval e X.env)]:=by rfl):DI X (.Tuple elts x1 tp) (.Call (.Name "enumerate" p) [e] [] pos) (Dm.iEn f):=PI.weak (Cj hg hm h hs) fun _ _ _=>JZ
theorem Co (hc:X.calm=true) (hgl:Gl X "list") (hml:X.mg "list" = none) (hg:Gl X "reversed") (hm:X.mg "reversed" = none) (h:DE X e f) (hs:starEach [e] X.env=[(false,eval e X.env)]:=by rfl)
  (hs0:starEach [.Call (.Name "reversed" p) [e] [] pos] X.env=[(false,eval (.Call (.Name "reversed" p) [e] [] pos) X.env)]:=by rfl) :
  DE X (.Call (.Name "list" p0) [.Call (.Name "reversed" p) [e] [] pos] [] mL) (Dm.e1 Dm.j8 f):=PE.weak (yZ hc hgl hml hg hm h hs hs0) fun _ _ _=>LD y9
theorem Gx (hc:X.calm=true) (hgl:Gl X "list") (hml:X.mg "list" = none) (hg:Gl X "range") (hm:X.mg "range" = none) (h:DA X [a] [fa]) (hs:starEach [a] X.env=[(false,eval a X.env)]:=by rfl)
  (hs0:starEach [.Call (.Name "range" p) [a] [] pos] X.env=[(false,eval (.Call (.Name "range" p) [a] [] pos) X.env)]:=by rfl) :
  DE X (.Call (.Name "list" p0) [.Call (.Name "range" p) [a] [] pos] [] mL) (Dm.eB Dm.m8 [fa]):=PE.weak (Ck hc hgl hml hg hm h hs hs0) fun _ _ _=>F3 Cn
end
end Br
namespace Dm
noncomputable def aN (i:Nat) (own:Nat) (bd:FB) (t:FT) (el:FE):FE:=fun ρ=>match ρ[i]? with
 | some (.ow (.lst ds))=>if ds.length≤SZ then (match cE bd t el ds (ρ.set i .un++List.replicate own .un) [] with
  | none=>none
  | some (ys,ρ2)=>some (.new (.lst ys),(ρ2.take ρ.length).set i (.ow (.lst ds)))) else none
 | _=>bF (iS (eV i)) own bd t el ρ
end Dm
namespace Br
open PySem PySem.Spec PyProof.Rows L2
theorem za {K:PySem.W.Frag} {H0:Hp} {a:Addr} {xs:List V} {ds:List Dm.Dat} (rs:aC H0 xs ds):JWa (Itl K a) H0 (some (a,.lst xs)) ds:=by
 intro H0' H s0 s1 hq
 have hq:=hq _ rfl
 have q:SqL K H a xs:=.inl (.inl hq)
 refine ⟨fun i hi=>⟨xs,q,by rw [rs.length];exact hi⟩,fun i d e=>?_⟩
 obtain ⟨v,hv,rv⟩:=rs.get e
 refine ⟨⟨xs,v,q,hv⟩,fun x H' y=>?_⟩
 obtain ⟨e1,y⟩:=y
 subst e1
 have z:=y xs q
 rw [hv] at z
 cases z
 exact ⟨H0',aM.refl s1,rv.mono s0⟩
theorem uJ {K:PySem.W.Frag} {σ:L2.St} {H:Hp} {i own:Nat} {bd:Dm.FB} {g:TG} {t:Dm.FT} {el:Dm.FE} {is:List Nat} {Q:VK} (hb:BD is g bd) (hl:∀ i∈is,σ.length≤i) (h:tD (Dm.aN i own bd t el) σ H Q) :
  tLC (fun σ H R=>pA K (tD (Dm.eV i)) σ H R∨xT K (tD (Dm.eV i)) σ H R) own g (tDT t) (tD el) σ H Q:=by
 obtain ⟨H0,ρ,x,ρ',st,e,k⟩:=h
 unfold Dm.aN at e
 split at e
 ·rename_i ds eo
  split at e
  case isFalse=>cases e
  rename_i hsz
  split at e
  ·cases e
  rename_i ys ρ2 e2
  cases e
  refine .inl ⟨H0,ρ,.slot i,ρ,st,by unfold Dm.eV;rw [eo],fun v H0' H' t1 r=>?_⟩
  obtain ⟨a,qa,na,xs,ha,rs⟩:=t1.st.ow i _ eo
  obtain ⟨r1,_⟩:=r
  rw [qa] at r1
  cases r1
  have nO:¬ aj σ (ρ.set i .un) a:=fun z=>by
   obtain ⟨j,d,hj,h1,h2⟩:=bZ z
   exact hj (t1.st.dis j i d _ a h1 eo h2 qa)
  have hlt:i<ρ.length:=(List.getElem?_eq_some_iff.mp eo).1
  refine ⟨a,rfl,⟨xs,.inl (.inl ha)⟩,fun D hD=>pQ hb hl (t1.st.mask i) (fun q e=>by cases e;exact ⟨ha,na,nO⟩) (za rs) hsz e2 (fun v H1 Hc t2 r2 hpa=>?_) D hD⟩
  obtain ⟨ha2,na2⟩:=hpa _ rfl
  rw [List.length_set] at t2 r2
  have oo:∀ b,aj σ ((ρ2.take ρ.length).set i (.ow (.lst ds))) b→b=a∨aj σ (ρ2.take ρ.length) b:=fun b ⟨j,d,h1,h2⟩=>by
   by_cases q:i=j
   ·subst q;rw [qa] at h2;cases h2;exact .inl rfl
   ·rw [List.getElem?_set_ne q] at h1;exact .inr ⟨j,d,h1,h2⟩
  have om:∀ b,aj σ (ρ.set i .un) b→aj σ ρ b:=fun b z=>by
   obtain ⟨j,d,hj,h1,h2⟩:=bZ z
   exact ⟨j,d,h1,h2⟩
  have oa:aj σ ρ a:=⟨i,_,eo,qa⟩
  have nO2:¬ aj σ (ρ2.take ρ.length) a:=fun z=>nO (t2.own a z)
  have zb:(ρ2.take ρ.length).length=ρ.length:=by rw [← t2.st.len,st.len]
  refine k v H1 Hc (t1.trans ⟨⟨t2.st.same,by rw [List.length_set];exact t2.st.len,fun j d h=>?_,fun j d h=>?_,fun j j' d d' b h1 h2 h3 h4=>?_⟩,t2.stp.wide om,fun b z=>?_,fun j z=>?_⟩) ?_
  ·by_cases q:i=j
   ·subst q;rw [List.getElem?_set_self (by rw [zb];exact hlt)] at h;cases h
   ·rw [List.getElem?_set_ne q] at h;exact t2.st.sh j d h
  ·by_cases q:i=j
   ·subst q
    rw [List.getElem?_set_self (by rw [zb];exact hlt)] at h
    cases h
    exact ⟨a,qa,na2,xs,ha2,rs.mono t2.stp.s0⟩
   ·rw [List.getElem?_set_ne q] at h;exact t2.st.ow j d h
  ·by_cases q:i=j
   ·subst q
    by_cases q':i=j'
    ·exact q'
    ·rw [List.getElem?_set_ne q'] at h2
     rw [qa] at h3;cases h3
     exact absurd ⟨j',d',h2,h4⟩ nO2
   ·rw [List.getElem?_set_ne q] at h1
    by_cases q':i=j'
    ·subst q'
     rw [qa] at h4;cases h4
     exact absurd ⟨j,d,h1,h3⟩ nO2
    ·rw [List.getElem?_set_ne q'] at h2
     exact t2.st.dis j j' d d' b h1 h2 h3 h4
  ·rcases oo b z with rfl | z
   ·exact oa
   ·exact om b (t2.own b z)
  ·trivial
  ·obtain ⟨D',e',n',no',n0',w'⟩:=r2
   refine ⟨D',e',t1.stp.gone n',fun z=>?_,n0',w'⟩
   rcases oo D' z with rfl | z
   ·rw [n'] at ha;cases ha
   ·exact no' z
 ·have h2:=sy (fi:=Dm.iS (Dm.eV i)) hb hl ⟨H0,ρ,x,ρ',st,e,k⟩
  exact JV h2
section
variable {X:Cx} {elt tg:Expr} {ifs:List Expr} {scope:Scope} {pos px:Pos} {bd:Dm.FB} {is:List Nat} {t:Dm.FT} {f:Dm.FE} {x:Str}
theorem i_M (i:Nat) (h:DE X (.Name x px) (Dm.eV i)):PI X tg (.Name x px) (fun σ H R=>pA X.K (tD (Dm.eV i)) σ H R∨xT X.K (tD (Dm.eV i)) σ H R):=PI.or (uu h) (xU h)
theorem cO (i:Nat) (nm own:List Str) (hg:TGc X nm scope own tg is bd) (hi:DE X (.Name x px) (Dm.eV i)) (ht:∀ cl C s H fp,DTs (aU X nm scope own cl C s H fp) ifs t) (he:∀ cl C s H fp,DE (aU X nm scope own cl C s H fp) elt f)
  (hc:X.calm=true:=by rfl) (hk:scope.kind=.function:=by rfl) (hS:j7 X.env.scope X.N nm scope=true:=by rfl) (hl:(is.all fun i=>decide (X.N.length≤i))=true:=by rfl) (hs:∀ y,foldedSetIterable (.Name x px) X.env y=pure y:=by intro _;rfl) :
  DE X (.ListComp elt [⟨tg,.Name x px,ifs,0⟩] scope pos) (Dm.aN i own.length bd t f):=by
 obtain ⟨g,h1,h2⟩:=hg.ex
 intro pins s σ H Q I h
 exact uG hc (cj.of hS hk) (i_M i hi) h1 ht he hs pins s σ H Q I (uJ h2 (fun i hi=>by rw [I.len];exact pV hl i hi) h)
theorem uK (j i:Nat) (nm own:List Str) {y:Str} {py spos:Pos} (hN:X.N.Nodup) (hg:TGc X nm scope own tg is bd) (hi:DE X (.Name x px) (Dm.eV i)) (ht:∀ cl C s H fp,DTs (aU X nm scope own cl C s H fp) ifs t) (he:∀ cl C s H fp,DE (aU X nm scope own cl C s H fp) elt f)
  (hc:X.calm=true:=by rfl) (hk:scope.kind=.function:=by rfl) (hS:j7 X.env.scope X.N nm scope=true:=by rfl) (hl:(is.all fun i=>decide (X.N.length≤i))=true:=by rfl) (hj:X.N[j]?=some y:=by rfl) (hy:Loc X.env.scope y:=by first | exact Or.inl rfl | exact Or.inr rfl)
  (hsw:swapsWith (.ListComp elt [⟨tg,.Name x px,ifs,0⟩] scope pos) (some (.Name y py)) spos.line X.env=pure true:=by rfl) (hs:∀ y,foldedSetIterable (.Name x px) X.env y=pure y:=by intro _;rfl)
  (hf:X.fn y=true∨X.env.scope.names.lookup y=some .local:=by first | exact .inl rfl | exact .inr rfl | assumption):DS X (.Assign [.Name y py] (.ListComp elt [⟨tg,.Name x px,ifs,0⟩] scope pos) spos) (Dm.sA j (Dm.aN i own.length bd t f)):=by
 obtain ⟨g,h1,h2⟩:=hg.ex
 intro pins s σ H D I h
 exact ez hN hj hy hc (cj.of hS hk) (i_M i hi) h1 ht he hsw hs hf pins s σ H D I (uJ h2 (fun i hi=>by rw [I.len];exact pV hl i hi) (yw h))
end
end Br
namespace Dm
noncomputable def fu:List Dat→List Dat→List Dat
 | x::xs,y::ys=>.tup [x,y]::fu xs ys
 | _,_=>[]
noncomputable def Cp (a b:FE):FI:=fun ρ=>match eAs [a,b] ρ with
 | some (vs,ρ1)=>(match tks ρ1 vs with
  | some ([.lst xs,.lst ys],ρ2)=>some (fu xs ys,ρ2)
  | _=>none)
 | none=>none
noncomputable def wQ:Dat→Dat→Option RV
 | .int i,.int j=>if 0≤j∧j≤100∧0≤i∧i≤1000000 then vI (i*2 ^ j.toNat) else none
 | _,_=>none
end Dm
namespace Br
open PySem PySem.Spec PyProof.Rows L2
theorem sI {X:Cx} {pins:List (Addr×Obj)} {σ:L2.St} {H:Hp} {s:Shared} {h':Heap} {t':Nat} {fp:List Addr} (I:Inv X pins σ H s) (hf:∀ b∈fp,mE X pins H b)
  (k:∀ b u,b∉fp→s.heap.get? b=some u→h'.get? b=some u):Inv X pins σ H { s with heap:=h',toks:=t' }:=by
 have nf:∀ b u,H b=some u→b∉fp:=fun b u e z=>by rw [(hf b z).1] at e;cases e
 have nL:X.env.locals∉fp:=fun z=>(hf _ z).2.1 rfl
 refine I.step (g':=s.gens) (d':=s.drawn) (ch:=fp) (fun b hb=>?_) (fun b u _ _ hc e _=>k b u hc e) (fun b u _ _ hc e _=>⟨u.slots,k b u hc e⟩)
  (fun b u _ e n=>n) (fun b u hc e=>⟨u,k b u hc e⟩)
  (fun b xs q=>q) (fun b u xs q=>q) (fun b ps q=>⟨#[],by rw [q];simp⟩) (fun m hm=>?_) (fun b u e=>?_) I.bare
 ·obtain ⟨f0,f1,f2,f3,f4,f5⟩:=hf b hb
  exact ⟨f3,f1,f4,f5⟩
 ·obtain ⟨o,es,ep,ho,r⟩:=hm
  exact ⟨o,es,ep,k _ o nL ho,r⟩
 ·refine (I.hok b u e).stay (fun c v hc q=>k c v ?_ q) (fun c q=>q) fun c xs q=>q
  rcases hc with z | z
  ·rw [z];exact nf b u e
  ·exact nf c _ z
noncomputable def Itz (K:PySem.W.Frag) (a b:Addr):It:=
 ⟨fun i H=>∃ xs ys x y,SqL K H a xs∧SqL K H b ys∧xs[i]?=some x∧ys[i]?=some y,
  fun i H r H'=>∃ p x y,H p=none∧r=.ref p∧H'=upd H p (.tup [x,y])∧(∀ xs,SqL K H a xs→xs[i]?=some x)∧∀ ys,SqL K H b ys→ys[i]?=some y,
  fun i H=>∃ xs ys,SqL K H a xs∧SqL K H b ys∧(xs.length≤i∨ys.length≤i)⟩
theorem eL {h:Heap} {a b:Addr} {o o':Obj} (ha:h.get? a=some o) (hb:h.get? b=some o') (n:o.cls≠o'.cls):a≠b:=fun z=>by
 subst z
 rw [ha] at hb
 cases hb
 exact n rfl
structure nZ (z TI TO i1 i2:Addr):Prop where
 TIz:TI≠z
 TOz:TO≠z
 i1z:i1≠z
 i2z:i2≠z
 TITO:TI≠TO
 TIi1:TI≠i1
 TIi2:TI≠i2
 TOi1:TO≠i1
 TOi2:TO≠i2
 i12:i1≠i2
noncomputable def zc (a b z TI TO i1 i2:Addr) (i:Nat) (h:Heap):Prop:=IsZip h z TI TO .none∧IsPair h TI (.ref i1) (.ref i2)∧(∃ x y,IsPair h TO x y)∧h.IsListIter i1 a i∧h.IsListIter i2 b i
theorem pY {h:Heap} {a b z TI TO i1 i2:Addr} {i:Nat} {xs ys:Array Value} (F:nZ z TI TO i1 i2) (st:zc a b z TI TO i1 i2 i h) (ha:h.IsList a xs) (hb:h.IsList b ys):ZipApart z TI TO i1 i2 a b:=by
 obtain ⟨s1,s2,⟨x,y,s3⟩,s4,s5⟩:=st
 obtain ⟨o4,e4,c4,_⟩:=s4
 obtain ⟨o5,e5,c5,_⟩:=s5
 obtain ⟨oa,ea,ca,_⟩:=ha
 obtain ⟨ob,eb,cb,_⟩:=hb
 have d:∀ {n m:String},n≠m→(Value.type n)≠(Value.type m):=fun q z=>q (by injection z)
 exact ⟨F.TIz,F.TOz,F.i1z,F.i2z,F.TITO,F.TIi1,F.TIi2,F.TOi1,F.TOi2,F.i12,
  eL ea s1 (by rw [ca];exact d (by decide)),eL ea s3 (by rw [ca];exact d (by decide)),eL ea e4 (by rw [ca,c4];exact d (by decide)),eL ea e5 (by rw [ca,c5];exact d (by decide)),
  eL eb s1 (by rw [cb];exact d (by decide)),eL eb s3 (by rw [cb];exact d (by decide)),eL eb e4 (by rw [cb,c4];exact d (by decide)),eL eb e5 (by rw [cb,c5];exact d (by decide))⟩
theorem zd {P:Program} {w:World} {K:PySem.W.Frag} {elts:List Expr} {x1} {tp:Pos} (a b z TI TO i1 i2:Addr) (F:nZ z TI TO i1 i2):Turn P w K (.Tuple elts x1 tp) (Itz K a b) [z,TI,TO,i1,i2] z (zc a b z TI TO i1 i2) where
 mem:=by simp
 obj:=fun i h st c hc=>by
  obtain ⟨s1,s2,⟨x,y,s3⟩,⟨o4,e4,c4,d4⟩,⟨o5,e5,c5,d5⟩⟩:=st
  simp only [List.mem_cons,List.not_mem_nil,or_false] at hc
  rcases hc with rfl | rfl | rfl | rfl | rfl
  ·exact ⟨_,s1,fun v q=>by have q':Data.fields _=Data.cell v:=q;cases q'⟩
  ·exact ⟨_,s2,fun v q=>by have q':Data.seq _ _=Data.cell v:=q;cases q'⟩
  ·exact ⟨_,s3,fun v q=>by have q':Data.seq _ _=Data.cell v:=q;cases q'⟩
  ·exact ⟨o4,e4,fun v q=>by rw [d4] at q;cases q⟩
  ·exact ⟨o5,e5,fun v q=>by rw [d5] at q;cases q⟩
 keep:=fun i h h' st k=>by
  obtain ⟨s1,s2,⟨x,y,s3⟩,s4,s5⟩:=st
  exact ⟨k z (by simp) _ s1,k TI (by simp) _ s2,⟨x,y,k TO (by simp) _ s3⟩,s4.at fun o q=>k i1 (by simp) o q,s5.at fun o q=>k i2 (by simp) o q⟩
 item:=by
  intro X hP hw hK hc i pins s σ H E I hf st hg
  subst hP hw hK
  obtain ⟨xs,ys,x,y,hq,hq',hx,hy⟩:=hg
  obtain ⟨its,rv,p,hz⟩:=I.list hq
  obtain ⟨its',rv',p',hz'⟩:=I.list hq'
  obtain ⟨u,hu,ru⟩:=rv.get hx
  obtain ⟨u',hu',ru'⟩:=rv'.get hy
  have D:=pY F st p.isList p'.isList
  obtain ⟨s1,s2,⟨o1,o2,s3⟩,s4,s5⟩:=st
  have lt:∀ {c o},s.heap.get? c=some o→c<s.heap.objs.size:=fun q=>Heap.lt_size q
  have l1:=lt s1
  have l2:=lt s2
  have l3:=lt s3
  have l4:i1<s.heap.objs.size:=by obtain ⟨_,q,_⟩:=s4;exact lt q
  have l5:i2<s.heap.objs.size:=by obtain ⟨_,q,_⟩:=s5;exact lt q
  refine wpAny_pyNext_zip_item D s1 s2 s3 s4 s5 p.isList p'.isList (x:=u) (y:=u') (by simpa using hu) (by simpa using hu') fun h1 a1 a2 a3 a4 a5 a6 hk=>?_
  refine ⟨_,rfl,wpAny_letOwnedTupleGo_zip a1 fun h2 z2 hs2=>?_⟩
  have ht2:h2.get? s.heap.objs.size=some { cls:=.type "tuple",data:=.seq #[u,u'] }:=(hs2.2 _ (Nat.ne_of_gt l1)).trans a5
  have k2:∀ c o,c∉[z,TI,TO,i1,i2]→s.heap.get? c=some o→h2.get? c=some o:=fun c o hc q=>by
   simp only [List.mem_cons,List.not_mem_nil,or_false,not_or] at hc
   exact (hs2.2 c hc.1).trans (hk c o hc.1 hc.2.2.1 hc.2.2.2.1 hc.2.2.2.2 q)
  have hn:H s.heap.objs.size=none:=I.hok.fresh (Nat.le_refl _)
  have I2:Inv X pins σ (upd H s.heap.objs.size (.tup [x,y])) { s with heap:=h2,toks:=s.toks }:=
   m9 I hf k2 (Nat.le_refl _) ⟨by simp [sizeLine],[u,u'],.cons ru (.cons ru' .nil),_,ht2,rfl,_,rfl⟩
  refine ⟨.ref s.heap.objs.size,_,I2,rfl,⟨_,x,y,hn,rfl,rfl,fun vs hv=>by rw [I.dY hv hq];exact hx,fun vs hv=>by rw [I.dY hv hq'];exact hy⟩,⟨z2,?_,⟨_,_,hs2.extBut _ _ D.TOz a2⟩,?_,?_⟩,fun c hc=>?_⟩
  ·exact hs2.extBut _ _ D.TIz (hk TI _ D.TIz D.TITO D.TIi1 D.TIi2 s2)
  ·exact a3.extBut hs2.extBut D.i1z
  ·exact a4.extBut hs2.extBut D.i2z
  ·have hc1:c≠s.heap.objs.size:=fun q=>by
    simp only [List.mem_cons,List.not_mem_nil,or_false] at hc
    rcases hc with r | r | r | r | r
    ·subst r;rw [q] at l1;exact Nat.lt_irrefl _ l1
    ·subst r;rw [q] at l2;exact Nat.lt_irrefl _ l2
    ·subst r;rw [q] at l3;exact Nat.lt_irrefl _ l3
    ·subst r;rw [q] at l4;exact Nat.lt_irrefl _ l4
    ·subst r;rw [q] at l5;exact Nat.lt_irrefl _ l5
   rw [av hc1]
   exact (hf c hc).1
 done:=by
  intro X hP hw hK hc i pins s σ H E I hf st hg
  subst hP hw hK
  obtain ⟨xs,ys,hq,hq',hx⟩:=hg
  obtain ⟨its,rv,p,hz⟩:=I.list hq
  obtain ⟨its',rv',p',hz'⟩:=I.list hq'
  have hl:=rv.length
  have hl':=rv'.length
  have D:=pY F st p.isList p'.isList
  obtain ⟨s1,s2,⟨o1,o2,s3⟩,s4,s5⟩:=st
  refine wpAny_pyNext_zip_end (I.ok.hd hc) D s1 s2 s3 s4 s5 p.isList p'.isList ?_ fun h' hk=>⟨rfl,sI (t':=s.toks) I hf fun c o hc q=>?_⟩
  ·rcases hx with hx | hx
   ·exact .inl (by simp;omega)
   ·exact .inr (by simp;omega)
  ·simp only [List.mem_cons,List.not_mem_nil,or_false,not_or] at hc
   exact hk c o hc.1 hc.2.2.1 hc.2.2.2.1 hc.2.2.2.2 q
 self:=fun A i s Q E st h=>wpAny_pyIter_zip st.1 h
noncomputable def D6 (K:PySem.W.Frag) (ta:TA):TI:=fun σ H R=>ta σ H fun vs H1=>∃ a b,vs=[.ref a,.ref b]∧(∃ xs,SqL K H1 a xs)∧(∃ ys,SqL K H1 b ys)∧R (Itz K a b) H1
section
variable {X:Cx} {l l':Expr} {ta:TA} {p pos:Pos} {elts:List Expr} {x1:Nat} {tp:Pos}
theorem Gy (hg:Gl X "zip") (hm:X.mg "zip" = none) (ha:PA X [l,l'] ta) (hs:starEach [l,l'] X.env=(false,eval l X.env)::starEach [l'] X.env:=by rfl) (hs2:(backTo pos (starEach [l'] X.env)).any (·.1)=false:=by rfl) :
  PI X (.Tuple elts x1 tp) (.Call (.Name "zip" p) [l,l'] [] pos) (D6 X.K ta):=by
 intro pins s σ H R I h
 refine Call_ (cB I hg hm boot_zip (PyProof.Rows.callWith_type1 (thn (ha pos pins s σ H _ I h) fun us s1 ⟨vs,H1,I1,r1,q1⟩=>?_) hs hs2))
 obtain ⟨a,b,e,⟨xs,hq⟩,⟨ys,hq'⟩,q⟩:=q1
 subst e
 obtain ⟨v1,v2,rfl,r,r'⟩:=vals2 r1
 cases r
 cases r'
 obtain ⟨its,rv,pl,hz⟩:=I1.list hq
 obtain ⟨its',rv',pl',hz'⟩:=I1.list hq'
 refine call_zip_2 pl.isList pl'.isList fun h' e1 e2 e3 e4 e5 hsz k=>?_
 have I2:Inv X pins σ H1 { s1 with heap:=h' }:=I1.kept (t':=s1.toks) k
 have F:nZ (s1.heap.objs.size+4) (s1.heap.objs.size+2) (s1.heap.objs.size+3) s1.heap.objs.size (s1.heap.objs.size+1):=by
  constructor<;>first | exact Nat.ne_of_lt (by omega) | exact Nat.ne_of_gt (by omega)
 have T:=zd (P:=X.prog) (w:=X.w) (K:=X.K) (elts:=elts) (x1:=x1) (tp:=tp) a b _ _ _ _ _ F
 have st:zc a b (s1.heap.objs.size+4) (s1.heap.objs.size+2) (s1.heap.objs.size+3) s1.heap.objs.size (s1.heap.objs.size+1) 0 h':=⟨e1,e2,⟨_,_,e3⟩,e4,e5⟩
 refine T.self X.A 0 { s1 with heap:=h' } _ X.xe st ?_
 refine ⟨s1.heap.objs.size+4,_,_,_,H1,rfl,I2,T,st,fun c hc=>?_,q⟩
 have:s1.heap.objs.size≤c:=by
  simp only [List.mem_cons,List.not_mem_nil,or_false] at hc
  rcases hc with r | r | r | r | r<;>(rw [r];first | exact Nat.le_add_right _ _ | exact Nat.le_refl _)
 exact I1.v5 this (I1.hok.fresh this)
end
theorem uL:∀ (xs ys:List Dm.Dat),(Dm.fu xs ys).length=min xs.length ys.length
 | [],_=>by simp [Dm.fu]
 | _::_,[]=>by simp [Dm.fu]
 | x::xs,y::ys=>by simp [Dm.fu,uL xs ys]
theorem zip_get:∀ (xs ys:List Dm.Dat) (j:Nat) (d:Dm.Dat),(Dm.fu xs ys)[j]?=some d→∃ x y,xs[j]?=some x∧ys[j]?=some y∧d=.tup [x,y]
 | [],_,_,_,h=>by simp [Dm.fu] at h
 | _::_,[],_,_,h=>by simp [Dm.fu] at h
 | x::xs,y::ys,0,d,h=>by cases h;exact ⟨x,y,rfl,rfl,rfl⟩
 | x::xs,y::ys,j+1,d,h=>zip_get xs ys j d h
theorem Gz {K:PySem.W.Frag} {H0:Hp} {a b:Addr} {xs ys:List V} {ds es:List Dm.Dat} (hq:Rd H0 a (.lst xs)) (rs:aC H0 xs ds) (hq':Rd H0 b (.lst ys)) (rs':aC H0 ys es):JW (Itz K a b) H0 (Dm.fu ds es):=by
 intro H0' H s0 s1
 have q:SqL K H a xs:=.inl (ak.rd s1 (ak.rd s0 hq))
 have q':SqL K H b ys:=.inl (ak.rd s1 (ak.rd s0 hq'))
 refine ⟨fun i hi=>⟨xs,ys,q,q',?_⟩,fun i d e=>?_⟩
 ·rw [uL] at hi
  have:=rs.length
  have:=rs'.length
  omega
 obtain ⟨x,y,hx,hy,rfl⟩:=zip_get ds es i d e
 obtain ⟨v,hv,rv⟩:=rs.get hx
 obtain ⟨v',hv',rv'⟩:=rs'.get hy
 refine ⟨⟨xs,ys,v,v',q,q',hv,hv'⟩,fun r H' z=>?_⟩
 obtain ⟨p,u,u',hn,rfl,rfl,z1,z2⟩:=z
 have w1:=z1 xs q
 have w2:=z2 ys q'
 rw [hv] at w1
 rw [hv'] at w2
 cases w1
 cases w2
 have g:=aM.BY (o:=HO.tup [v,v']) s1 hn
 exact ⟨_,g,.tup az (.cons ((rv.mono s0).mono g.s0) (.cons ((rv'.mono s0).mono g.s0) .nil))⟩
section
variable {σ:L2.St} {H:Hp} {R:It→Hp→Prop}
theorem GA {K:PySem.W.Frag} {f g:Dm.FE} (h:tDI (Dm.Cp f g) σ H R):D6 K (tDA [f,g]) σ H R:=by
 obtain ⟨H0,ρ,ys,ρ',st,e,k⟩:=h
 unfold Dm.Cp at e
 split at e
 ·rename_i vs ρ1 e1
  split at e
  ·rename_i xs zs ρ2 e2
   cases e
   refine ⟨H0,ρ,vs,ρ1,st,e1,fun us H0' H' t r=>?_⟩
   obtain ⟨H1,t1,b1,r1⟩:=takes t (ak.refl _) r e2
   cases r1 with
   | cons q1 rr=>
    cases rr with
    | cons q2 rr=>
     cases rr
     cases q1 with
     | lst q rs=>
      cases q2 with
      | lst q' rs'=>exact ⟨_,_,rfl,⟨_,.inl (ak.rd t1.st.same q)⟩,⟨_,.inl (ak.rd t1.st.same q')⟩,k _ H1 H' t1 (Gz q rs q' rs')⟩
  ·cases e
 ·cases e
end
theorem GB:OpD (rI BI fun i j=>.int (i*2 ^ j.toNat)) Dm.wQ:=by
 intro H0 H x y dx dy z Q s rx ry e k
 unfold Dm.wQ at e
 split at e
 ·split at e
  ·rename_i hb
   cases e;cases au rx;cases au ry
   exact ⟨_,_,rfl,rfl,⟨by omega,by omega,by omega⟩,k _ H0 H (aM.refl s) (.int _)⟩
  ·cases e
 ·cases e
section
variable {X:Cx} {a b:Expr} {fa fb:Dm.FE} {p pos:Pos} {elts:List Expr} {x1:Nat} {tp:Pos}
theorem J1 (hg:Gl X "zip") (hm:X.mg "zip" = none) (ha:DA X [a,b] [fa,fb]) (hs:starEach [a,b] X.env=(false,eval a X.env)::starEach [b] X.env:=by rfl) (hs2:(backTo pos (starEach [b] X.env)).any (·.1)=false:=by rfl) :
  DI X (.Tuple elts x1 tp) (.Call (.Name "zip" p) [a,b] [] pos) (Dm.Cp fa fb):=PI.weak (Gy hg hm ha hs hs2) fun _ _ _=>GA
theorem J2 (ha:DE X a fa) (hb:DE X b fb):DE X (.BinOp a .LShift b pos) (Dm.e2 Dm.wQ fa fb):=nW Fy GB ha hb
end
end Br
namespace Dm
noncomputable def fnM (n m:Nat) (body:FS) (ds:List Dat):Option (RV×Dat):=if ds.length=n then (match ds with
 | d::r=>(match body (Cell.ow d::(r.map Cell.sh++List.replicate m .un)) with
  | some (.ret z ρ')=>(match ρ'[0]? with
   | some (Cell.ow d')=>some (z,d')
   | _=>none)
  | some (.nx ρ')=>(match ρ'[0]? with
   | some (Cell.ow d')=>some (.val .non,d')
   | _=>none)
  | _=>none)
 | []=>none) else none
noncomputable def flat:Dat→Bool
 | .tup xs=>xs.all fun x=>!cD x
 | d=>!cD d
noncomputable def sJ:Dat→Bool
 | .lst xs=>xs.all fun x=>!cD x
 | _=>false
noncomputable def eFm (f:List Dat→Option (RV×Dat)) (j:Nat) (as:List FE):FE:=fun ρ=>match ρ[j]? with
 | some (.ow _)=>(match eAs as ρ with
  | none=>none
  | some (xs,ρ1)=>(match ρ1[j]? with
   | some (.ow d1)=>(match tks ρ1 xs with
    | none=>none
    | some (ds,ρ2)=>(match ρ2[j]? with
     | some (.ow d)=>(match f (d::ds) with
      | none=>none
      | some (v,d')=>if flat v.dat&&sJ d' then some (v.bq,ρ1.set j (.ow d')) else some (v.bq,ρ2.set j (.ow d')))
     | _=>none))
   | _=>none))
 | _=>none
end Dm
namespace Br
open PySem PySem.Spec PyProof.Rows L2
noncomputable def spM (f:List Dm.Dat→Option (Dm.RV×Dm.Dat)):Sp:=fun vs H Q _=>∃ H0 a us d ds z d',vs=V.ref a::us∧ak H0 H∧H0 a=none∧Own H0 H a d∧aC H0 us ds∧f (d::ds)=some (z,d') ∧
 ∀ v H0' H',Stp (fun b=>b=a) H0 H H0' H'→ak H0' H'→H0' a=none→Own H0' H' a d'→pN H H0' H' v z→Q v H'
theorem jK {n m:Nat} {body:Dm.FS} {vs:List V} {H:Hp} {Q:VK} {E:XK} (h:spM (Dm.fnM n m body) vs H Q E):vs.length=n:=by
 obtain ⟨H0,a,us,d,ds,z,d',e,_,_,_,rs,ef,_⟩:=h
 unfold Dm.fnM at ef
 split at ef
 ·rename_i hl
  rw [e,List.length_cons,rs.length]
  simpa using hl
 ·cases ef
theorem aA.iV {H0 H:Hp} {σ:L2.St} {ρ:Dm.Env} {j:Nat} {a:Addr} {d:Dm.Dat} (st:aA H0 H σ ρ) (q:σ[j]?=some (some (V.ref a))) (no:¬ aj σ ρ a) (n0:H0 a=none) (w:Own H0 H a d):aA H0 H σ (ρ.set j (.ow d)):=by
 have:=st.yu (i:=j) no n0 w
 have e:σ.set j (some (V.ref a))=σ:=by
  apply List.ext_getElem?
  intro i
  by_cases h:j=i
  ·subst h
   have hl:j<σ.length:=(List.getElem?_eq_some_iff.mp q).1
   rw [List.getElem?_set_self hl,q]
  ·rw [List.getElem?_set_ne h]
 rw [e] at this
 exact this
theorem aA.off {H0 H H0' H':Hp} {σ:L2.St} {ρ:Dm.Env} {a:Addr} (st:aA H0 H σ ρ) (s0:ak H0 H0') (ss:ak H0' H') (no:¬ aj σ ρ a) (s1:∀ b o,H b=some o→b≠a→H' b=some o) (s2:∀ (i:Nat) (d:Dm.Dat) (b:Addr),ρ[i]?=some (Dm.Cell.ow d)→σ[i]?=some (some (V.ref b))→H0' b=none):aA H0' H' σ ρ where
 same:=ss
 len:=st.len
 sh:=fun i d e=>by
  obtain ⟨v,q,r⟩:=st.sh i d e
  exact ⟨v,q,r.mono s0⟩
 ow:=fun i d e=>by
  obtain ⟨b,q,n,w⟩:=st.ow i d e
  obtain ⟨o,z⟩:=w.some
  have nb:b≠a:=fun y=>no ⟨i,d,e,y▸q⟩
  exact ⟨b,q,s2 i d b e q,w.mono s0 ((s1 b o z nb).trans z.symm)⟩
 dis:=st.dis
theorem dB {H0 H1:Hp}:∀ {xs:List V} {ds:List Dm.Dat},aC H0 xs ds→(ds.all fun x=>!Dm.cD x)=true→aC H1 xs ds
 | _,_,.nil,_=>.nil
 | _,_,.cons r rs,h=>by
  rw [List.all_cons,Bool.and_eq_true] at h
  exact .cons (Rep.plain r (by simpa using h.1)) (dB rs h.2)
section
variable {σ:L2.St} {H:Hp} {Q:VK}
theorem Cq {f:List Dm.Dat→Option (Dm.RV×Dm.Dat)} {j:Nat} {fs:List Dm.FE} {E:XK} (h:tD (Dm.eFm f j fs) σ H Q):jT (spM f) [] E (tDA (Dm.eV j::fs)) σ H Q:=by
 obtain ⟨H0,ρ,x,ρ',st,e,k⟩:=h
 unfold Dm.eFm at e
 split at e
 case h_2=>cases e
 rename_i d0 h0
 split at e
 ·cases e
 rename_i xs ρ1 e1
 split at e
 case h_2=>cases e
 rename_i d1 h1
 split at e
 ·cases e
 rename_i ds ρ2 e2
 split at e
 case h_2=>cases e
 rename_i d h2
 split at e
 ·cases e
 rename_i z d' fz
 have ea:Dm.eAs (Dm.eV j::fs) ρ=some (.slot j::xs,ρ1):=by
  unfold Dm.eAs
  rw [show Dm.eV j ρ=some (.slot j,ρ) from by unfold Dm.eV;rw [h0]]
  dsimp only
  rw [e1]
 refine ⟨H0,ρ,.slot j::xs,ρ1,st,ea,fun vs H1 Hb t1 r1=>?_⟩
 dsimp only
 rw [List.append_nil]
 cases r1 with
 | cons r0 rr=>
  obtain ⟨H2,t2,b2,r2⟩:=takes t1 (ak.refl _) rr e2
  obtain ⟨a,qa,na,wa⟩:=t2.st.ow j d h2
  obtain ⟨q0,_⟩:=r0
  rw [qa] at q0
  cases q0
  obtain ⟨a1,qa1,na1,wa1⟩:=t1.st.ow j d1 h1
  rw [qa] at qa1
  cases qa1
  obtain ⟨oa,ha⟩:=wa.some
  have hl2:j<ρ2.length:=(List.getElem?_eq_some_iff.mp h2).1
  have hl1:j<ρ1.length:=(List.getElem?_eq_some_iff.mp h1).1
  have oa0:aj σ ρ a:=t1.own a ⟨j,d1,h1,qa⟩
  refine ⟨H2,a,_,d,ds,z,d',rfl,t2.st.same,na,wa,r2,fz,fun v H3 Hd s3 ss n3 w3 r3=>?_⟩
  have no2:¬ aj σ (ρ2.set j .un) a:=fun y=>by
   obtain ⟨i,d4,hi,y1,y2⟩:=bZ y
   exact hi (t2.st.dis i j d4 d a y1 h2 y2 qa)
  have no1:¬ aj σ (ρ1.set j .un) a:=fun y=>by
   obtain ⟨i,d4,hi,y1,y2⟩:=bZ y
   exact hi (t1.st.dis i j d4 d1 a y1 h1 y2 qa)
  split at e
  ·rename_i fl
   cases e
   rw [Bool.and_eq_true] at fl
   obtain ⟨f1,f2⟩:=fl
   have wp:∀ H',Own H' Hd a d':=fun H'=>by
    cases d' with
    | lst ys=>
     obtain ⟨us,y1,y2⟩:=w3
     exact ⟨us,y1,dB y2 f2⟩
    | _=>cases f2
   have fin:∀ H1':Hp,ak H1 H1'→ak H1' Hd→(∀ b o,H1' b=some o→H1 b=some o∨((∃ us,o=.tup us)∧H3 b=some o))→d_ H H1' Hd σ (ρ1.set j (.ow d')) v z.bq→Q v Hd:=fun H1' m1 m2 m3 rv=>by
    have hd3:∀ b,H1' b≠none→b≠a:=fun b hb y=>by
     subst y
     cases y2:H1' b with
     | none=>exact hb y2
     | some o=>
      rcases m3 b o y2 with y3 | ⟨_,y3⟩
      ·rw [na1] at y3;cases y3
      ·rw [n3] at y3;cases y3
    have n1':H1' a=none:=by
     cases y:H1' a with
     | none=>rfl
     | some o=>exact absurd rfl (hd3 a (by rw [y];exact fun q=>nomatch q))
    have sm:aA H1' Hd σ (ρ1.set j .un):=by
     refine (t1.st.mask j).off m1 m2 no1 (fun b o y nb=>s3.s1 b o y nb) fun i d4 b y1 y2=>?_
     obtain ⟨b',q',nb',w'⟩:=(t1.st.mask j).ow i d4 y1
     rw [y2] at q'
     cases q'
     cases y:H1' b with
     | none=>rfl
     | some o=>
      rcases m3 b o y with y3 | ⟨⟨us,y4⟩,y3⟩
      ·rw [nb'] at y3;cases y3
      ·subst y4
       have nb:b≠a:=hd3 b (by rw [y];exact fun q=>nomatch q)
       cases d4 with
       | lst _=>
        obtain ⟨ws,z1,_⟩:=w'
        have z2:=s3.s1 b _ z1 nb
        rw [ss _ _ y3] at z2
        cases z2
       | dct _ _=>
        obtain ⟨ws,z1,_⟩:=w'
        have z2:=s3.s1 b _ z1 nb
        rw [ss _ _ y3] at z2
        cases z2
       | _=>exact False.elim w'
    have sf:aA H1' Hd σ (ρ1.set j (.ow d')):=by
     have:=sm.iV qa no1 n1' (wp H1')
     rw [List.set_set] at this
     exact this
    refine k v H1' Hd ⟨sf,⟨t1.stp.s0.trans m1,fun b o y nb=>?_,fun b o y=>?_,fun b o y=>?_⟩,fun b y=>?_,fun i y=>?_⟩ rv
    ·have y1:=t1.stp.s1 b o y nb
     exact s3.s1 b o y1 fun q=>nb (by rw [q];exact oa0)
    ·rcases m3 b o y with y3 | ⟨_,y3⟩
     ·exact t1.stp.s2 b o y3
     ·rcases s3.s2 b o y3 with y4 | y4 | y4
      ·exact .inl (t1.stp.gone y4)
      ·exact t2.stp.s2 b o y4
      ·subst y4;rw [n3] at y3;cases y3
    ·obtain ⟨o',y1⟩:=t1.stp.s3 b o y
     exact s3.s3 b o' y1
    ·obtain ⟨i,d4,y1,y2⟩:=y
     by_cases hi:j=i
     ·subst hi
      rw [qa] at y2
      cases y2
      exact oa0
     ·rw [List.getElem?_set_ne hi] at y1
      exact t1.own b ⟨i,d4,y1,y2⟩
    ·trivial
   have m0:ak H1 Hd:=fun b o y=>s3.s1 b o (t1.st.same _ _ y) fun q=>by rw [q,na1] at y;cases y
   cases z with
   | new d4=>
    obtain ⟨_,_,_,_,w⟩:=r3
    cases d4 with
    | lst _=>cases f1
    | dct _ _=>cases f1
    | _=>exact False.elim w
   | val d4=>
    have r3':Rep H3 v d4:=r3
    cases d4 with
    | tup es=>
     cases r3' with
     | tup q rs=>
      rename_i a2 us
      have rp:aC H1 us es:=dB rs f1
      refine fin (upd H1 a2 (.tup us)) (fun b o y=>?_) (fun b o y=>?_) (fun b o y=>?_) (.tup az (dB rs f1))
      ·by_cases hb:b=a2
       ·subst hb
        have:=s3.s0 _ _ (b2 _ _ y)
        rw [q] at this
        rw [az,this]
       ·rw [av hb];exact y
      ·by_cases hb:b=a2
       ·subst hb
        rw [az] at y
        cases y
        exact ss _ _ q
       ·rw [av hb] at y;exact m0 _ _ y
      ·by_cases hb:b=a2
       ·subst hb
        rw [az] at y
        cases y
        exact .inr ⟨⟨us,rfl⟩,q⟩
       ·rw [av hb] at y;exact .inl y
    | lst _=>cases f1
    | dct _ _=>cases f1
    | exc _=>cases f1
    | fn _=>exact fin H1 (ak.refl _) m0 (fun b o y=>.inl y) (Rep.plain r3' rfl)
    | non=>exact fin H1 (ak.refl _) m0 (fun b o y=>.inl y) (Rep.plain r3' rfl)
    | bl _=>exact fin H1 (ak.refl _) m0 (fun b o y=>.inl y) (Rep.plain r3' rfl)
    | int _=>exact fin H1 (ak.refl _) m0 (fun b o y=>.inl y) (Rep.plain r3' rfl)
    | str _=>exact fin H1 (ak.refl _) m0 (fun b o y=>.inl y) (Rep.plain r3' rfl)
  ·cases e
   have sm:aA H3 Hd σ (ρ2.set j .un):=by
    refine (t2.st.mask j).off s3.s0 ss no2 (fun b o y nb=>s3.s1 b o y nb) fun i d4 b y1 y2=>?_
    obtain ⟨b',q',nb',w'⟩:=(t2.st.mask j).ow i d4 y1
    rw [y2] at q'
    cases q'
    obtain ⟨ob,hob⟩:=w'.some
    cases y:H3 b with
    | none=>rfl
    | some o=>
     rcases s3.s2 b o y with y3 | y3 | y3
     ·rw [hob] at y3;cases y3
     ·rw [nb'] at y3;cases y3
     ·exact absurd ⟨i,d4,y1,y3▸y2⟩ no2
   have sf:aA H3 Hd σ (ρ2.set j (.ow d')):=by
    have:=sm.iV qa no2 n3 w3
    rw [List.set_set] at this
    exact this
   have of:∀ b,aj σ (ρ2.set j (.ow d')) b→b=a∨aj σ ρ2 b:=fun b ⟨i,d4,y1,y2⟩=>by
    by_cases hi:j=i
    ·subst hi
     rw [qa] at y2
     cases y2
     exact .inl rfl
    ·rw [List.getElem?_set_ne hi] at y1
     exact .inr ⟨i,d4,y1,y2⟩
   refine k v H3 Hd ⟨sf,t2.stp.trans s3 (fun b y=>.inl (y▸oa0)),fun b y=>?_,fun i y=>?_⟩ ?_
   ·rcases of b y with y | y
    ·exact y▸oa0
    ·exact t2.own b y
   ·trivial
   ·cases z with
    | val d4=>exact r3
    | new d4=>
     obtain ⟨b,y0,y1,y2,y3⟩:=r3
     refine ⟨b,y0,t2.stp.gone y1,fun y=>?_,y2,y3⟩
     rcases of b y with y | y
     ·subst y;rw [ha] at y1;cases y1
     ·exact t2.st.bP y1 y
end
theorem br {X:Cx} {es:List Expr} {p pos px:Pos} {k:Nat} {F:Addr} {fd:FuncData} {ps:List Str} {g:List Dm.Dat→Option (Dm.RV×Dm.Dat)} {x y:Str} {j:Nat} {fs:List Dm.FE} (G:aQ X.prog X.w X.K X.mg X.base CX0 k F fd ps (spM g)) (hr:bf k X.A) (hg:Gl X x) (hm:X.mg x=some (.ref F)) (hk:PySem.W.keepIn X.K (.ref F)=true) (hb:Binds X.K fd ps [])
  (ha:DA X (.Name y px::es) (Dm.eV j::fs)) (hdb:(x == ("__debug__" : Str))=false:=by decide) (he:starEach (.Name y px::es) X.env=(false,eval (.Name y px) X.env)::starEach es X.env:=by rfl) (hpl:(backTo pos (starEach es X.env)).any (·.1)=false:=by rfl) :
  DE X (.Call (.Name x p) (.Name y px::es) [] pos) (Dm.eFm g j fs):=PE.weak (jH G hr hg hm hk hb .nil (pG (X:=X)) ha hdb he hpl) fun _ _ _=>Cq
theorem ze {N:List Str} {n m:Nat} {body:Dm.FS} {vs:List V} {H:Hp} {Q:VK} {E:XK} (hm:N.length=n+m) (h:spM (Dm.fnM n m body) vs H Q E) :
  tDS body { nx:=fun _ H'=>Q .non H',rt:=Q } (start N vs) H:=by
 have hvn:=jK h
 obtain ⟨H0,a,us,d,ds,z,d',e,s,na,wa,rs,ef,k⟩:=h
 subst e
 have hl:=rs.length
 rw [List.length_cons] at hvn
 have e0:(start N (V.ref a::us))[0]?=some (some (V.ref a)):=rfl
 have get:∀ {i:Nat} {c:Dm.Cell},(Dm.Cell.ow d::(ds.map Dm.Cell.sh++List.replicate m .un))[i]?=some c→(i=0∧c=.ow d)∨(∃ i' d4,i=i'+1∧ds[i']?=some d4∧c=.sh d4)∨c=.un:=fun {i c} y=>by
  cases i with
  | zero=>cases y;exact .inl ⟨rfl,rfl⟩
  | succ i=>
   rw [List.getElem?_cons_succ] at y
   by_cases hi:i<ds.length
   ·rw [List.getElem?_append_left (by simpa using hi),List.getElem?_map,List.getElem?_eq_getElem hi] at y
    cases y
    exact .inr (.inl ⟨i,ds[i],rfl,List.getElem?_eq_getElem hi,rfl⟩)
   ·rw [List.getElem?_append_right (by simpa using hi),List.getElem?_replicate] at y
    split at y
    ·cases y;exact .inr (.inr rfl)
    ·cases y
 have ow0:∀ {i:Nat} {d4:Dm.Dat},(Dm.Cell.ow d::(ds.map Dm.Cell.sh++List.replicate m .un))[i]?=some (.ow d4)→i=0∧d4=d:=fun {i d4} y=>by
  rcases get y with ⟨y1,y2⟩ | ⟨_,_,_,_,y2⟩ | y2
  ·cases y2;exact ⟨y1,rfl⟩
  ·cases y2
  ·cases y2
 have oa:∀ b,aj (start N (V.ref a::us)) (Dm.Cell.ow d::(ds.map Dm.Cell.sh++List.replicate m .un)) b→b=a:=fun b ⟨i,d4,y1,y2⟩=>by
  obtain ⟨y3,_⟩:=ow0 y1
  subst y3
  rw [e0] at y2
  cases y2
  rfl
 have st:aA H0 H (start N (V.ref a::us)) (Dm.Cell.ow d::(ds.map Dm.Cell.sh++List.replicate m .un)):=by
  refine ⟨s,?_,fun i d4 y=>?_,fun i d4 y=>?_,fun i i' d4 d5 b y1 y2 _ _=>(ow0 y1).1.trans (ow0 y2).1.symm⟩
  ·unfold L2.start
   simp only [List.length_append,List.length_map,List.length_replicate,List.length_cons]
   omega
  ·rcases get y with ⟨_,y2⟩ | ⟨i',d5,y1,y2,y3⟩ | y2
   ·cases y2
   ·cases y3
    subst y1
    obtain ⟨v,hv,r⟩:=rs.get y2
    refine ⟨v,?_,r⟩
    have hi:i'<us.length:=(List.getElem?_eq_some_iff.mp hv).1
    unfold L2.start
    rw [List.getElem?_append_left (by simp;omega),List.getElem?_map,List.getElem?_cons_succ,hv]
    rfl
   ·cases y2
  ·obtain ⟨y1,y2⟩:=ow0 y
   subst y1 y2
   exact ⟨a,e0,na,wa⟩
 have fin:∀ {σ':L2.St} {ρ':Dm.Env} {H0' H':Hp},SSt (start N (V.ref a::us)) (Dm.Cell.ow d::(ds.map Dm.Cell.sh++List.replicate m .un)) H0 H σ' ρ' H0' H'→ρ'[0]?=some (.ow d')→Stp (fun b=>b=a) H0 H H0' H'∧H0' a=none∧Own H0' H' a d'∧aj σ' ρ' a:=fun {σ' ρ' H0' H'} t y=>by
  obtain ⟨a',q',n',w'⟩:=t.st.ow 0 d' y
  have fx:=t.fx
  rw [e0,q'] at fx
  cases fx
  exact ⟨t.stp.wide fun b z=>oa b z,n',w',0,d',y,q'⟩
 unfold Dm.fnM at ef
 split at ef
 case isFalse=>cases ef
 dsimp only at ef
 split at ef
 ·rename_i z' ρ' e1
  split at ef
  case h_2=>cases ef
  rename_i d4 y
  cases ef
  refine ⟨H0,_,_,st,e1,fun σ' v H0' H' t r no=>?_⟩
  obtain ⟨f1,f2,f3,f4⟩:=fin t y
  refine k v H0' H' f1 t.st.same f2 f3 ?_
  cases z with
  | val d5=>exact r
  | new d5=>
   obtain ⟨b,y0,y1,y2,y3⟩:=r
   refine ⟨b,y0,?_,y2,y3⟩
   rcases y1 with y1 | y1
   ·exact y1
   ·exact absurd f4 (oa b y1▸no d5 b rfl y0)
 ·rename_i ρ' e1
  split at ef
  case h_2=>cases ef
  rename_i d4 y
  cases ef
  refine ⟨H0,_,_,st,e1,fun σ' H0' H' t=>?_⟩
  obtain ⟨f1,f2,f3,f4⟩:=fin t y
  exact k _ H0' H' f1 t.st.same f2 f3 .non
 ·cases ef
end Br
namespace Dm
noncomputable def bu:List Int→List Dat→Int→Option Dat
 | k::ks,v::vs,i=>if k=i then some v else bu ks vs i
 | _,_,_=>none
noncomputable def uM:List Int→List Dat→Int→Dat→List Dat
 | k::ks,v::vs,i,d=>(if k=i then d else v)::uM ks vs i d
 | _,_,_,_=>[]
noncomputable def jj (ks:List Int) (i:Int):List Int:=if (ks.any fun k=>decide (k=i))=true then ks else ks++[i]
noncomputable def jl (ks:List Int) (vs:List Dat) (i:Int) (d:Dat):List Dat:=if (ks.any fun k=>decide (k=i))=true then uM ks vs i d else vs++[d]
noncomputable def eDn:FE:=fun ρ=>some (.new (.dct [] []),ρ)
noncomputable def gDx:Dat→Dat→Option RV
 | .dct ks vs,.int i=>(bu ks vs i).map .val
 | _,_=>none
noncomputable def wR:Dat→Dat→Option RV
 | .int i,.dct ks vs=>vB (bu ks vs i).isSome
 | _,_=>none
noncomputable def pZ:Dat→Dat→Option RV
 | .int i,.dct ks vs=>vB (!(bu ks vs i).isSome)
 | _,_=>none
noncomputable def jm (a b:FE):FE:=fun ρ=>match a ρ with
 | none=>none
 | some (x,ρ1)=>match pk ρ1 x with
  | some (.dct _ _)=>(match b ρ1 with
   | none=>none
   | some (y,ρ2)=>match pk ρ2 x with
    | some (.dct ks vs)=>(match pk ρ2 y with
     | some (.int i)=>some (.val ((bu ks vs i).getD .non),ρ2)
     | _=>none)
    | _=>none)
  | _=>none
noncomputable def eD1 (a b:FE):FE:=fun ρ=>match a ρ with
 | some (.val (.int i),ρ1)=>(match b ρ1 with
  | none=>none
  | some (x,ρ2)=>match tk ρ2 x with
   | none=>none
   | some (d,ρ3)=>some (.new (.dct [i] [d]),ρ3))
 | _=>none
noncomputable def j_ (i:Nat) (j e:FE):FS:=fun ρ=>match e ρ with
 | none=>none
 | some (x,ρ1)=>match tk ρ1 x with
  | none=>none
  | some (d,ρ2)=>match ρ2[i]? with
   | some (.ow _)=>(match j ρ2 with
    | some (.val (.int k),ρ3)=>(match ρ3[i]? with
     | some (.ow (.dct ks vs))=>if ks.length<SZ then some (.nx (ρ3.set i (.ow (.dct (jj ks k) (jl ks vs k d))))) else none
     | _=>none)
    | _=>none)
   | _=>none
end Dm
namespace Br
open PySem PySem.Spec PyProof.Rows L2
theorem cI {H0 H:Hp} (s:ak H0 H) {v:V} {ks:List Int} {ds:List Dm.Dat} (r:iO H0 H v (.dct ks ds)):∃ a kvs,v=.ref a∧H a=some (.dK kvs)∧kvs.map (·.1)=ks.map Sum.inl∧aC H0 (kvs.map (·.2)) ds:=by
 rcases r with r | ⟨a,e,kvs,q,ek,rs⟩
 ·cases r with
  | dct q ek rs=>exact ⟨_,_,rfl,s _ _ q,ek,rs⟩
 ·exact ⟨a,kvs,e,q,ek,rs⟩
theorem n5 {a b:Int} (h:¬ a=b):¬ (Sum.inl a:Key)=Sum.inl b:=fun q=>h (Sum.inl.inj q)
theorem ff {H0:Hp} (i:Int):∀ {kvs:List (Key×V)} {ks:List Int} {ds:List Dm.Dat},kvs.map (·.1)=ks.map Sum.inl→aC H0 (kvs.map (·.2)) ds →
  (∃ d v,Dm.bu ks ds i=some d∧fF kvs (Sum.inl i)=some v∧Rep H0 v d)∨(Dm.bu ks ds i=none∧fF kvs (Sum.inl i)=none)
 | [],[],_,_,r=>by cases r;exact .inr ⟨rfl,rfl⟩
 | [],_::_,_,e,_=>by cases e
 | _::_,[],_,e,_=>by cases e
 | (k0,v0)::kvs,k::ks,_,e,r=>by
  rw [List.map_cons] at r
  cases r with
  | cons r0 rr=>
   rw [List.map_cons,List.map_cons] at e
   injection e with e1 e2
   have e1:k0=Sum.inl k:=e1
   subst e1
   unfold Dm.bu
   by_cases h:k=i
   ·subst h
    rw [if_pos rfl]
    exact .inl ⟨_,v0,rfl,gS rfl,r0⟩
   ·rw [if_neg h,gT (n5 h)]
    exact ff i e2 rr
theorem zf (i:Int):∀ {kvs:List (Key×V)} {ks:List Int},kvs.map (·.1)=ks.map Sum.inl→(kvs.any fun kv=>decide (kv.1=Sum.inl i))=(ks.any fun k=>decide (k=i))
 | [],[],_=>rfl
 | [],_::_,e=>by cases e
 | _::_,[],e=>by cases e
 | (k0,v0)::kvs,k::ks,e=>by
  rw [List.map_cons,List.map_cons] at e
  injection e with e1 e2
  have e1:k0=Sum.inl k:=e1
  subst e1
  rw [List.any_cons,List.any_cons,zf i e2]
  congr 1
  by_cases h:k=i
  ·subst h;simp
  ·have:=n5 h;simp [h,this]
theorem uN {H0:Hp} (i:Int) {v:V} {d:Dm.Dat} (rv:Rep H0 v d):∀ {kvs:List (Key×V)} {ks:List Int} {ds:List Dm.Dat},kvs.map (·.1)=ks.map Sum.inl→aC H0 (kvs.map (·.2)) ds →
  ((kvs.map fun kv=>if kv.1=Sum.inl i then (kv.1,v) else kv).map (·.1)=ks.map Sum.inl)∧aC H0 ((kvs.map fun kv=>if kv.1=Sum.inl i then (kv.1,v) else kv).map (·.2)) (Dm.uM ks ds i d)
 | [],[],_,_,r=>by cases r;exact ⟨rfl,.nil⟩
 | [],_::_,_,e,_=>by cases e
 | _::_,[],_,e,_=>by cases e
 | (k0,v0)::kvs,k::ks,_,e,r=>by
  rw [List.map_cons] at r
  cases r with
  | cons r0 rr=>
   rw [List.map_cons,List.map_cons] at e
   injection e with e1 e2
   have e1:k0=Sum.inl k:=e1
   subst e1
   obtain ⟨i1,i2⟩:=uN i rv e2 rr
   unfold Dm.uM
   by_cases h:k=i
   ·subst h
    rw [if_pos rfl,List.map_cons,List.map_cons,List.map_cons,i1]
    simp only [if_true]
    exact ⟨trivial,.cons rv i2⟩
   ·rw [if_neg h,List.map_cons,List.map_cons,List.map_cons,i1]
    have:=n5 h
    simp only [this,if_false]
    exact ⟨trivial,.cons r0 i2⟩
theorem GC {H0:Hp} (i:Int) {v:V} {d:Dm.Dat} (rv:Rep H0 v d) {kvs:List (Key×V)} {ks:List Int} {ds:List Dm.Dat} (e:kvs.map (·.1)=ks.map Sum.inl) (r:aC H0 (kvs.map (·.2)) ds) :
  (putK kvs (Sum.inl i) v).map (·.1)=(Dm.jj ks i).map Sum.inl∧aC H0 ((putK kvs (Sum.inl i) v).map (·.2)) (Dm.jl ks ds i d):=by
 have ha:=zf i e
 unfold putK Dm.jj Dm.jl
 rw [ha]
 cases hb:(ks.any fun k=>decide (k=i)) with
 | true=>
  simp only [if_true]
  exact uN i rv e r
 | false=>
  simp only [Bool.false_eq_true,if_false]
  rw [List.map_append,List.map_append,List.map_append,e]
  exact ⟨rfl,r.append (.cons rv .nil)⟩
theorem J3:OpD (fun x y H Q=>∃ a v,x=.ref a∧dU H a y (some v)∧Q v H) Dm.gDx:=by
 intro H0 H x y dx dy z Q s rx ry e k
 unfold Dm.gDx at e
 split at e
 ·rename_i ks vs i
  cases au ry
  obtain ⟨a,kvs,rfl,qa,ek,rs⟩:=cI s rx
  rcases ff i ek rs with ⟨d,v,l1,l2,r⟩ | ⟨l1,_⟩
  ·rw [l1] at e
   cases e
   refine ⟨a,v,rfl,?_,k _ H0 H (aM.refl s) r⟩
   have:=dU.k (k:=Sum.inl i) qa
   rw [l2] at this
   exact this
  ·rw [l1] at e;cases e
 ·cases e
theorem GD:OpD (fun y x H Q=>∃ a o,x=.ref a∧dU H a y o∧Q (.bl o.isSome) H) Dm.wR:=by
 intro H0 H x y dx dy z Q s rx ry e k
 unfold Dm.wR at e
 split at e
 ·rename_i i ks vs
  cases e
  cases au rx
  obtain ⟨a,kvs,rfl,qa,ek,rs⟩:=cI s ry
  refine ⟨a,_,rfl,dU.k (k:=Sum.inl i) qa,k _ H0 H (aM.refl s) ?_⟩
  rcases ff i ek rs with ⟨d,v,l1,l2,r⟩ | ⟨l1,l2⟩
  ·rw [l1,l2];exact .bl _
  ·rw [l1,l2];exact .bl _
 ·cases e
theorem Cr:OpD (fun y x H Q=>∃ a o,x=.ref a∧dU H a y o∧Q (.bl (!o.isSome)) H) Dm.pZ:=by
 intro H0 H x y dx dy z Q s rx ry e k
 unfold Dm.pZ at e
 split at e
 ·rename_i i ks vs
  cases e
  cases au rx
  obtain ⟨a,kvs,rfl,qa,ek,rs⟩:=cI s ry
  refine ⟨a,_,rfl,dU.k (k:=Sum.inl i) qa,k _ H0 H (aM.refl s) ?_⟩
  rcases ff i ek rs with ⟨d,v,l1,l2,r⟩ | ⟨l1,l2⟩
  ·rw [l1,l2];exact .bl _
  ·rw [l1,l2];exact .bl _
 ·cases e
section
variable {σ:L2.St} {H:Hp} {Q:VK} {D:Ends}
theorem LW (h:tD Dm.eDn σ H Q):yh σ H Q:=by
 obtain ⟨H0,ρ,x,ρ',st,e,k⟩:=h
 cases e
 intro p hp
 have g:=aM.mJ (o:=HO.dK []) st.same hp
 exact k _ _ _ (.grow st g) ⟨p,rfl,hp,st.bP hp,st.same.free hp,[],az,rfl,.nil⟩
theorem GF {fo fi:Dm.FE} (h:tD (Dm.jm fo fi) σ H Q):yl (tD fo) (tD fi) σ H Q:=by
 obtain ⟨H0,ρ,x,ρ',st,e,k⟩:=h
 unfold Dm.jm at e
 split at e
 ·cases e
 rename_i x1 ρ1 e1
 split at e
 case h_2=>cases e
 rename_i ks0 vs0 p0
 split at e
 ·cases e
 rename_i y1 ρ2 e2
 split at e
 case h_2=>cases e
 rename_i ks vs p1
 split at e
 case h_2=>cases e
 rename_i i p2
 cases e
 refine ⟨H0,ρ,x1,ρ1,st,e1,fun v H1 Hb t1 r1=>?_⟩
 obtain ⟨a,GG,rfl,qa0,_,_⟩:=cI t1.st.same (r1.look t1.st p0)
 refine ⟨a,rfl,.inl ⟨GG,.inl qa0⟩,H1,ρ1,y1,_,t1.st,e2,fun u H2 Hc t2 r2=>?_⟩
 have hu:=au (r2.look t2.st p2)
 subst hu
 obtain ⟨a',kvs,ea,qa,ek,rs⟩:=cI t2.st.same ((r1.mono t2).look t2.st p1)
 cases ea
 refine ⟨_,dU.k (k:=Sum.inl i) qa,k _ H2 Hc (t1.trans t2) ?_⟩
 rcases ff i ek rs with ⟨d,w,l1,l2,r⟩ | ⟨l1,l2⟩
 ·rw [l1,l2];exact r
 ·rw [l1,l2];exact Rep.non
theorem GH {i:Nat} {j f:Dm.FE} (h:tDS (Dm.j_ i j f) D σ H):DQ (mC i) (tD j) (tD f) D σ H:=by
 obtain ⟨H0,ρ,o,st,e,k⟩:=h
 unfold Dm.j_ at e
 split at e
 ·cases e
 rename_i x ρ1 e1
 split at e
 ·cases e
 rename_i d ρ2 e2
 split at e
 case h_2=>cases e
 rename_i d0 h2
 split at e
 ·rename_i m ρ3 e3
  split at e
  ·rename_i ks vs h3
   split at e
   case isFalse=>cases e
   rename_i hz
   cases e
   refine ⟨H0,ρ,_,ρ1,st,e1,fun v H0' H' t r=>?_⟩
   obtain ⟨H1,t1,b1,r1,_,_⟩:=take1 t (ak.refl _) r e2
   obtain ⟨a0,q0,_,_⟩:=t1.st.ow i _ h2
   refine ⟨_,q0,H1,ρ2,_,ρ3,t1.st,e3,fun u H2 Hc t2 r2=>?_⟩
   obtain ⟨a,q,n,w⟩:=t2.st.ow i _ h3
   rw [q0] at q
   cases q
   obtain ⟨kvs,y,ek,rs⟩:=w
   have hu:=Rep.isInt r2
   subst hu
   obtain ⟨p1,p2⟩:=GC m (r1.mono t2.stp.s0) ek rs
   have hlen:kvs.length=ks.length:=by
    have:=congrArg List.length ek
    simpa using this
   refine ⟨a0,_,rfl,yg.k (k:=Sum.inl m) y (by rw [hlen];exact Nat.lt_of_lt_of_le hz (by decide)),?_⟩
   have ow:aj σ ρ3 a0:=⟨i,_,h3,q0⟩
   have tt:=t1.trans t2
   exact k σ H2 _ ⟨t2.st.write h3 q0 ⟨_,az,p1,p2⟩,tt.stp.trans (Stp.write ow) fun b z=>.inl (tt.own b z),fun b z=>.inl (tt.own b (b_ h3 z)),rfl⟩
  ·cases e
 ·cases e
theorem LX {fa fb:Dm.FE} (h:tD (Dm.eD1 fa fb) σ H Q):DR [(tD fa,tD fb)] σ H Q:=by
 obtain ⟨H0,ρ,x,ρ',st,e,k⟩:=h
 unfold Dm.eD1 at e
 split at e
 ·rename_i i ρ1 e1
  split at e
  ·cases e
  rename_i y ρ2 e2
  split at e
  ·cases e
  rename_i d ρ3 e3
  cases e
  intro p hp
  have n0:H0 p=none:=st.same.free hp
  have no:¬ aj σ ρ p:=st.bP hp
  refine ⟨H0,ρ,_,ρ1,st.aside n0 no,e1,fun u H1 Hb t1 r1=>⟨H1,ρ1,y,ρ2,t1.st,e2,fun v H2 Hc t2 r2=>?_⟩⟩
  have tt:=t1.trans t2
  obtain ⟨H3,t3,b3,r3,_,_⟩:=take1 tt (ak.refl _) (r2.early fun a n=>t1.stp.gone n) e3
  obtain ⟨hp3,n3,no3⟩:=t3.cG (o:=HO.dK []) az n0 no
  have hu:=Rep.isInt r1
  subst hu
  refine ⟨hp3,[(Sum.inl i,v)],rfl,(by simp),?_⟩
  have em:iI [] [((Sum.inl i:Key),v)]=[(Sum.inl i,v)]:=rfl
  rw [em]
  refine k _ H3 _ ⟨t3.st.aside n3 no3,⟨t3.stp.s0,fun a o y nb=>?_,fun a o y=>?_,fun a o y=>?_⟩,t3.own,t3.dfn⟩ ⟨p,rfl,hp,no3,n3,_,az,rfl,.cons r3 .nil⟩
  ·have ne:a≠p:=fun q=>by rw [q,hp] at y;cases y
   rw [av ne]
   exact t3.stp.s1 a o (by rw [av ne];exact y) nb
  ·rcases t3.stp.s2 a o y with y1 | y1 | y1
   ·by_cases ne:a=p
    ·subst ne;rw [n3] at y;cases y
    ·rw [av ne] at y1;exact .inl y1
   ·exact .inr (.inl y1)
   ·exact .inr (.inr y1)
  ·have ne:a≠p:=fun q=>by rw [q,hp] at y;cases y
   rw [av ne]
   exact t3.stp.s3 a o (by rw [av ne];exact y)
 ·cases e
end
theorem u1 {k:Nat} {A:Around} (hr:bf k A):A.units+1<cLine:=Nat.lt_of_le_of_lt (Nat.add_le_add_left (by decide) _) hr.units
section
variable {X:Cx} {a b e:Expr} {fa fb f:Dm.FE} {pos:Pos} {k:Nat}
theorem LY:DE X (.Dict [] [] pos) Dm.eDn:=PE.weak yi fun _ _ _=>LW
theorem LZ (ha:DE X a fa) (hb:DE X b fb):DE X (.Dict [some a] [b] pos) (Dm.eD1 fa fb):=PE.weak (BX (yj ha hb BW) rfl rfl (by simp) (by simp)) fun _ _ _=>LX
theorem GI (hr:bf k X.A) (ha:DE X a fa) (hb:DE X b fb) (hs:FZ b:=by intro _ _;rfl):DE X (.Subscript a b pos) (Dm.e2 Dm.gDx fa fb):=PE.weak (BU (u1 hr) ha hb hs) fun _ _ _=>sj J3
theorem D7 (hr:bf k X.A) (ha:DE X a fa) (hb:DE X b fb) (hm:behindInMarks .In b=false:=by rfl):DT X (.Compare a [.In] [b] pos) (Dm.tV (Dm.e2 Dm.wR fa fb)):=PT.weak (xK (F0 (u1 hr) ha hb) hm) fun σ H Q h=>sj GD (nT h)
theorem GJ (hr:bf k X.A) (ha:DE X a fa) (hb:DE X b fb) (hm:behindInMarks .NotIn b=false:=by rfl):DT X (.Compare a [.NotIn] [b] pos) (Dm.tV (Dm.e2 Dm.pZ fa fb)):=PT.weak (xK (wD (u1 hr) ha hb) hm) fun σ H Q h=>sj Cr (nT h)
theorem zg {apos cpos:Pos} (hr:bf k X.A) (ha:DE X a fa) (hb:DE X b fb) (m:M1 X a "get" apos b cpos:=by exact ⟨rfl,rfl,rfl,rfl⟩):DE X (.Call (.Attribute a "get" apos) [b] [] cpos) (Dm.jm fa fb):=PE.weak (yo (u1 hr) ha hb m) fun _ _ _=>GF
theorem zh (i:Nat) {x:Str} {px sp:Pos} (hr:bf k X.A) (hb:DE X b fb) (he:DE X e f) (hi:X.N[i]?=some x:=by rfl) (hv:Vis X.env.scope x:=by first | exact Or.inl rfl | exact Or.inr (Or.inl rfl) | exact Or.inr (Or.inr rfl)) (hd:(x == ("__debug__" : Str))=false:=by decide)
  (hcd:(x == ("__classdict__" : Str))=false:=by decide) (hs:swapsWith e (some (.Subscript (.Name x px) b sp)) pos.line X.env=pure false:=by rfl):DS X (.Assign [.Subscript (.Name x px) b sp] e pos) (Dm.j_ i fb f):=
 PS.weak (BV (u1 hr) (dX hi hv hd hcd) hb he hs) fun _ _ _=>GH
end
end Br
namespace Dm
end Dm
namespace Br
open PySem PySem.Spec PyProof.Rows L2
section
variable {σ:L2.St} {H:Hp} {Q:VK}
theorem L0 {K:PySem.W.Frag} {f:Dm.FE} {Q:Bool→Hp→Prop} (h:tDT (Dm.tTr f) σ H Q):tD f σ H fun x H'=>∃ k,FD K x H' k∧Q k H':=by
 obtain ⟨H0,ρ,b,ρ',st,e,k⟩:=h
 unfold Dm.tTr at e
 split at e
 ·cases e
 rename_i x ρ1 e1
 split at e
 ·cases e
 rename_i d p1
 split at e
 ·cases e
 rename_i c tc
 cases e
 refine ⟨H0,ρ,x,_,st,e1,fun v H1 Hb t1 r1=>⟨b,?_,k H1 Hb t1⟩⟩
 have rl:=r1.look t1.st p1
 cases d with
 | non=>
  cases tc
  rcases rl with r | ⟨a,_,w⟩
  ·cases r;rfl
  ·exact False.elim w
 | bl c=>
  cases tc
  cases B7 rl
  rfl
 | int i=>
  cases tc
  cases au rl
  rfl
 | tup es=>
  cases tc
  obtain ⟨a,xs,rfl,qa,rs⟩:=g8 t1.st.same rl
  refine .inr (.inl ⟨xs,SqT.of qa,?_⟩)
  cases rs<;>rfl
 | lst es=>
  cases tc
  obtain ⟨a,xs,rfl,qa,rs⟩:=bz t1.st.same rl
  refine .inl ⟨xs,.inl qa,?_⟩
  cases rs<;>rfl
 | str _=>cases tc
 | dct _ _=>cases tc
 | exc _=>cases tc
 | fn _=>cases tc
end
section
variable {X:Cx} {a:Expr} {fa:Dm.FE} {p pos:Pos}
theorem L1 (ha:DE X a fa) (he:∀ whole,isTrue a X.env whole=(do let v ← whole;standAt a.pos;holding [v] (truthy v)):=by intro _;rfl):DT X a (Dm.tTr fa):=PT.weak (x6 ha he) fun _ _ _=>L0
end
section
variable {X:Cx} {a b e:Expr} {fa fb f:Dm.FE} {fs:List Dm.FE} {p p2 pos:Pos}
end
end Br
namespace Dm
noncomputable def kc:List Dat→Option (List Int)
 | []=>some []
 | .int i::r=>(kc r).map fun ns=>i::ns
 | _=>none
end Dm
namespace Br
open PySem PySem.Spec PyProof.Rows L2
section
variable {X:Cx}
end
section
variable {X:Cx} {e:Expr} {f:Dm.FE} {p p0 pos mL:Pos}
end
end Br
namespace Ts
open PySem PyProof.Rows
variable {M:Model} {A:Around} {E:Value→Shared→Prop} {s:Shared} {κ:KeyKind} {kd:SortKind} {a₀:Array Keyed}
end Ts
namespace Ts
open PySem PyProof.Rows
variable {M:Model} {A:Around} {E:Value→Shared→Prop} {s:Shared} {κ:KeyKind} {kd:SortKind} {a₀:Array Keyed}
section
variable {prog:Program} {w:World}
end
end Ts
namespace Ts
open PySem PyProof.Rows
variable {M:Model} {A:Around} {E:Value→Shared→Prop} {s:Shared} {κ:KeyKind} {kd:SortKind} {a₀:Array Keyed}
end Ts
namespace Ts
open PySem PyProof.Rows
variable {M:Model} {A:Around} {E:Value→Shared→Prop} {s:Shared} {κ:KeyKind} {kd:SortKind} {a₀:Array Keyed}
end Ts
namespace Ts
open PySem PyProof.Rows
variable {A:Around} {E:Value→Shared→Prop} {s:Shared} {κ:KeyKind} {kd:SortKind} {a₀:Array Keyed} {prog:Program} {w:World}
section
variable {a b:Array Keyed}
end
end Ts
namespace Ts
open PySem PyProof.Rows
variable {A:Around} {E:Value→Shared→Prop} {s:Shared} {κ:KeyKind} {kd:SortKind} {a₀:Array Keyed} {prog:Program} {w:World}
section
variable {a b:Array Keyed}
end
end Ts
namespace Ts
open PySem PyProof.Rows
variable {A:Around} {E:Value→Shared→Prop} {s:Shared} {κ:KeyKind} {kd:SortKind} {a₀:Array Keyed} {prog:Program} {w:World}
end Ts
namespace Ts
open PySem PyProof.Rows
variable {A:Around} {E:Value→Shared→Prop} {s:Shared} {κ:KeyKind} {kd:SortKind} {a₀:Array Keyed} {prog:Program} {w:World}
end Ts
namespace Ts
open PySem PyProof.Rows
variable {A:Around} {E:Value→Shared→Prop} {s:Shared} {κ:KeyKind} {kd:SortKind} {prog:Program} {w:World}
end Ts
namespace Ts
open PySem PyProof.Rows
variable {A:Around} {E:Value→Shared→Prop} {s:Shared} {κ:KeyKind} {kd:SortKind} {a₀:Array Keyed} {prog:Program} {w:World}
end Ts
namespace Ts
open PySem PyProof.Rows
variable {A:Around} {E:Value→Shared→Prop} {s:Shared} {κ:KeyKind} {kd:SortKind} {prog:Program} {w:World}
end Ts
namespace Tk
open PySem PySem.W PyProof.Rows
section
variable {cmp:Nat→Nat→(Bool→Shared→Prop)→Shared→Prop} {s:Shared} {lt:Nat→Nat→Bool} {n pos:Nat}
end
section
variable {A:Around} {E:Value→Shared→Prop} {s:Shared} {kd:SortKind} {prog:Program} {w:World} {lt:Nat→Nat→Bool} {pos:Nat} {vs:List Value} {v:Value}
end
end Tk
namespace Dm
noncomputable def ins {α:Type} (lt:α→α→Bool) (x:α):List α→List α
 | []=>[x]
 | y::l=>if lt y x then y::ins lt x l else x::y::l
noncomputable def dP {α:Type} (lt:α→α→Bool):List α→List α
 | []=>[]
 | x::l=>ins lt x (dP lt l)
theorem kg {α:Type} (lt:α→α→Bool) (x:α):∀ l,(ins lt x l).Perm (x::l)
 | []=>List.Perm.refl _
 | y::l=>by
  rw [ins]
  split
  ·exact ((kg lt x l).cons y).trans (List.Perm.swap x y l)
  ·exact List.Perm.refl _
theorem dD {α:Type} (lt:α→α→Bool):∀ l,(dP lt l).Perm l
 | []=>List.Perm.refl _
 | x::l=>(kg lt x _).trans ((dD lt l).cons x)
theorem kh {α:Type} {lt:α→α→Bool} (tr:∀ a b c,lt b a=false→lt c b=false→lt c a=false) (as:∀ a b,lt a b=true→lt b a=false) (x:α):∀ l:List α,l.Pairwise (fun a b=>lt b a=false)→(ins lt x l).Pairwise (fun a b=>lt b a=false)
 | [],_=>by simp [ins]
 | y::l,h=>by
  rw [ins]
  obtain ⟨h1,h2⟩:=List.pairwise_cons.mp h
  split
  ·rename_i hl
   refine List.pairwise_cons.mpr ⟨fun z hz=>?_,kh tr as x l h2⟩
   rcases List.mem_cons.mp ((kg lt x l).mem_iff.mp hz) with rfl | hz
   ·exact as _ _ hl
   ·exact h1 z hz
  ·rename_i hl
   have hl':lt y x=false:=by simpa using hl
   refine List.pairwise_cons.mpr ⟨fun z hz=>?_,h⟩
   rcases List.mem_cons.mp hz with rfl | hz
   ·exact hl'
   ·exact tr _ _ _ hl' (h1 z hz)
theorem dF {α:Type} {lt:α→α→Bool} (tr:∀ a b c,lt b a=false→lt c b=false→lt c a=false) (as:∀ a b,lt a b=true→lt b a=false):∀ l:List α,(dP lt l).Pairwise (fun a b=>lt b a=false)
 | []=>List.Pairwise.nil
 | x::l=>kh tr as x _ (dF tr as l)
theorem jn {α:Type} {lt:α→α→Bool} (tot:∀ a b,lt a b=false→lt b a=false→a=b):∀ {l m:List α},l.Perm m→l.Pairwise (fun a b=>lt b a=false)→m.Pairwise (fun a b=>lt b a=false)→l=m
 | [],m,p,_,_=>(List.nil_perm.mp p).symm
 | x::l,[],p,_,_=>by have:=p.length_eq;simp at this
 | x::l,y::m,p,h1,h2=>by
  obtain ⟨a1,a2⟩:=List.pairwise_cons.mp h1
  obtain ⟨b1,b2⟩:=List.pairwise_cons.mp h2
  have e:x=y:=by
   rcases List.mem_cons.mp (p.mem_iff.mp List.mem_cons_self) with hx | hx
   ·exact hx
   ·rcases List.mem_cons.mp (p.mem_iff.mpr (List.mem_cons_self (a:=y) (l:=m))) with hy | hy
    ·exact hy.symm
    ·exact tot x y (b1 x hx) (a1 y hy)
  subst e
  rw [jn tot (List.Perm.cons_inv p) a2 b2]
end Dm
namespace Br
open PySem PySem.Spec PyProof.Rows L2
section
variable {prog:Program} {w:World} {A:Around} {E:Value→Shared→Prop} {s:Shared}
end
section
variable {X:Cx}
end
end Br
namespace Dm
noncomputable def iW (i:Nat) (e:FE):FE:=fun ρ=>match ρ[i]? with
 | some (.ow (.lst _))=>(match e ρ with
  | some (.val (.int j),ρ1)=>(match ρ1[i]? with
   | some (.ow (.lst ds))=>if 0≤j∧j≤BIG then (match ds[j.toNat]? with
     | some d=>some (.val d,ρ1.set i (.ow (.lst (ds.eraseIdx j.toNat))))
     | none=>none) else none
   | _=>none)
  | _=>none)
 | _=>none
noncomputable def isN:Dat→Bool
 | .non=>true
 | _=>false
noncomputable def sL:Dat→Dat→Option RV
 | d,.non=>vB (isN d)
 | _,_=>none
end Dm
namespace Br
open PySem PySem.Spec PyProof.Rows L2
section
variable {X:Cx}
end
theorem nc {H0:Hp}:∀ ns:List Int,aC H0 (ns.map V.int) (ns.map Dm.Dat.int)
 | []=>.nil
 | n::ns=>.cons (.int n) (nc ns)
section
variable {X:Cx} {a b c e:Expr} {f fa fb:Dm.FE} {fs:List Dm.FE} {p pos:Pos}
noncomputable def J4 (neg:Bool):R2:=fun x y H Q=>y=.non∧Q (.bl (if neg then !decide (x=V.non) else decide (x=V.non))) H
theorem Cs {x:V} {v:Value} (r:RelV x v):(v == Value.none)=decide (x=V.non):=by
 cases x with
 | non=>cases r;rfl
 | bl b=>cases r;rfl
 | int i=>obtain ⟨t,rfl⟩:=r;rfl
 | str z=>obtain ⟨t,rfl⟩:=r;rfl
 | byt z=>obtain ⟨t,rfl⟩:=r;rfl
 | flt z=>obtain ⟨t,rfl⟩:=r;rfl
 | ref z=>cases r;rfl
 | ty z=>cases r;rfl
theorem zj:OpR X (compareOp .Is) (J4 false):=by
 intro pins s σ H x y v u Q I rx ry h
 obtain ⟨rfl,q⟩:=h
 cases ry
 refine is_none_gen ?_
 rw [Cs rx]
 exact ⟨.bl _,H,I,rfl,q⟩
theorem uO {H0 H:Hp} {x:V} {d:Dm.Dat} (r:iO H0 H x d):decide (x=V.non)=Dm.isN d:=by
 rcases r with r | ⟨a,rfl,w⟩
 ·cases r<;>rfl
 ·cases d with
  | non=>exact False.elim w
  | _=>rfl
theorem zk:OpD (J4 false) Dm.sL:=by
 intro H0 H x y dx dy z Q s rx ry e k
 unfold Dm.sL at e
 split at e
 ·cases e
  have hy:=uO ry
  have:y=V.non:=of_decide_eq_true (hy.trans rfl)
  refine ⟨this,?_⟩
  rw [if_neg (by decide),uO rx]
  exact k _ H0 H (aM.refl s) (.bl _)
 ·cases e
theorem J5 (ha:DE X a fa) (hb:DE X b fb):DE X (.Compare a [.Is] [b] pos) (Dm.e2 Dm.sL fa fb):=j3 zj zk ha hb (cC _)
theorem J6 (ha:DE X a fa) (hb:DE X b fb):DT X (.Compare a [.Is] [b] pos) (Dm.tV (Dm.e2 Dm.sL fa fb)):=jh zj zk ha hb (cC _)
end
section
variable {X:Cx}
end
section
variable {σ:L2.St} {H:Hp} {Q:VK} {D:Ends}
theorem ki {α:Type} (l:List α) (i:Nat):l.eraseIdx i=l.take i++l.drop (i+1):=List.eraseIdx_eq_take_drop_succ l i
theorem sM {H0:Hp} {vs:List V} {ds:List Dm.Dat} (i:Nat) (r:aC H0 vs ds):aC H0 (vs.eraseIdx i) (ds.eraseIdx i):=by
 rw [ki,ki]
 exact (r.take i).append (r.drop (i+1))
theorem Ct {K:PySem.W.Frag} {i:Nat} {f:Dm.FE} (h:tD (Dm.iW i f) σ H Q):tBM K "list" yc (mC i) (tDA [f]) σ H Q:=by
 obtain ⟨H0,ρ,x,ρ',st,e,k⟩:=h
 unfold Dm.iW at e
 split at e
 case h_2=>cases e
 rename_i ds0 h0
 obtain ⟨a0,q0,n0,w0⟩:=st.ow i _ h0
 refine ⟨_,q0,?_⟩
 obtain ⟨xs0,y0,_⟩:=w0
 refine ⟨.inl ⟨rfl,xs0,.inl (.inl y0)⟩,?_⟩
 split at e
 case h_2=>cases e
 rename_i j ρ1 e1
 split at e
 case h_2=>cases e
 rename_i ds h2
 split at e
 case isFalse=>cases e
 rename_i hb
 split at e
 case h_2=>cases e
 rename_i d hd
 cases e
 refine ⟨H0,ρ,[.val (.int j)],ρ1,st,by unfold Dm.eAs;rw [e1];rfl,fun vs H0' H' t r=>?_⟩
 cases r with
 | cons r rr=>
  cases rr
  cases Rep.isInt r
  obtain ⟨a,q,n,w⟩:=t.st.ow i _ h2
  rw [q0] at q
  cases q
  obtain ⟨xs,y,rs⟩:=w
  obtain ⟨v,hv,rv⟩:=rs.get hd
  have hlt:j.toNat<xs.length:=(List.getElem?_eq_some_iff.mp hv).1
  have hB:Dm.BIG=1000000000:=rfl
  refine ⟨a0,xs,j,j.toNat,v,rfl,rfl,y,by omega,by omega,?_,hv,?_⟩
  ·unfold seqIndex?
   simp only [show ¬ j<0 by omega,if_false]
   rw [if_pos (by rw [decide_eq_true (show 0≤j by omega),decide_eq_true (show j<(xs.length:Int) by omega)];rfl)]
  have ow:aj σ ρ1 a0:=⟨i,_,h2,q0⟩
  have hi:i<ρ1.length:=(List.getElem?_eq_some_iff.mp h2).1
  refine k v H0' _ (t.trans ⟨t.st.write h2 q0 ⟨_,az,sM _ rs⟩,Stp.write ow,fun b z=>b_ h2 z,fun j' z=>trivial⟩) rv
end
section
variable {X:Cx} {e:Expr} {f:Dm.FE} {pos:Pos}
theorem Cu (i:Nat) {x:Str} {px ap cp:Pos} (he:DE X e f) (hi:X.N[i]?=some x:=by rfl) (hv:Vis X.env.scope x:=by first | exact Or.inl rfl | exact Or.inr (Or.inl rfl) | exact Or.inr (Or.inr rfl)) (hd:(x == ("__debug__" : Str))=false:=by decide)
  (hcd:(x == ("__classdict__" : Str))=false:=by decide) (hbase:attributeBase (.Name x px) "pop" X.env (eval (.Name x px) X.env)=eval (.Name x px) X.env:=by rfl)
  (hfew:((backTo cp (starEach [e] X.env)).all (fun x=>!x.1)&&(backToKw cp (keywordEach [] X.env)).all (fun x=>x.1.isSome)
   && decide ([e].length+([]:List Keyword).length+(if ([]:List Keyword).isEmpty then 0 else 1)<30))=true:=by rfl)
  (hline:(ap.endLine == cp.line)=true:=by rfl) (hs:starEach [e] X.env=(false,eval e X.env)::starEach [] X.env:=by rfl) (hplain:(backTo cp (starEach [] X.env)).any (·.1)=false:=by rfl) :
  DE X (.Call (.Attribute (.Name x px) "pop" ap) [e] [] cp) (Dm.iW i f):=
 PE.weak (ya PySem.F.plainAttrs_list PySem.F.slot_list_pop PySem.F.type_list_pop yd (dX hi hv hd hcd) (aa he ah hs) hbase hfew hline hs hplain) fun _ _ _=>Ct
end
end Br
namespace L2
open PySem PySem.Spec PyProof.Rows
section
variable {X:Cx} {pins:List (Addr×Obj)} {σ:St} {H:Hp} {s:Shared} {x:Str} {C:Addr} {bmB:List Value} {B newId initId:String} {np cpos pos:Pos}
end
section
variable {P:Program} {w:World} {K:PySem.W.Frag} {mg:Str→Option Value} {base:Heap} {N:List Str} {qual:Str} {scope:Scope} {f:Addr} {cd:Value} {A:Around} {outer:List Env} {s₀:Shared} {H₀:Hp} {E:XK} {C:Addr}
 {pins:List (Addr×Obj)} {σ:St} {H:Hp} {s:Shared}
end
section
variable {X:Cx} {st:Stmt} {rest:List Stmt} {t:TS}
end
end L2
namespace Br
open PySem PySem.Spec PyProof.Rows L2
section
variable {X:Cx} {C:Addr} {E:L2.St→XK} {k:Nat} {F:Addr} {fd:FuncData} {ps:List Str} {x:Str} {p pos:Pos} {e:Expr} {es:List Expr} {fs:List Dm.FE} {bad:List Dm.Dat→Bool} {R S:Dm.Env→Option Dm.Env}
end
section
variable {P:Program} {w:World} {K:PySem.W.Frag} {mg:Str→Option Value} {base:Heap} {N:List Str} {qual:Str} {scope:Scope} {f:Addr} {cd:Value} {A:Around} {outer:List Env} {s₀:Shared} {H₀:Hp} {E:XK} {C:Addr}
end
end Br
namespace PySem.W
open PySem PySem.Spec PySem.Calls PyProof.Rows
section
variable {prog:Program} {w:World} {A:Around} {K:Frag} {x C:Addr} {s:Shared} {R:Result→Shared→Prop}
end
section
variable {prog:Program} {w:World} {A:Around} {E:Value→Shared→Prop} {K:Frag} {x C:Addr} {ox:Obj} {h:Heap} {g:Array GenState} {d:Drawn} {t:Nat} {os:OsState}
end
end PySem.W
namespace PySem
section
variable {M:Model} {A:Around} {E:Value→Shared→Prop} {s:Shared} {env:Env}
end
end PySem
namespace PySem.W
open PySem PySem.Spec PySem.Calls PyProof.Rows
end PySem.W
namespace L2
open PySem PySem.Spec PyProof.Rows
section
variable {X:Cx} {pins:List (Addr×Obj)} {σ:L2.St} {H:Hp} {s:Shared}
end
end L2
namespace Br
open PySem PySem.Spec PyProof.Rows L2
section
variable {X:Cx} {pins pn:List (Addr×Obj)} {σ:L2.St} {H:Hp} {s:Shared} {xe:Value→Shared→Prop}
end
section
variable {X:Cx} {C:Addr} {e:Expr} {f:Dm.FE} {p p2 pos:Pos} {b:Bool}
end
section
variable {X:Cx} {C:Addr} {e:Expr} {es:List Expr} {f:Dm.FE} {p p2 pos:Pos} {b:Bool} {Ds:List Addr}
end
section
variable {X:Cx} {a b c e:Expr} {f fa fb fc:Dm.FE} {p p2 pos:Pos} {es:List Expr} {fs:List Dm.FE}
end
end Br
namespace Dm
end Dm
namespace Br
open PySem PySem.Spec PyProof.Rows L2
section
variable {X:Cx}
theorem uP {ns:List Int} {its:List Value} (rv:Vals (ns.map V.int) its):∀ (i:Nat) (v:Value),its.toArray[i]?=some v→∃ t,v=.int (ns.getD i 0) t:=by
 intro i v hv
 have hv':its[i]?=some v:=by simpa using hv
 have hlen:=rv.length
 rw [List.length_map] at hlen
 have hi:i<ns.length:=by rw [hlen];exact (List.getElem?_eq_some_iff.mp hv').1
 have hb:(ns.map V.int)[i]?=some (V.int ns[i]):=by rw [List.getElem?_map,List.getElem?_eq_getElem hi];rfl
 obtain ⟨u,hu,ru⟩:=rv.get hb
 rw [hv'] at hu
 cases hu
 obtain ⟨t,rfl⟩:=ru
 exact ⟨t,by rw [List.getD_eq_getElem?_getD,List.getElem?_eq_getElem hi];rfl⟩
theorem kj:∀ {H0:Hp} {us:List V} {ds:List Dm.Dat} {ns:List Int},aC H0 us ds→Dm.kc ds=some ns→us=ns.map V.int
 | _,_,_,_,.nil,h=>by cases h;rfl
 | _,_,_,_,.cons (ds:=ds) (d:=d) r rr,h=>by
  cases d with
  | int i=>
   rw [Dm.kc] at h
   cases hn:Dm.kc ds with
   | none=>rw [hn] at h;cases h
   | some ms=>
    rw [hn] at h
    cases h
    have:=Rep.isInt r
    subst this
    rw [kj rr hn]
    rfl
  | _=>cases h
end
section
variable {X:Cx} {e:Expr} {fs:List Dm.FE} {p pos:Pos}
end
section
variable {X:Cx}
end
section
variable {σ:L2.St} {H:Hp} {Q:VK}
end
section
variable {X:Cx} {a e:Expr} {fa f:Dm.FE}
end
structure zl (K:PySem.W.Frag) (x qual:Str) (st:Stmt) (f:Addr) (fd:FuncData):Prop where
 ex:∃ (oc:Value) (od:Option Addr) (dV kV doc pm:Value) (an:Option Addr) (cdv ct:Value) (osl:Array (Option Value)),
  fd=PySem.W.fnOf x qual (aJ st) (aI st) (af st) dV kV doc pm an cdv ct∧K.lookup f=some ⟨oc,od,.func fd,osl⟩∧PySem.W.codeIn K cdv qual=true
 kp:PySem.W.keepIn K (.ref f)=true
section
variable {P:Program} {w:World} {K:PySem.W.Frag} {mg:Str→Option Value} {base:Heap}
theorem zl.ok {x qual:Str} {st:Stmt} {f:Addr} {fd:FuncData} {N ps:List Str} {k:Nat} {sp:Sp} (F:zl K x qual st f fd) (S:ao N ps (af st)) (len:∀ vs H Q E,sp vs H Q E→vs.length=ps.length)
  (hbody:∀ (cdv:Value) (A:Around) (outer:List Env) (s:Shared) (H:Hp) (vs:List V) (Q:VK) (E:XK),bf k (A.deeper (envOfC qual (af st) s.heap.objs.size f cdv))→sp vs H Q E →
   ∃ t,PSs (rY CX0 P w K mg base N qual (af st) f cdv A outer s H E).nox (aI st) t∧t { nx:=fun _ H'=>Q .non H',rt:=Q } (start N vs) H):aQ P w K mg base CX0 (k+1) f fd ps sp:=by
 obtain ⟨oc,od,dV,kV,doc,pm,an,cdv,ct,osl,rfl,lk,hcd⟩:=F.ex
 refine DL lk hcd S len fun A outer s H vs Q E hr hsp=>?_
 obtain ⟨t,h,q⟩:=hbody cdv A outer s H vs Q E hr hsp
 exact ⟨t,h.nox,q⟩
theorem uQ {x qual:Str} {st:Stmt} {f:Addr} {oc:Value} {od an:Option Addr} {osl:Array (Option Value)} {dV kV doc pm cdv ct:Value} (l:K.lookup f=some ⟨oc,od,.func (PySem.W.fnOf x qual (aJ st) (aI st) (af st) dV kV doc pm an cdv ct),osl⟩)
  (c:PySem.W.codeIn K cdv qual=true) (k:PySem.W.keepIn K (.ref f)=true):zl K x qual st f (PySem.W.fnOf x qual (aJ st) (aI st) (af st) dV kV doc pm an cdv ct):=⟨⟨oc,od,dV,kV,doc,pm,an,cdv,ct,osl,rfl,l,c⟩,k⟩
end
section
variable {X:Cx} {l a:Expr} {tl:TE} {ta:TA} {fa:Dm.FE} {p pos p0 mL:Pos}
end
theorem Cv {g:List Dm.Dat→Option Dm.RV} {c:Int} {vs:List V} {H:Hp} {Q:VK} {E:XK} (h:spD (fun ds=>g (ds++[.int c])) vs H Q E):spD g (vs++[.int c]) H Q E:=by
 obtain ⟨H0,ds,z,s,r,e,k⟩:=h
 exact ⟨H0,ds++[.int c],z,s,r.append (.cons (.int _) .nil),e,k⟩
section
variable {σ:L2.St} {H:Hp} {Q:VK}
theorem Cw {g:List Dm.Dat→Option Dm.RV} {c:Int} {fs:List Dm.FE} {E:XK} (h:tD (Dm.eF (fun ds=>g (ds++[.int c])) fs) σ H Q):jT (spD g) [.int c] E (tDA fs) σ H Q:=by
 obtain ⟨H0,ρ,xs,ρ',st,e,k⟩:=sq (E:=E) h
 refine ⟨H0,ρ,xs,ρ',st,e,fun vs H0' H' t r=>?_⟩
 have:=k vs H0' H' t r
 dsimp only at this
 rw [List.append_nil] at this
 exact Cv this
end
section
variable {X:Cx} {e:Expr} {es:List Expr} {fs:List Dm.FE} {p pos:Pos}
theorem jL {k:Nat} {F:Addr} {fd:FuncData} {ps:List Str} {g:List Dm.Dat→Option Dm.RV} {x:Str} {c:Int} {tk:Tok} (G:aQ X.prog X.w X.K X.mg X.base CX0 k F fd ps (spD g)) (hr:bf k X.A) (hg:Gl X x) (hm:X.mg x=some (.ref F)) (hk:PySem.W.keepIn X.K (.ref F)=true) (hb:Binds X.K fd ps [.int c tk])
  (ha:DA X (e::es) fs) (hdb:(x == ("__debug__" : Str))=false:=by decide) (he:starEach (e::es) X.env=(false,eval e X.env)::starEach es X.env:=by rfl) (hpl:(backTo pos (starEach es X.env)).any (·.1)=false:=by rfl) :
  DE X (.Call (.Name x p) (e::es) [] pos) (Dm.eF (fun ds=>g (ds++[.int c])) fs):=PE.weak (jH G hr hg hm hk hb (dvs:=[.int c]) (.cons (show RelV (.int c) (.int c tk) from ⟨tk,rfl⟩) .nil) (pG (X:=X)) ha hdb he hpl) fun _ _ _=>Cw
end
end Br
namespace Dm
noncomputable abbrev FN:=Env→List (List Dat)→Option (Env×List (List Dat))
noncomputable def nNx:FN:=fun ρ r=>some (ρ,r)
noncomputable def wU (s u:FN):FN:=fun ρ r=>match s ρ r with
 | none=>none
 | some (ρ1,r1)=>u ρ1 r1
noncomputable def nIf (t:FT) (a b:FN):FN:=fun ρ r=>match t ρ with
 | none=>none
 | some (true,ρ1)=>a ρ1 r
 | some (false,ρ1)=>b ρ1 r
noncomputable def sN (i e:FE):FN:=fun ρ r=>match i ρ with
 | some (.val (.int k),ρ1)=>(match ixN r.length k with
  | none=>none
  | some m=>match r[m]? with
   | none=>none
   | some row=>match e ρ1 with
    | none=>none
    | some (x,ρ2)=>match tk ρ2 x with
     | none=>none
     | some (d,ρ3)=>if row.length<SZ then some (ρ3,r.set m (row++[d])) else none)
 | _=>none
noncomputable def jo (bd:FB) (body:FN):List Dat→FN
 | [],ρ,r=>some (ρ,r)
 | d::q,ρ,r=>match bd d ρ with
  | none=>none
  | some ρ1=>match body ρ1 r with
   | none=>none
   | some (ρ2,r2)=>jo bd body q ρ2 r2
noncomputable def sO (it:FI) (bd:FB) (body:FN):FN:=fun ρ r=>match it ρ with
 | none=>none
 | some (ds,ρ1)=>jo bd body ds ρ1 r
noncomputable def nMk (bd:FB):List Dat→Env→Option Env
 | [],ρ=>some ρ
 | d::r,ρ=>match bd d ρ with
  | none=>none
  | some ρ1=>nMk bd r ρ1
noncomputable def ko (j:Nat) (it:FI) (own:Nat) (bd:FB) (loop:FN):FS:=fun ρ=>if j=0 then none else match it ρ with
 | none=>none
 | some (ds,ρ1)=>if ds.length≤SZ then (match nMk bd ds (ρ1++List.replicate own .un) with
  | none=>none
  | some ρ2=>match loop ((ρ2.take ρ1.length).set j .un) (List.replicate ds.length []) with
   | none=>none
   | some (ρ3,r)=>some (.nx (ρ3.set j (.ow (.lst (r.map .lst)))))) else none
noncomputable def iX:List Dat→Option RV
 | [.dct ks _]=>if ks.length≤63 then some (.new (.lst ((dP (fun a b=>decide (a<b)) ks).map .int))) else none
 | _=>none
noncomputable def p5:List Dat→Option RV
 | [.dct ks vs]=>some (.new (.dct ks vs))
 | _=>none
noncomputable def dG:List Int→List Dat→Int→List Int
 | k::ks,_::vs,i=>if k=i then dG ks vs i else k::dG ks vs i
 | _,_,_=>[]
noncomputable def dH:List Int→List Dat→Int→List Dat
 | k::ks,v::vs,i=>if k=i then dH ks vs i else v::dH ks vs i
 | _,_,_=>[]
noncomputable def kq (i:Nat) (e:FE):FE:=fun ρ=>match ρ[i]? with
 | some (.ow (.dct _ _))=>(match e ρ with
  | some (.val (.int k),ρ1)=>(match ρ1[i]? with
   | some (.ow (.dct ks vs))=>(match bu ks vs k with
    | some d=>some (.val d,ρ1.set i (.ow (.dct (dG ks vs k) (dH ks vs k))))
    | none=>none)
   | _=>none)
  | _=>none)
 | _=>none
mutual
noncomputable def bA:Dat→Bool
 | .tup xs=>eN xs
 | .lst xs=>eN xs
 | .dct _ _=>false
 | .exc _=>false
 | _=>true
noncomputable def eN:List Dat→Bool
 | []=>true
 | x::r=>bA x&&eN r
end
noncomputable def tkd (ρ:Env):Val→Option (Dat×Env)
 | .val d=>some (d,ρ)
 | .new d=>some (d,ρ)
 | .slot i=>match ρ[i]? with
  | some (.ow (.dct ks vs))=>some (.dct ks vs,ρ)
  | some (.ow d)=>some (d,ρ.set i (.sh d))
  | some (.sh d)=>some (d,ρ)
  | _=>none
noncomputable def sP (ρ:Env):List Val→Option (List Dat×Env)
 | []=>some ([],ρ)
 | x::r=>match tkd ρ x with
  | none=>none
  | some (d,ρ1)=>match sP ρ1 r with
   | none=>none
   | some (ds,ρ2)=>some (d::ds,ρ2)
noncomputable def eFd (f:List Dat→Option RV) (as:List FE):FE:=fun ρ=>match eAs as ρ with
 | none=>none
 | some (xs,ρ1)=>match sP ρ1 xs with
  | none=>none
  | some (ds,ρ2)=>match f ds with
   | none=>none
   | some v=>if bA v.dat then some (v.bq,ρ2) else none
end Dm
namespace Br
open PySem PySem.Spec PyProof.Rows L2
noncomputable def aS (H0 H:Hp):List Addr→List (List Dm.Dat)→Prop
 | [],[]=>True
 | p::ps,r::rs=>(∃ xs,H p=some (.lst xs)∧aC H0 xs r)∧aS H0 H ps rs
 | _,_=>False
theorem aS.len {H0 H:Hp}:∀ {ps:List Addr} {rs:List (List Dm.Dat)},aS H0 H ps rs→ps.length=rs.length
 | [],[],_=>rfl
 | _::_,_::_,h=>by simp [aS.len h.2]
theorem aS.get {H0 H:Hp}:∀ {ps:List Addr} {rs:List (List Dm.Dat)} {i:Nat} {r:List Dm.Dat},aS H0 H ps rs→rs[i]?=some r→∃ p xs,ps[i]?=some p∧H p=some (.lst xs)∧aC H0 xs r
 | [],[],_,_,_,e=>by simp at e
 | p::_,_::_,0,_,h,e=>by simp at e;subst e;obtain ⟨xs,h1,h2⟩:=h.1;exact ⟨p,xs,rfl,h1,h2⟩
 | _::_,_::_,i+1,_,h,e=>by
  obtain ⟨p,xs,h1,h2⟩:=aS.get (i:=i) h.2 (by simpa using e)
  exact ⟨p,xs,by simpa using h1,h2⟩
theorem aS.mono {H0 H H0' H':Hp}:∀ {ps:List Addr} {rs:List (List Dm.Dat)},aS H0 H ps rs→ak H0 H0'→(∀ p∈ps,H' p=H p)→aS H0' H' ps rs
 | [],[],_,_,_=>trivial
 | p::ps,r::rs,h,s,k=>by
  obtain ⟨⟨xs,h1,h2⟩,h3⟩:=h
  exact ⟨⟨xs,by rw [k p List.mem_cons_self];exact h1,h2.mono s⟩,aS.mono h3 s fun q hq=>k q (List.mem_cons_of_mem _ hq)⟩
theorem aS.set {H0 H:Hp} {p:Addr} {xs:List V} {r:List Dm.Dat} (w:aC H0 xs r):∀ {ps:List Addr} {rs:List (List Dm.Dat)} {i:Nat},aS H0 H ps rs→ps.Nodup→ps[i]?=some p→aS H0 (upd H p (.lst xs)) ps (rs.set i r)
 | [],[],_,_,_,e=>by simp at e
 | q::ps,_::rs,0,h,n,e=>by
  simp at e
  subst e
  refine ⟨⟨xs,az,w⟩,h.2.mono (ak.refl _) fun y hy=>av fun z=>?_⟩
  subst z
  exact (List.nodup_cons.mp n).1 hy
 | q::ps,_::rs,i+1,h,n,e=>by
  have e':ps[i]?=some p:=by simpa using e
  obtain ⟨⟨ys,h1,h2⟩,h3⟩:=h
  obtain ⟨n1,n2⟩:=List.nodup_cons.mp n
  refine ⟨⟨ys,?_,h2⟩,aS.set w h3 n2 e'⟩
  rw [av fun z=>?_]
  ·exact h1
  ·subst z
   exact n1 (List.mem_of_getElem? e')
theorem aS.some {H0 H:Hp}:∀ {ps:List Addr} {rs:List (List Dm.Dat)},aS H0 H ps rs→∀ p∈ps,∃ o,H p=some o
 | [],[],_,_,h=>by cases h
 | q::ps,_::rs,h,p,hp=>by
  rcases List.mem_cons.mp hp with rfl | hp
  ·obtain ⟨xs,h1,_⟩:=h.1;exact ⟨_,h1⟩
  ·exact aS.some h.2 p hp
structure NS (j:Nat) (σs:L2.St) (ρs:Dm.Env) (H0s Hs:Hp) (σ:L2.St) (ρ:Dm.Env) (H0 H:Hp) (rows:List (List Dm.Dat)):Prop where
 st:aA H0 H σ ρ
 stp:Stp (aj σs ρs) H0s Hs H0 H
 own:∀ a,aj σ ρ a→aj σs ρs a∨Hs a=none
 fx:σ[0]?=σs[0]?
 ex:∃ (L:Addr) (ps:List Addr),σ[j]?=some (some (.ref L))∧Hs L=none∧H0 L=none∧¬ aj σ ρ L∧H L=some (.lst (ps.map V.ref))∧(L::ps).Nodup∧(∀ p∈ps,Hs p=none∧H0 p=none∧¬ aj σ ρ p)∧aS H0 H ps rows
theorem NS.est {j:Nat} {σs:L2.St} {ρs:Dm.Env} {H0s Hs:Hp} {σ:L2.St} {ρ ρ':Dm.Env} {H0 H H0' H':Hp} {rows:List (List Dm.Dat)} (n:NS j σs ρs H0s Hs σ ρ H0 H rows) (t:ESt σ ρ H0 H ρ' H0' H'):NS j σs ρs H0s Hs σ ρ' H0' H' rows:=by
 obtain ⟨L,ps,h1,h2,h3,h4,h5,h6,h7,h8⟩:=n.ex
 obtain ⟨k1,k2,k3⟩:=t.cG h5 h3 h4
 refine ⟨t.st,n.stp.trans t.stp n.own,fun a z=>n.own a (t.own a z),n.fx,L,ps,h1,h2,k2,k3,k1,h6,fun p hp=>?_,h8.mono t.stp.s0 fun p hp=>?_⟩
 ·obtain ⟨q1,q2,q3⟩:=h7 p hp
  obtain ⟨o,q4⟩:=h8.some p hp
  obtain ⟨z1,z2,z3⟩:=t.cG q4 q2 q3
  exact ⟨q1,z2,z3⟩
 ·obtain ⟨q1,q2,q3⟩:=h7 p hp
  obtain ⟨o,q4⟩:=h8.some p hp
  obtain ⟨z1,z2,z3⟩:=t.cG q4 q2 q3
  rw [z1,q4]
theorem NS.bind {j:Nat} {σs:L2.St} {ρs:Dm.Env} {H0s Hs:Hp} {σ σ':L2.St} {ρ ρ':Dm.Env} {H0 H:Hp} {rows:List (List Dm.Dat)} (n:NS j σs ρs H0s Hs σ ρ H0 H rows) (st:aA H0 H σ' ρ') (o:∀ a,aj σ' ρ' a→aj σ ρ a) (hj:σ'[j]?=σ[j]?) (h0:σ'[0]?=σ[0]?):NS j σs ρs H0s Hs σ' ρ' H0 H rows:=by
 obtain ⟨L,ps,h1,h2,h3,h4,h5,h6,h7,h8⟩:=n.ex
 exact ⟨st,n.stp,fun a z=>n.own a (o a z),h0.trans n.fx,L,ps,hj.trans h1,h2,h3,fun z=>h4 (o L z),h5,h6,fun p hp=>⟨(h7 p hp).1,(h7 p hp).2.1,fun z=>(h7 p hp).2.2 (o p z)⟩,h8⟩
noncomputable def p6 (H0 H:Hp) (ps:List Addr):Hp:=fun b=>if b∈ps then H b else H0 b
theorem n6 {H0 H:Hp} {ps:List Addr} {b:Addr} (h:b∈ps):p6 H0 H ps b=H b:=by unfold p6;rw [if_pos h]
theorem eO {H0 H:Hp} {ps:List Addr} {b:Addr} (h:b∉ps):p6 H0 H ps b=H0 b:=by unfold p6;rw [if_neg h]
theorem wV {H0 H:Hp} {ps:List Addr} (s:ak H0 H):ak H0 (p6 H0 H ps):=fun b o e=>by
 by_cases q:b∈ps
 ·rw [n6 q];exact s _ _ e
 ·rw [eO q];exact e
theorem zm {H0 H:Hp} {ps:List Addr} (s:ak H0 H):ak (p6 H0 H ps) H:=fun b o e=>by
 by_cases q:b∈ps
 ·rw [n6 q] at e;exact e
 ·rw [eO q] at e;exact s _ _ e
theorem aS.reps {H0 H H1:Hp}:∀ {ps:List Addr} {rs:List (List Dm.Dat)},aS H0 H ps rs→ak H0 H1→(∀ p∈ps,H1 p=H p)→aC H1 (ps.map V.ref) (rs.map Dm.Dat.lst)
 | [],[],_,_,_=>.nil
 | p::ps,r::rs,h,s,k=>by
  obtain ⟨⟨xs,h1,h2⟩,h3⟩:=h
  exact .cons (.lst (.inl ((k p List.mem_cons_self).trans h1)) (h2.mono s)) (aS.reps h3 s fun q hq=>k q (List.mem_cons_of_mem _ hq))
theorem NS.done {j:Nat} {σs:L2.St} {ρs:Dm.Env} {H0s Hs:Hp} {σ:L2.St} {ρ:Dm.Env} {H0 H:Hp} {rows:List (List Dm.Dat)} (n:NS j σs ρs H0s Hs σ ρ H0 H rows):∃ H0',SSt σs ρs H0s Hs σ (ρ.set j (.ow (.lst (rows.map Dm.Dat.lst)))) H0' H:=by
 obtain ⟨L,ps,h1,h2,h3,h4,h5,h6,h7,h8⟩:=n.ex
 obtain ⟨n1,n2⟩:=List.nodup_cons.mp h6
 have ss:=wV (ps:=ps) n.st.same
 have st:aA (p6 H0 H ps) H σ ρ:={
  same:=zm n.st.same
  len:=n.st.len
  sh:=fun i d h=>by
   obtain ⟨v,z,r⟩:=n.st.sh i d h
   exact ⟨v,z,r.mono ss⟩
  ow:=fun i d h=>by
   obtain ⟨b,z,q,w⟩:=n.st.ow i d h
   have nb:b∉ps:=fun y=>(h7 b y).2.2 ⟨i,d,h,z⟩
   exact ⟨b,z,by rw [eO nb];exact q,w.mono ss rfl⟩
  dis:=n.st.dis }
 refine ⟨p6 H0 H ps,st.iV h1 h4 (by rw [eO n1];exact h3) ⟨_,h5,h8.reps ss fun p hp=>n6 hp⟩,⟨n.stp.s0.trans ss,n.stp.s1,fun a o e=>?_,n.stp.s3⟩,fun a z=>?_,n.fx⟩
 ·by_cases q:a∈ps
  ·exact .inl (h7 a q).1
  ·rw [eO q] at e;exact n.stp.s2 a o e
 ·obtain ⟨i,d,z1,z2⟩:=z
  by_cases q:j=i
  ·subst q
   rw [h1] at z2
   cases z2
   exact .inr h2
  ·rw [List.getElem?_set_ne q] at z1
   exact n.own a ⟨i,d,z1,z2⟩
noncomputable def tDN (j:Nat) (f:Dm.FN):TS:=fun D σ H=>∃ σs ρs H0s Hs H0 ρ rows ρ' rows',NS j σs ρs H0s Hs σ ρ H0 H rows∧f ρ rows=some (ρ',rows')∧∀ σ' H0' H',NS j σs ρs H0s Hs σ' ρ' H0' H' rows'→ak H0 H0'→D.nx σ' H'
section
variable {D:Ends} {σ:L2.St} {H:Hp} {j:Nat}
theorem J7 (h:tDN j Dm.nNx D σ H):xN D σ H:=by
 obtain ⟨σs,ρs,H0s,Hs,H0,ρ,rows,ρ',rows',n,e,k⟩:=h
 cases e
 exact k σ H0 H n (ak.refl _)
theorem GK {s u:Dm.FN} (h:tDN j (Dm.wU s u) D σ H):vY (tDN j s) (tDN j u) D σ H:=by
 obtain ⟨σs,ρs,H0s,Hs,H0,ρ,rows,ρ',rows',n,e,k⟩:=h
 unfold Dm.wU at e
 split at e
 ·cases e
 rename_i ρ1 r1 e1
 exact ⟨σs,ρs,H0s,Hs,H0,ρ,rows,ρ1,r1,n,e1,fun σ' H0' H' n' s1=>⟨σs,ρs,H0s,Hs,H0',ρ1,r1,ρ',rows',n',e,fun σ2 H2 Hc n2 s2=>k σ2 H2 Hc n2 (s1.trans s2)⟩⟩
theorem J8 {t:Dm.FT} {a b:Dm.FN} (h:tDN j (Dm.nIf t a b) D σ H):E_ (tDT t) (tDN j a) (tDN j b) D σ H:=by
 obtain ⟨σs,ρs,H0s,Hs,H0,ρ,rows,ρ',rows',n,e,k⟩:=h
 unfold Dm.nIf at e
 split at e
 ·cases e
 ·rename_i ρ1 e1
  refine ⟨H0,ρ,true,ρ1,n.st,e1,fun H1 Hb t1=>?_⟩
  dsimp only
  rw [if_pos rfl]
  exact ⟨σs,ρs,H0s,Hs,H1,ρ1,rows,ρ',rows',n.est t1,e,fun σ2 H2 Hc n2 s2=>k σ2 H2 Hc n2 (t1.stp.s0.trans s2)⟩
 ·rename_i ρ1 e1
  refine ⟨H0,ρ,false,ρ1,n.st,e1,fun H1 Hb t1=>?_⟩
  dsimp only
  rw [if_neg Bool.false_ne_true]
  exact ⟨σs,ρs,H0s,Hs,H1,ρ1,rows,ρ',rows',n.est t1,e,fun σ2 H2 Hc n2 s2=>k σ2 H2 Hc n2 (t1.stp.s0.trans s2)⟩
theorem GL {fi:Dm.FI} {bd:Dm.FB} {g:TG} {body:Dm.FN} {is:List Nat} (hb:BD is g bd) (hj:j∉is) (h:tDN j (Dm.sO fi bd body) D σ H):Fi (tDI fi) g (tDN j body) D σ H:=by
 obtain ⟨σs,ρs,H0s,Hs,H0,ρ,rows,ρ',rows',n,e,k⟩:=h
 unfold Dm.sO at e
 split at e
 ·cases e
 rename_i ys ρ1 e1
 refine ⟨H0,ρ,ys,ρ1,n.st,e1,fun J H00 Hb t1 jw=>?_⟩
 refine ⟨fun i m σ H=>∃ H0 ρ rows,NS j σs ρs H0s Hs σ ρ H0 H rows∧ak H00 H0∧m=ys.length-i∧i≤ys.length∧Dm.jo bd body (ys.drop i) ρ rows=some (ρ',rows'),
  ⟨ys.length,H00,ρ1,rows,n.est t1,ak.refl _,by simp,Nat.zero_le _,by simpa using e⟩,?_⟩
 rintro i m σ H ⟨H0,ρ,rows,n,s00,rfl,hi,e⟩
 obtain ⟨js,jg⟩:=jw H0 H s00 n.st.same
 by_cases hlt:i<ys.length
 ·have hd:ys[i]?=some ys[i]:=by simp [hlt]
  obtain ⟨g1,g2⟩:=jg i ys[i] hd
  rw [List.drop_eq_getElem_cons hlt] at e
  unfold Dm.jo at e
  refine .inr ⟨g1,fun σ' H'=>∃ H0 ρ rows,NS j σs ρs H0s Hs σ' ρ H0 H' rows∧ak H00 H0∧Dm.jo bd body (ys.drop (i+1)) ρ rows=some (ρ',rows'),?_,fun x H' y=>?_⟩
  ·rintro σ' H' ⟨H0',ρ2,r2,h1,h2,h3⟩
   exact ⟨ys.length-(i+1),by omega,H0',ρ2,r2,h1,h2,rfl,hlt,h3⟩
  ·obtain ⟨H0',gr,rx⟩:=g2 x H' y
   split at e
   ·cases e
   ·rename_i ρ2 e2
    have t2:=ESt.grow n.st gr
    have n2:=n.est t2
    refine hb H0' H' σ ρ ρ2 x ys[i] _ t2.st rx e2 fun σ2 st2 o2 k2 _ f2=>?_
    have n3:=n2.bind st2 o2 (k2 j hj) f2
    have s3:ak H00 H0':=s00.trans gr.s0
    split at e
    ·cases e
    ·rename_i ρ3 r3 e3
     refine ⟨σs,ρs,H0s,Hs,H0',ρ2,rows,ρ3,r3,n3,e3,fun σ4 H4 Hd n4 s4=>⟨H4,ρ3,r3,n4,s3.trans s4,e⟩⟩
 ·have e':i=ys.length:=by omega
  subst e'
  rw [List.drop_length] at e
  cases e
  exact .inl ⟨js _ (Nat.le_refl _),k σ H0 H n (t1.stp.s0.trans s00)⟩
theorem GN {K:PySem.W.Frag} {fi f:Dm.FE} (h:tDN j (Dm.sN fi f) D σ H):uq (tBM K "list" nQ (tOp (FL K) (mC j) (tD fi)) (tDA [f])) D σ H:=by
 obtain ⟨σs,ρs,H0s,Hs,H0,ρ,rows,ρ',rows',n,e,k⟩:=h
 unfold Dm.sN at e
 split at e
 case h_2=>cases e
 rename_i z ρ1 e1
 split at e
 ·cases e
 rename_i m em
 split at e
 ·cases e
 rename_i row er
 split at e
 ·cases e
 rename_i x ρ2 e2
 split at e
 ·cases e
 rename_i d ρ3 e3
 split at e
 case isFalse=>cases e
 rename_i hz
 cases e
 obtain ⟨L,ps0,h1,_⟩:=n.ex
 refine ⟨_,h1,H0,ρ,_,ρ1,n.st,e1,fun y H1 Hb t1 r1=>?_⟩
 have n1:=n.est t1
 obtain ⟨L',ps,q1,q2,q3,q4,q5,q6,q7,q8⟩:=n1.ex
 rw [h1] at q1
 cases q1
 obtain ⟨q,xs,hq,hqx,hqr⟩:=q8.get er
 have hqm:q∈ps:=List.mem_of_getElem? hq
 refine ⟨L,ps.map V.ref,z,V.ref q,rfl,Rep.isInt r1,.inl (.inl q5),?_,.inl ⟨rfl,xs,.inl (.inl hqx)⟩,?_⟩
 ·show (L2.ixN (ps.map V.ref).length z).bind (fun j=>(ps.map V.ref)[j]?)=_
  rw [List.length_map,q8.len,← F7,em]
  show (ps.map V.ref)[m]?=_
  rw [List.getElem?_map,hq]
  rfl
 refine ⟨H1,ρ1,[x],ρ2,n1.st,by unfold Dm.eAs;rw [e2];rfl,fun vs H2 Hc t2 r2=>?_⟩
 cases r2 with
 | cons r rr=>
  cases rr
  obtain ⟨H3,t3,b3,r3,_,_⟩:=take1 t2 (ak.refl _) r e3
  have n3:=n1.est t3
  obtain ⟨L',ps',w1,w2,w3,w4,w5,w6,w7,w8⟩:=n3.ex
  rw [h1] at w1
  cases w1
  obtain ⟨k1,_,_⟩:=t3.cG q5 q3 q4
  rw [k1] at w5
  have ep:ps'=ps:=by
   have:ps.map V.ref=ps'.map V.ref:=by injection w5 with z;injection z
   exact ((List.map_inj_right fun a b h=>by injection h).mp this).symm
  subst ep
  obtain ⟨q',ys,hq',hqy,J9⟩:=w8.get er
  rw [hq] at hq'
  cases hq'
  have nL:L≠q:=fun z=>(List.nodup_cons.mp w6).1 (z▸hqm)
  refine ⟨q,ys,_,rfl,rfl,hqy,by rw [J9.length];exact Nat.lt_of_lt_of_le hz (by decide),?_⟩
  obtain ⟨z1,z2,z3⟩:=w7 q hqm
  refine k σ H3 _ ⟨n3.st.aside z2 z3,n3.stp.aside z1,n3.own,n3.fx,L,ps',h1,w2,w3,w4,by rw [av nL];exact k1,w6,w7,aS.set (J9.append (.cons r3 .nil)) w8 (List.nodup_cons.mp w6).2 hq⟩ (t1.stp.s0.trans t3.stp.s0)
end
theorem zo {σ:L2.St} {own:Nat} {bd:Dm.FB} {g:TG} {is:List Nat} {Q:VK} {H00 Hb:Hp} {ρ1 ρ2:Dm.Env} {ds:List Dm.Dat} {J:It} (hb:BD is g bd) (hl:∀ i∈is,σ.length≤i)
  (st1:aA H00 Hb σ ρ1) (jw:JW J H00 ds) (hsz:ds.length≤Dm.SZ) (e2:Dm.nMk bd ds (ρ1++List.replicate own .un)=some ρ2) (D:Addr) (hD:Hb D=none)
  (k:∀ H0' H' (ps:List Addr),aA H0' H' σ (ρ2.take ρ1.length)→Stp (aj σ ρ1) H00 Hb H0' H'→(∀ a,aj σ (ρ2.take ρ1.length) a→aj σ ρ1 a)→H' D=some (.lst (ps.map V.ref))→H0' D=none→(D::ps).Nodup→(∀ p∈ps,Hb p=none∧H0' p=none) →
   aS H0' H' ps (List.replicate ds.length [])→Q (.ref D) H') :
  ∃ W:Nat→Nat→L2.St→Hp→Prop,(∃ m,W 0 m (σ++List.replicate own none) (upd Hb D (.lst [])))∧∀ i m σ' H',W i m σ' H' →
  (J.stop i H'∧Q (.ref D) H')∨(J.go i H'∧∀ x H2,J.yld i H' x H2→g x σ' H2 fun σ2 H3=>B3 σ2 H3 fun b H4=>if b=true
   then BN x8 σ2 H4 fun y H5=>∃ acc,H5 D=some (.lst acc)∧acc.length<sizeLine∧∃ m',m'<m∧W (i+1) m' σ2 (upd H5 D (.lst (acc++[y])))
   else ∃ m',m'<m∧W (i+1) m' σ2 H4):=by
 have noD:¬ aj σ ρ1 D:=st1.bP hD
 refine ⟨fun i m σ' H'=>∃ (H0c:Hp) (ρc:Dm.Env) (ps:List Addr),aA H0c H' σ' ρc∧ak H00 H0c∧m=ds.length-i∧i≤ds.length∧Dm.nMk bd (ds.drop i) ρc=some ρ2 ∧
  H' D=some (.lst (ps.map V.ref))∧ps.length=i∧H0c D=none∧(D::ps).Nodup∧(∀ p∈ps,Hb p=none∧H0c p=none)∧aS H0c H' ps (List.replicate i [])∧Stp (aj σ ρ1) H00 Hb H0c H'∧(∀ j,j<σ.length→σ'[j]?=σ[j]?)∧(∀ a,aj σ' ρc a→aj σ ρ1 a),
  ⟨ds.length,H00,ρ1++List.replicate own .un,[],(st1.aside (st1.same.free hD) noD).ext own,ak.refl _,by simp,Nat.zero_le _,by simpa using e2,az,rfl,st1.same.free hD,by simp,by simp,trivial,(Stp.refl _ _ _).aside hD,
   fun j hj=>List.getElem?_append_left hj,fun a z=>iP st1 z⟩,?_⟩
 rintro i m σ' H' ⟨H0c,ρc,ps,sc,s00,rfl,hi,ec,hDl,hpl,n0,nd,hps,hro,sp,hσ,ho⟩
 have nOc:¬ aj σ' ρc D:=fun z=>noD (ho D z)
 have nOp:∀ p∈ps,¬ aj σ' ρc p:=fun p hp z=>st1.bP (hps p hp).1 (ho p z)
 obtain ⟨js,jg⟩:=jw H0c H' s00 sc.same
 by_cases hlt:i<ds.length
 ·have hd:ds[i]?=some ds[i]:=by simp [hlt]
  obtain ⟨g1,g2⟩:=jg i ds[i] hd
  rw [List.drop_eq_getElem_cons hlt] at ec
  unfold Dm.nMk at ec
  refine .inr ⟨g1,fun y H2 yy=>?_⟩
  obtain ⟨H0',gr,rx⟩:=g2 y H2 yy
  split at ec
  ·cases ec
  rename_i ρ3 e3
  have t2:=ESt.grow sc gr
  obtain ⟨hD2,n02,no2⟩:=t2.cG hDl n0 nOc
  refine hb H0' H2 σ' ρc ρ3 y ds[i] _ t2.st rx e3 fun σ3 st3 o3 k3 d3 _=>?_
  unfold B3
  dsimp only
  rw [if_pos rfl]
  refine ⟨Nat.zero_le _,fun p hp=>?_⟩
  have hpD:p≠D:=fun z=>by rw [z,hD2] at hp;cases hp
  have noP:¬ aj σ3 ρ3 p:=st3.bP hp
  have J_:∀ q∈ps,q≠p:=fun q hq z=>by
   obtain ⟨o,h1⟩:=hro.some q hq
   have:=gr.s1 q o h1
   rw [z,hp] at this;cases this
  refine ⟨ps.map V.ref,by rw [av (Ne.symm hpD)];exact hD2,?_,ds.length-(i+1),by omega,H0',ρ3,ps++[p],?_,s00.trans gr.s0,rfl,hlt,ec,?_,by simp [hpl],n02,?_,?_,?_,?_,?_,?_⟩
  ·rw [List.length_map,hpl]
   unfold Dm.SZ at hsz
   exact Nat.lt_of_lt_of_le (Nat.lt_of_lt_of_le hlt hsz) (by decide)
  ·have no3:¬ aj σ3 ρ3 D:=fun z=>no2 (o3 D z)
   exact (st3.aside (st3.same.free hp) noP).aside n02 no3
  ·rw [az,List.map_append];rfl
  ·rw [← List.cons_append]
   refine List.nodup_append.mpr ⟨nd,by simp,fun a ha b hb=>?_⟩
   rw [List.mem_singleton.mp hb]
   rcases List.mem_cons.mp ha with rfl | ha
   ·exact Ne.symm hpD
   ·exact J_ a ha
  ·intro q hq
   rcases List.mem_append.mp hq with hq | hq
   ·refine ⟨(hps q hq).1,?_⟩
    obtain ⟨o,h1⟩:=hro.some q hq
    exact (t2.cG h1 (hps q hq).2 (nOp q hq)).2.1
   ·rw [List.mem_singleton.mp hq]
    exact ⟨(sp.trans t2.stp fun a z=>.inl (ho a z)).gone hp,st3.same.free hp⟩
  ·have base:aS H0' (upd (upd H2 p (.lst [])) D (.lst (ps.map V.ref++[V.ref p]))) ps (List.replicate i []):=hro.mono gr.s0 fun q hq=>by
    have hqD:q≠D:=fun z=>(List.nodup_cons.mp nd).1 (z▸hq)
    obtain ⟨o,h1⟩:=hro.some q hq
    rw [av hqD,av (J_ q hq),gr.s1 q o h1,h1]
   have app:∀ {H0 H:Hp} {ps:List Addr} {rs:List (List Dm.Dat)} {p:Addr},aS H0 H ps rs→H p=some (.lst [])→aS H0 H (ps++[p]) (rs++[[]]):=by
    intro H0 H ps rs p h1 h2
    induction ps generalizing rs with
    | nil=>cases rs with
     | nil=>exact ⟨⟨[],h2,.nil⟩,trivial⟩
     | cons _ _=>exact h1.elim
    | cons q ps ih=>cases rs with
     | nil=>exact h1.elim
     | cons r rs=>exact ⟨h1.1,ih h1.2⟩
   have:=app base (p:=p) (by rw [av hpD,az])
   rw [List.replicate_succ']
   exact this
  ·exact ((sp.trans t2.stp fun a z=>.inl (ho a z)).aside ((sp.trans t2.stp fun a z=>.inl (ho a z)).gone hp)).aside hD
  ·exact fun j hj=>(k3 j fun z=>Nat.not_lt.mpr (hl j z) hj).trans (hσ j hj)
  ·exact fun a z=>ho a (o3 a z)
 ·have e':i=ds.length:=by omega
  subst e'
  rw [List.drop_length] at ec
  cases ec
  refine .inl ⟨js _ (Nat.le_refl _),k H0c H' ps ?_ sp ?_ hDl n0 nd hps hro⟩
  all_goals
   have hlen:σ.length≤ρ2.length:=by
    rw [← sc.len]
    refine Nat.not_lt.mp fun z=>?_
    have q:=hσ σ'.length z
    rw [List.getElem?_eq_none (Nat.le_refl _),List.getElem?_eq_getElem z] at q
    cases q
   have tk:∀ {j:Nat} {c:Dm.Cell},(ρ2.take ρ1.length)[j]?=some c→j<σ.length∧ρ2[j]?=some c:=fun {j c} h=>by
    have hj:j<ρ1.length:=by
     have:=(List.getElem?_eq_some_iff.mp h).1
     rw [List.length_take] at this
     omega
    rw [List.getElem?_take_of_lt hj] at h
    exact ⟨by rw [st1.len];exact hj,h⟩
  ·refine ⟨sc.same,?_,fun j d h=>?_,fun j d h=>?_,fun j j' d d' a h1 h2 h3 h4=>?_⟩
   ·rw [List.length_take,← st1.len];omega
   ·obtain ⟨hj,h⟩:=tk h
    obtain ⟨v,q,r⟩:=sc.sh j d h
    exact ⟨v,(hσ j hj).symm.trans q,r⟩
   ·obtain ⟨hj,h⟩:=tk h
    obtain ⟨v,q,r⟩:=sc.ow j d h
    exact ⟨v,(hσ j hj).symm.trans q,r⟩
   ·obtain ⟨hj,h1⟩:=tk h1
    obtain ⟨hj',h2⟩:=tk h2
    exact sc.dis j j' d d' a h1 h2 ((hσ j hj).trans h3) ((hσ j' hj').trans h4)
  ·intro a ⟨j,d,h1,h2⟩
   obtain ⟨hj,h1⟩:=tk h1
   exact ho a ⟨j,d,h1,(hσ j hj).trans h2⟩
theorem ng {j own:Nat} {fi:Dm.FI} {bd:Dm.FB} {loop:Dm.FN} {ρ:Dm.Env} {z:Dm.Out} (q:Dm.ko j fi own bd loop ρ=some z):∃ ds ρ1 ρ2 ρ3 r3,j≠0∧fi ρ=some (ds,ρ1)∧ds.length≤Dm.SZ∧Dm.nMk bd ds (ρ1++List.replicate own .un)=some ρ2 ∧
  loop ((ρ2.take ρ1.length).set j .un) (List.replicate ds.length [])=some (ρ3,r3)∧z=.nx (ρ3.set j (.ow (.lst (r3.map .lst)))):=by
 unfold Dm.ko at q
 split at q
 ·cases q
 rename_i hj0
 split at q
 ·cases q
 rename_i ds ρ1 e1
 split at q
 case isFalse=>cases q
 rename_i hsz
 split at q
 ·cases q
 rename_i ρ2 e2
 split at q
 ·cases q
 rename_i ρ3 r3 e3
 cases q
 exact ⟨ds,ρ1,ρ2,ρ3,r3,hj0,e1,hsz,e2,e3,rfl⟩
theorem Cy {s u:Dm.FS} {ρ:Dm.Env} {o:Dm.Out} (hs:∀ z,s ρ=some z→∃ ρ',z=.nx ρ') (e:Dm.aD s u ρ=some o):∃ ρ1,s ρ=some (.nx ρ1)∧u ρ1=some o:=by
 cases q:s ρ with
 | none=>unfold Dm.aD at e;rw [q] at e;cases e
 | some z=>
  obtain ⟨ρ1,rfl⟩:=hs z q
  unfold Dm.aD at e
  rw [q] at e
  exact ⟨ρ1,rfl,e⟩
theorem GO {σ:L2.St} {H:Hp} {D:Ends} {j own:Nat} {fi:Dm.FI} {bd:Dm.FB} {g:TG} {is:List Nat} {loop:Dm.FN} {gs:Dm.FS} (hb:BD is g bd) (hl:∀ i∈is,σ.length≤i) (hj:j<σ.length) (h:tDS (Dm.aD (Dm.ko j fi own bd loop) gs) D σ H) :
  vY (vZ (tLC (tDI fi) own g B3 (BN x8)) (gP j)) (vY (tDN j loop) (tDS gs)) D σ H:=by
 obtain ⟨H0,ρ,o,st,e,k⟩:=h
 obtain ⟨ρ9,e9,e⟩:=Cy (fun z q=>by obtain ⟨_,_,_,_,_,_,_,_,_,_,z⟩:=ng q;exact ⟨_,z⟩) e
 obtain ⟨ds,ρ1,ρ2,ρ3,r3,hj0,e1,hsz,e2,e3,z9⟩:=ng e9
 cases z9
 refine ⟨H0,ρ,ds,ρ1,st,e1,fun J H00 Hb t1 jw L hL=>zo (Q:=fun x H1=>gP j x σ H1 (vY (tDN j loop) (tDS gs) D)) hb hl t1.st jw hsz e2 L hL fun H0' H' ps st' sp' ho' hDl n0 nd hps hro=>?_⟩
 have nL:¬ aj σ ρ1 L:=t1.st.bP hL
 have om:∀ a,aj (σ.set j (some (.ref L))) ((ρ2.take ρ1.length).set j .un) a→aj σ (ρ2.take ρ1.length) a:=fun a ⟨i,d,h1,h2⟩=>by
  rcases aP h1 with ⟨_,z⟩ | ⟨hij,h1⟩
  ·cases z
  ·rw [List.getElem?_set_ne (Ne.symm hij)] at h2
   exact ⟨i,d,h1,h2⟩
 have st2:aA H0' H' (σ.set j (some (.ref L))) ((ρ2.take ρ1.length).set j .un):={
  same:=st'.same
  len:=by rw [List.length_set,List.length_set];exact st'.len
  sh:=fun i d h=>by
   rcases aP h with ⟨_,z⟩ | ⟨hij,h⟩
   ·cases z
   ·obtain ⟨v,q,r⟩:=st'.sh i d h
    exact ⟨v,by rw [List.getElem?_set_ne (Ne.symm hij)];exact q,r⟩
  ow:=fun i d h=>by
   rcases aP h with ⟨_,z⟩ | ⟨hij,h⟩
   ·cases z
   ·obtain ⟨v,q,r⟩:=st'.ow i d h
    exact ⟨v,by rw [List.getElem?_set_ne (Ne.symm hij)];exact q,r⟩
  dis:=fun i i' d d' a h1 h2 h3 h4=>by
   rcases aP h1 with ⟨_,z⟩ | ⟨q1,h1⟩
   ·cases z
   rcases aP h2 with ⟨_,z⟩ | ⟨q2,h2⟩
   ·cases z
   rw [List.getElem?_set_ne (Ne.symm q1)] at h3
   rw [List.getElem?_set_ne (Ne.symm q2)] at h4
   exact st'.dis i i' d d' a h1 h2 h3 h4 }
 have sp:Stp (aj σ ρ) H0 H H0' H':=t1.stp.trans sp' fun a z=>.inl (t1.own a z)
 have n:NS j σ ρ H0 H (σ.set j (some (.ref L))) ((ρ2.take ρ1.length).set j .un) H0' H' (List.replicate ds.length []):=
  ⟨st2,sp,fun a z=>.inl (t1.own a (ho' a (om a z))),List.getElem?_set_ne hj0,L,ps,List.getElem?_set_self hj,t1.stp.gone hL,n0,fun z=>nL (ho' L (om L z)),hDl,nd,fun p hp=>⟨t1.stp.gone (hps p hp).1,(hps p hp).2,fun z=>t1.st.bP (hps p hp).1 (ho' p (om p z))⟩,hro⟩
 refine ⟨σ,ρ,H0,H,H0',_,_,ρ3,r3,n,e3,fun σ4 H4 Hd n4 _=>?_⟩
 obtain ⟨H5,t5⟩:=n4.done
 exact ⟨H5,_,o,t5.st,e,k.pre t5⟩
noncomputable abbrev DN (X:Cx) (j:Nat) (st:Stmt) (f:Dm.FN):Prop:=PS X st (tDN j f)
noncomputable abbrev DNs (X:Cx) (j:Nat) (st:List Stmt) (f:Dm.FN):Prop:=PSs X st (tDN j f)
section
variable {X:Cx} {st:Stmt} {rest:List Stmt} {fs gs:Dm.FN} {e c:Expr} {f:Dm.FE} {pos:Pos} {j:Nat}
theorem Ka:DNs X j [] Dm.nNx:=PSs.weak um fun _ _ _=>J7
theorem GP (h1:DN X j st fs) (h2:DNs X j rest gs):DNs X j (st::rest) (Dm.wU fs gs):=PSs.weak (gO h1 h2) fun _ _ _=>GK
theorem D8 (h1:DN X j st fs):DNs X j [st] fs:=uo h1
theorem L3 {t:Dm.FT} {x y:List Stmt} (ht:DT X c t) (ha:DNs X j x fs) (hb:DNs X j y gs):DN X j (.If c x y pos) (Dm.nIf t fs gs):=PS.weak (DC ht ha hb) fun _ _ _=>J8
theorem Kc {tg it:Expr} {fi:Dm.FI} {is:List Nat} {bd:Dm.FB} {body:List Stmt} (hp:PassesOwn (model X.prog X.w) X.A X.env X.xe) (hc:X.calm=true) (hi:DI X tg it fi) (hg:TG' X tg is bd) (hb:DNs X j body fs) (hj:decide (j∈is)=false:=by rfl)
  (hs:∀ x,foldedSetIterable it X.env x=pure x:=by intro _;rfl):DN X j (.For tg it body [] pos) (Dm.sO fi bd fs):=by
 obtain ⟨g,h1,h2⟩:=hg.ex
 exact PS.weak (xV hp hc hi h1 hb hs) fun _ _ _=>GL h2 (of_decide_eq_false hj)
theorem D9 {x:Str} {i:Expr} {fi:Dm.FE} {px sp ap cp:Pos} (hi':DE X i fi) (he:DE X e f) (hi:X.N[j]?=some x:=by rfl) (hv:Vis X.env.scope x:=by first | exact Or.inl rfl | exact Or.inr (Or.inl rfl) | exact Or.inr (Or.inr rfl)) (hd:(x == ("__debug__" : Str))=false:=by decide)
  (hcd:(x == ("__classdict__" : Str))=false:=by decide) (hpl:nM i:=by intro _ _;rfl) (hbase:attributeBase (.Subscript (.Name x px) i sp) "append" X.env (eval (.Subscript (.Name x px) i sp) X.env)=eval (.Subscript (.Name x px) i sp) X.env:=by rfl)
  (hfew:((backTo cp (starEach [e] X.env)).all (fun x=>!x.1)&&(backToKw cp (keywordEach [] X.env)).all (fun x=>x.1.isSome)
   && decide ([e].length+([]:List Keyword).length+(if ([]:List Keyword).isEmpty then 0 else 1)<30))=true:=by rfl)
  (hline:(ap.endLine == cp.line)=true:=by rfl) (hs:starEach [e] X.env=(false,eval e X.env)::starEach [] X.env:=by rfl) (hplain:(backTo cp (starEach [] X.env)).any (·.1)=false:=by rfl)
  (hsw:swapsWith (.Call (.Attribute (.Subscript (.Name x px) i sp) "append" ap) [e] [] cp) none pos.line X.env=pure false:=by rfl) :
  DN X j (.Expr (.Call (.Attribute (.Subscript (.Name x px) i sp) "append" ap) [e] [] cp) pos) (Dm.sN fi f):=
 PS.weak (nI (ya PySem.F.plainAttrs_list PySem.F.slot_list_append PySem.F.type_list_append iG (DM uy (dX hi hv hd hcd) hi' hpl) (aa he ah hs) hbase hfew hline hs hplain) hsw) fun _ _ _=>GN
theorem GQ (j:Nat) (nm own:List Str) {y:Str} {py spos GR:Pos} {tg iter:Expr} {scope:Scope} {is:List Nat} {bd:Dm.FB} {fi:Dm.FI} {loop:Dm.FN} {gs:Dm.FS} {lst:Stmt} (hN:X.N.Nodup) (hg:TGc X nm scope own tg is bd) (hi:DI X tg iter fi) (hlp:DN X j lst loop) (hre:DSs X rest gs)
  (hc:X.calm=true:=by rfl) (hk:scope.kind=.function:=by rfl) (hS:j7 X.env.scope X.N nm scope=true:=by rfl) (hl:(is.all fun i=>decide (X.N.length≤i))=true:=by rfl) (hj:X.N[j]?=some y:=by rfl) (hy:Loc X.env.scope y:=by first | exact Or.inl rfl | exact Or.inr rfl)
  (hsw:swapsWith (.ListComp (.List [] GR) [⟨tg,iter,[],0⟩] scope pos) (some (.Name y py)) spos.line X.env=pure true:=by rfl) (hs:∀ y,foldedSetIterable iter X.env y=pure y:=by intro _;rfl)
  (hf:X.fn y=true∨X.env.scope.names.lookup y=some .local:=by first | exact .inl rfl | exact .inr rfl | assumption) :
  DSs X (.Assign [.Name y py] (.ListComp (.List [] GR) [⟨tg,iter,[],0⟩] scope pos) spos::lst::rest) (Dm.aD (Dm.ko j fi own.length bd loop) gs):=by
 obtain ⟨g,h1,h2⟩:=hg.ex
 have h:=gO (ez hN hj hy hc (cj.of hS hk) hi h1 (fun cl C s H fp=>uF) (fun cl C s H fp=>x9 (pos:=GR) rX) hsw hs hf) (gO hlp hre)
 intro pins s σ H D I q
 exact h pins s σ H D I (GO h2 (fun i hi=>by rw [I.len];exact pV hl i hi) (by rw [I.len];exact (List.getElem?_eq_some_iff.mp hj).1) q)
end
theorem uR {H0:Hp} (i:Int):∀ {kvs:List (Key×V)} {ks:List Int} {ds:List Dm.Dat},kvs.map (·.1)=ks.map Sum.inl→aC H0 (kvs.map (·.2)) ds →
  (jb kvs (Sum.inl i)).map (·.1)=(Dm.dG ks ds i).map Sum.inl∧aC H0 ((jb kvs (Sum.inl i)).map (·.2)) (Dm.dH ks ds i)
 | [],[],ds,_,r=>by
  cases r
  exact ⟨rfl,.nil⟩
 | [],_::_,_,e,_=>by cases e
 | _::_,[],_,e,_=>by cases e
 | (k,v)::kvs,k'::ks,ds,e,r=>by
  rw [List.map_cons,List.map_cons] at e
  injection e with e1 e2
  cases r with
  | cons h t=>
   obtain ⟨i1,i2⟩:=uR i e2 t
   unfold jb at i1 i2 ⊢
   dsimp only at e1
   subst e1
   by_cases q:k'=i
   ·subst q
    rw [List.filter_cons_of_neg (by simp),Dm.dG,if_pos rfl,Dm.dH,if_pos rfl]
    exact ⟨i1,i2⟩
   ·have q':¬ (Sum.inl k':Key)=Sum.inl i:=n5 q
    rw [List.filter_cons_of_pos (by simpa using q'),Dm.dG,if_neg q,Dm.dH,if_neg q]
    exact ⟨by rw [List.map_cons,List.map_cons,i1],by rw [List.map_cons];exact .cons h i2⟩
section
variable {σ:L2.St} {H:Hp} {Q:VK}
theorem GS {i:Nat} {f:Dm.FE} (h:tD (Dm.kq i f) σ H Q):ym (mC i) (tD f) σ H Q:=by
 obtain ⟨H0,ρ,x,ρ',st,e,k⟩:=h
 unfold Dm.kq at e
 split at e
 case h_2=>cases e
 rename_i ks0 vs0 h0
 split at e
 case h_2=>cases e
 rename_i m ρ1 e1
 split at e
 case h_2=>cases e
 rename_i ks vs h1
 split at e
 case h_2=>cases e
 rename_i d hl
 cases e
 obtain ⟨a0,q0,n0,GG,y0,_⟩:=st.ow i _ h0
 refine ⟨_,q0,a0,rfl,.inl ⟨GG,.inl y0⟩,H0,ρ,_,ρ1,st,e1,fun u H1 Hb t1 r1=>?_⟩
 have hu:=Rep.isInt r1
 subst hu
 obtain ⟨a,q,n,w⟩:=t1.st.ow i _ h1
 rw [q0] at q
 cases q
 obtain ⟨kvs,y,ek,rs⟩:=w
 rcases ff m ek rs with ⟨d',v,l1,l2,r⟩ | ⟨l1,_⟩
 ·rw [hl] at l1
  cases l1
  obtain ⟨p1,p2⟩:=uR m ek rs
  have ow:aj σ ρ1 a0:=⟨i,_,h1,q0⟩
  have hil:i<ρ1.length:=(List.getElem?_eq_some_iff.mp h1).1
  refine ⟨kvs,Sum.inl m,v,y,rfl,l2,k v H1 _ ⟨t1.st.write h1 q0 ⟨_,az,p1,p2⟩,t1.stp.trans (Stp.write ow) fun b z=>.inl (t1.own b z),fun b z=>t1.own b (b_ h1 z),fun j z=>trivial⟩ r⟩
 ·rw [hl] at l1;cases l1
end
theorem sQ {X:Cx}:cM X (.type "dict") (fun xs H Q=>∃ a kvs,xs=[.ref a]∧H a=some (.dK kvs)∧∀ p,H p=none→Q (.ref p) (upd H p (.dK kvs))):=by
 intro pins s σ H xs us Q I r h
 obtain ⟨a,kvs,rfl,ha,k⟩:=h
 obtain ⟨u,rfl,rx⟩:=vals1 r
 cases rx
 exact yq I (.inl ha) fun p s' hp I'=>⟨.ref p,_,I',rfl,k p hp⟩
theorem Cz:CallD (fun xs H Q=>∃ a kvs,xs=[.ref a]∧H a=some (.dK kvs)∧∀ p,H p=none→Q (.ref p) (upd H p (.dK kvs))) Dm.p5:=by
 intro H0 H vs ds z Q s rs e k
 unfold Dm.p5 at e
 split at e
 ·cases e
  cases rs with
  | cons r rr=>
   cases rr
   obtain ⟨a,kvs,rfl,ha,ek,rs⟩:=cI s r
   refine ⟨a,kvs,rfl,ha,fun p hp=>k _ _ _ (aM.mJ s hp) ⟨p,rfl,hp,s.free hp,kvs,az,ek,rs⟩⟩
 ·cases e
theorem kr:∀ (its:List Value) (ns:List Int),its.length=ns.length→(∀ (i:Nat) (v:Value),its[i]?=some v→∃ n,ns[i]?=some n∧∃ t,v=Value.int n t)→IntsAre its ns
 | [],[],_,_=>.nil
 | [],_::_,h,_=>by cases h
 | _::_,[],h,_=>by cases h
 | v::its,n::ns,h,k=>by
  obtain ⟨m,h1,t,h2⟩:=k 0 v rfl
  simp at h1
  subst h1
  subst h2
  exact .cons n t (kr its ns (by simpa using h) fun i v e=>by
   obtain ⟨m,q1,q2⟩:=k (i+1) v (by simpa using e)
   exact ⟨m,by simpa using q1,q2⟩)
theorem uS:∀ {kvs:List (Key×V)} {vs:List (Key×Value)},KV kvs vs→vs.map (·.1)=kvs.map (·.1)
 | _,_,.nil=>rfl
 | _,_,.cons h t=>by rw [List.map_cons,List.map_cons,uS t,h.1]
theorem cU:∀ {its:List Value} {ns:List Int},IntsAre its ns→Vals (ns.map V.int) its
 | _,_,.nil=>.nil
 | _,_,.cons n t h=>.cons ⟨t,rfl⟩ (cU h)
noncomputable def zp:List V→Hp→VK→Prop:=fun xs H Q=>∃ (p:Addr) (kvs:List (Key×V)) (ns:List Int),xs=[.ref p]∧H p=some (.dK kvs)∧kvs.map (·.1)=ns.map Sum.inl∧ns.length≤63 ∧
 ∀ (ms:List Int) (l:Addr),ms.Perm ns→ms.Pairwise (·≤·)→H l=none→Q (.ref l) (upd H l (.lst (ms.map V.int)))
theorem sS {X:Cx} (hc:X.calm=true):cM X (.builtin "sorted") zp:=by
 intro pins s σ H xs us Q I r h
 obtain ⟨p,kvs,ns,rfl,hq,ek,hl,k⟩:=h
 obtain ⟨u,rfl,rx⟩:=vals1 r
 cases rx
 obtain ⟨z,hd,vs,rel,dd⟩:=uA I.hok hq
 obtain ⟨ep,hat⟩:=dd.dictAt
 have hlen:vs.length=ns.length:=by
  rw [← rel.length]
  have:=congrArg List.length ek
  simpa using this
 have hns:vs.length≤sizeLine:=by rw [← rel.length];exact z
 refine Calls.call_function_entry kind_sorted plain_sorted entry_sorted (args_sorted1 _) ?_
 unfold Builtin.«sorted»
 refine wpAny_bind (m:=checkCount "sorted" 1 1 _) (wpAny_pure ?_)
 refine wpAny_bind (PySem.W.kdu_collect (A:=X.A.in1) (PySem.W.kdl_dict (knd:=aT X.prog X.w) (kvs:=vs) (ep:=ep) hd) (I.ok.hd hc) hat hns fun h' tk acc hk hacc=>?_)
 have hsz:acc.toList.length=ns.length:=by rw [Array.length_toList,hacc.1,hlen]
 have hI:IntsAre acc.toList ns:=kr _ _ hsz fun i v e=>by
  obtain ⟨ky,x,h1,h2⟩:=hacc.2 i v (by rw [← Array.getElem?_toList];exact e)
  have hk1:(vs.map (·.1))[i]?=some ky:=by rw [List.getElem?_map,h1];rfl
  rw [uS rel,ek,List.getElem?_map] at hk1
  cases q:ns[i]? with
  | none=>rw [q] at hk1;cases hk1
  | some n=>
   rw [q] at hk1
   cases hk1
   exact ⟨n,rfl,(Value.isInt_shape (k:=n) (v:=v) h2)⟩
 have hn:acc.toList.length≤63:=by rw [hsz];exact hl
 refine wpAny_bind (wpAny_newList ?_ (Nat.le_trans hn (by decide)))
 have hL0:(h'.push (seqObj "list" acc.toList.toArray 0)).get? h'.objs.size=some (seqObj "list" acc.toList.toArray 0):=Heap.get?_push_size _ rfl
 have I1:=I.kept (t':=tk) hk
 refine wpAny_bind (wpAny_holding (wpAny_call_entry (s:={ s with heap:=h'.push (seqObj "list" acc.toList.toArray 0),toks:=tk }) slot_list_sort ⟨_,hL0,rfl⟩ entry_list_sort (list_sort_tree hL0 hI (by omega) fun out ms a1 a2 a3=>⟨_,rfl,?_⟩) (args_list_sort _)))
 obtain ⟨c,hc'⟩:=sortedHeap_at (out:=out) hL0
 have hz2:(ms.map V.int).length≤sizeLine:=by rw [List.length_map,a2.length_eq];exact Nat.le_trans hl (by decide)
 refine wpAny_pure ⟨_,rfl,.ref h'.objs.size,_,I1.laid (t':=tk) (fun b o e=>?_) (Nat.le_refl _) (show aY X.prog X.w _ _ _ (.lst (ms.map V.int)) from ⟨hz2,out.toList,c,cU a1,by simpa using hc'⟩),rfl,k ms _ a2 a3 (I1.hok.fresh (Nat.le_refl _))⟩
 have lt:=Heap.lt_size e
 rw [sortedHeap_old (Nat.ne_of_lt lt) (by rw [size_push'];exact Nat.lt_succ_of_lt lt)]
 exact Heap.get?_push_of_some _ e
theorem zq:CallD zp Dm.iX:=by
 intro H0 H vs ds z Q s rs e k
 unfold Dm.iX at e
 split at e
 ·rename_i ks vs'
  split at e
  case isFalse=>cases e
  rename_i hl
  cases e
  cases rs with
  | cons r rr=>
   cases rr
   obtain ⟨a,kvs,rfl,ha,ek,rs⟩:=cI s r
   refine ⟨a,kvs,ks,rfl,ha,ek,hl,fun ms l pm so hp=>?_⟩
   have em:ms=Dm.dP (fun a b=>decide (a<b)) ks:=Dm.jn (lt:=fun a b=>decide (a<b)) (fun a b h1 h2=>by simp at h1 h2;omega) (pm.trans (Dm.dD _ ks).symm) (so.imp fun {a b} h=>by simp;omega)
    (Dm.dF (fun a b c h1 h2=>by simp at *;omega) (fun a b h=>by simp at *;omega) ks)
   exact k _ _ _ (aM.mJ s hp) ⟨l,rfl,hp,s.free hp,_,az,by rw [← em];exact nc ms⟩
 ·cases e
theorem GU {ρ ρ':Dm.Env} {x:Dm.Val} {d:Dm.Dat} (e:Dm.tkd ρ x=some (d,ρ')):Dm.tk ρ x=some (d,ρ')∨∃ i ks vs,x=.slot i∧ρ[i]?=some (.ow (.dct ks vs))∧d=.dct ks vs∧ρ'=ρ:=by
 cases x with
 | val d'=>exact .inl e
 | new d'=>exact .inl e
 | slot i=>
  unfold Dm.tkd at e
  dsimp only at e
  split at e
  ·rename_i ks vs h
   cases e
   exact .inr ⟨i,ks,vs,rfl,h,rfl,rfl⟩
  ·rename_i d' _ h
   left
   unfold Dm.tk
   dsimp only
   rw [h]
   exact e
  ·rename_i d' h
   left
   unfold Dm.tk
   dsimp only
   rw [h]
   exact e
  ·cases e
theorem zu {ρ ρ':Dm.Env} {x:Dm.Val} {d:Dm.Dat} {i:Nat} {ks:List Int} {vs:List Dm.Dat} (e:Dm.tkd ρ x=some (d,ρ')) (h:ρ[i]?=some (.ow (.dct ks vs))):ρ'[i]?=some (.ow (.dct ks vs)):=by
 cases x with
 | val d'=>cases e;exact h
 | new d'=>cases e;exact h
 | slot j=>
  unfold Dm.tkd at e
  dsimp only at e
  split at e
  ·cases e;exact h
  ·rename_i d' hn hj
   cases e
   by_cases q:j=i
   ·subst q
    rw [h] at hj
    cases hj
    exact absurd rfl (hn ks vs)
   ·rw [List.getElem?_set_ne q];exact h
  ·cases e;exact h
  ·cases e
theorem nh {i:Nat} {ks:List Int} {vs:List Dm.Dat}:∀ {xs:List Dm.Val} {ρ ρ':Dm.Env} {ds:List Dm.Dat},Dm.sP ρ xs=some (ds,ρ')→ρ[i]?=some (.ow (.dct ks vs))→ρ'[i]?=some (.ow (.dct ks vs))
 | [],_,_,_,e,h=>by cases e;exact h
 | x::xs,ρ,ρ',ds,e,h=>by
  unfold Dm.sP at e
  split at e
  ·cases e
  rename_i d ρ1 e1
  split at e
  ·cases e
  rename_i ds' ρ2 e2
  cases e
  exact nh e2 (zu e1 h)
noncomputable def L4 (H0:Hp) (σ:L2.St) (ρ:Dm.Env) (v:V) (d:Dm.Dat):Prop:=Rep H0 v d∨∃ (i:Nat) (b:Addr) (ks:List Int) (vs:List Dm.Dat),d=.dct ks vs∧v=.ref b∧ρ[i]?=some (.ow (.dct ks vs))∧σ[i]?=some (some (.ref b))
inductive p7 (H0:Hp) (σ:L2.St) (ρ:Dm.Env):List V→List Dm.Dat→Prop
 | nil:p7 H0 σ ρ [] []
 | cons {v:V} {d:Dm.Dat} {vs:List V} {ds:List Dm.Dat}:L4 H0 σ ρ v d→p7 H0 σ ρ vs ds→p7 H0 σ ρ (v::vs) (d::ds)
theorem sU {Hs H0s H0 H:Hp} {σ:L2.St} {ρs:Dm.Env}:∀ {xs:List Dm.Val} {vs:List V} {ρ ρ':Dm.Env} {ds:List Dm.Dat} {H0c:Hp},ESt σ ρs H0s Hs ρ H0c H→ak H0 H0c→cF Hs H0 H σ ρ vs xs→Dm.sP ρ xs=some (ds,ρ') →
  ∃ jX,ESt σ ρs H0s Hs ρ' jX H∧ak H0c jX∧p7 jX σ ρ' vs ds
 | [],_,ρ,ρ',ds,H0c,t,b,r,e=>by
  cases r
  cases e
  exact ⟨H0c,t,ak.refl _,.nil⟩
 | x::xs,_,ρ,ρ',ds,H0c,t,b,r,e=>by
  cases r with
  | cons h r=>
   unfold Dm.sP at e
   split at e
   ·cases e
   ·rename_i d ρ1 e1
    split at e
    ·cases e
    ·rename_i ds' ρ2 e2
     cases e
     rcases GU e1 with e1' | ⟨i,ks,vs,rfl,hi,rfl,rfl⟩
     ·obtain ⟨H1,t1,b1,r1,o1,d1⟩:=take1 t b h e1'
      obtain ⟨H2,t2,b2,r2⟩:=sU t1 (b.trans b1) (r.rho o1 d1) e2
      exact ⟨H2,t2,b1.trans b2,.cons (.inl (r1.mono b2)) r2⟩
     ·obtain ⟨H2,t2,b2,r2⟩:=sU t b r e2
      obtain ⟨q,_⟩:=h
      obtain ⟨a,z,_⟩:=t.st.ow i _ hi
      rw [q] at z
      cases z
      exact ⟨H2,t2,b2,.cons (.inr ⟨i,a,ks,vs,rfl,rfl,nh e2 hi,q⟩) r2⟩
mutual
theorem Rep.noD {H H':Hp} (hk:∀ a o,H a=some o→H' a=some o∨∃ kvs,o=.dK kvs):∀ {v:V} {d:Dm.Dat},Rep H v d→Dm.bA d=true→Rep H' v d
 | _,_,.non,_=>.non
 | _,_,.bl b,_=>.bl b
 | _,_,.int i,_=>.int i
 | _,_,.str x,_=>.str x
 | _,_,.tup h r,n=>.tup (by
   rcases hk _ _ h with z | ⟨_,z⟩
   ·exact z
   ·cases z) (aC.noD hk r (by unfold Dm.bA at n;exact n))
 | _,_,.lst h r,n=>.lst (by
   rcases h with h | ⟨o,h⟩
   ·rcases hk _ _ h with z | ⟨_,z⟩
    ·exact .inl z
    ·cases z
   ·rcases hk _ _ h with z | ⟨_,z⟩
    ·exact .inr ⟨o,z⟩
    ·cases z) (aC.noD hk r (by unfold Dm.bA at n;exact n))
 | _,_,.dct _ _ _,n=>by unfold Dm.bA at n;cases n
 | _,_,.exc _,n=>by unfold Dm.bA at n;cases n
 | _,_,.fn a,_=>.fn a
theorem aC.noD {H H':Hp} (hk:∀ a o,H a=some o→H' a=some o∨∃ kvs,o=.dK kvs):∀ {vs:List V} {ds:List Dm.Dat},aC H vs ds→Dm.eN ds=true→aC H' vs ds
 | _,_,.nil,_=>.nil
 | _,_,.cons h r,n=>by
  unfold Dm.eN at n
  rw [Bool.and_eq_true] at n
  exact .cons (Rep.noD hk h n.1) (aC.noD hk r n.2)
end
open Classical in
theorem zv {σ:L2.St} {H:Hp} {Q:VK} {f:List Dm.Dat→Option Dm.RV} {fs:List Dm.FE} {E:XK} (h:tD (Dm.eFd f fs) σ H Q):jT (spD f) [] E (tDA fs) σ H Q:=by
 obtain ⟨H0,ρ,x,ρ',st,e,k⟩:=h
 unfold Dm.eFd at e
 split at e
 ·cases e
 rename_i xs ρ1 e1
 split at e
 ·cases e
 rename_i ds ρ2 e2
 split at e
 ·cases e
 rename_i z fz
 split at e
 case isFalse=>cases e
 rename_i hno
 injection e with e
 injection e with ea eb
 subst ea
 subst eb
 refine ⟨H0,ρ,xs,ρ1,st,e1,fun vs H1 Hb t1 r1=>?_⟩
 dsimp only
 rw [List.append_nil]
 obtain ⟨H2,t2,b2,r2⟩:=sU t1 (ak.refl _) r1 e2
 let B:Addr→Prop:=fun b=>∃ (i:Nat) (ks:List Int) (vs:List Dm.Dat),ρ2[i]?=some (.ow (.dct ks vs))∧σ[i]?=some (some (.ref b))
 have hB:∀ b,B b→H2 b=none∧∃ kvs,Hb b=some (.dK kvs):=fun b ⟨i,ks,vs,h1,h2⟩=>by
  obtain ⟨a,q,n,kvs,w,_⟩:=t2.st.ow i _ h1
  rw [h2] at q
  cases q
  exact ⟨n,kvs,w⟩
 let H2':Hp:=fun b=>if B b then Hb b else H2 b
 have in':∀ b,B b→H2' b=Hb b:=fun b h=>if_pos h
 have out':∀ b,¬ B b→H2' b=H2 b:=fun b h=>if_neg h
 have s2:ak H2 H2':=fun b o e=>by
  by_cases q:B b
  ·rw [(hB b q).1] at e;cases e
  ·rw [out' b q];exact e
 have s2b:ak H2' Hb:=fun b o e=>by
  by_cases q:B b
  ·rw [in' b q] at e;exact e
  ·rw [out' b q] at e;exact t2.st.same _ _ e
 have rr:∀ {vs:List V} {ds:List Dm.Dat},p7 H2 σ ρ2 vs ds→aC H2' vs ds:=fun {vs ds} r=>by
  induction r with
  | nil=>exact .nil
  | cons h _ ih=>
   refine .cons ?_ ih
   rcases h with h | ⟨i,b,ks,vs',rfl,rfl,h1,h2⟩
   ·exact h.mono s2
   ·obtain ⟨a,q,n,kvs,w,ek,rs⟩:=t2.st.ow i _ h1
    rw [h2] at q
    cases q
    exact .dct (by rw [in' _ ⟨i,ks,vs',h1,h2⟩];exact w) ek (rs.mono s2)
 refine ⟨H2',ds,z,s2b,rr r2,fz,fun w H3 Hd g3 r3=>?_⟩
 let H3':Hp:=fun b=>if B b then none else H3 b
 have in3:∀ b,B b→H3' b=none:=fun b h=>if_pos h
 have zw:∀ b,¬ B b→H3' b=H3 b:=fun b h=>if_neg h
 have gr:aM H2 Hb H3' Hd:=⟨fun b o e=>by
   by_cases q:B b
   ·rw [(hB b q).1] at e;cases e
   ·rw [zw b q];exact g3.s0 _ _ (s2 _ _ e),g3.s1,fun b o e=>by
   by_cases q:B b
   ·rw [in3 b q] at e;cases e
   ·rw [zw b q] at e
    rcases g3.s2 b o e with y | y
    ·exact .inl y
    ·rw [out' b q] at y;exact .inr y,fun b o e=>by
   by_cases q:B b
   ·rw [in3 b q] at e;cases e
   ·rw [zw b q] at e;exact g3.s3 _ _ e⟩
 have hk:∀ a o,H3 a=some o→H3' a=some o∨∃ kvs,o=.dK kvs:=fun a o e=>by
  by_cases q:B a
  ·obtain ⟨_,kvs,y⟩:=hB a q
   have:=g3.s0 a _ ((in' a q).trans y)
   rw [e] at this
   exact .inr ⟨kvs,Option.some.inj this⟩
  ·exact .inl (by rw [zw a q];exact e)
 have r3':pN Hb H3' Hd w z:=by
  cases z with
  | val d=>exact Rep.noD hk r3 hno
  | new d=>
   obtain ⟨a,ea,n,n0,w'⟩:=r3
   refine ⟨a,ea,n,?_,?_⟩
   ·by_cases q:B a
    ·exact in3 a q
    ·rw [zw a q];exact n0
   ·cases d with
    | lst ds'=>obtain ⟨ys,y1,y2⟩:=w';exact ⟨ys,y1,aC.noD hk y2 (by have:Dm.bA (.lst ds')=true:=hno;unfold Dm.bA at this;exact this)⟩
    | dct ks ds'=>have:Dm.bA (.dct ks ds')=true:=hno;unfold Dm.bA at this;cases this
    | _=>exact w'.elim
 exact k w H3' Hd (t2.trans (.grow t2.st gr)) ((r3'.toV t2.st).early fun a n=>t2.stp.gone n)
section
variable {X:Cx} {e b:Expr} {es:List Expr} {fs:List Dm.FE} {fb:Dm.FE} {p pos:Pos}
theorem ku {k:Nat} {F:Addr} {fd:FuncData} {ps:List Str} {g:List Dm.Dat→Option Dm.RV} {x:Str} (G:aQ X.prog X.w X.K X.mg X.base CX0 k F fd ps (spD g)) (hr:bf k X.A) (hg:Gl X x) (hm:X.mg x=some (.ref F)) (hk:PySem.W.keepIn X.K (.ref F)=true) (hb:Binds X.K fd ps [])
  (ha:DA X (e::es) fs) (hdb:(x == ("__debug__" : Str))=false:=by decide) (he:starEach (e::es) X.env=(false,eval e X.env)::starEach es X.env:=by rfl) (hpl:(backTo pos (starEach es X.env)).any (·.1)=false:=by rfl) :
  DE X (.Call (.Name x p) (e::es) [] pos) (Dm.eFd g fs):=PE.weak (jH G hr hg hm hk hb .nil (pG (X:=X)) ha hdb he hpl) fun _ _ _=>zv
theorem GV (hg:Gl X "dict") (hm:X.mg "dict" = none) (ha:DA X [e] fs) (he:starEach [e] X.env=[(false,eval e X.env)]:=by rfl) (hpl:(backTo pos (starEach [] X.env)).any (·.1)=false:=by rfl):DE X (.Call (.Name "dict" p) [e] [] pos) (Dm.eB Dm.p5 fs):=Gm sQ Cz (by rfl) hg hm ha (he:=he) (hpl:=hpl)
theorem CA (hc:X.calm=true) (hg:Gl X "sorted") (hm:X.mg "sorted" = none) (ha:DA X [e] fs) (he:starEach [e] X.env=[(false,eval e X.env)]:=by rfl) (hpl:(backTo pos (starEach [] X.env)).any (·.1)=false:=by rfl):DE X (.Call (.Name "sorted" p) [e] [] pos) (Dm.eB Dm.iX fs):=wK (sS hc) zq (by rfl) hg hm ha (he:=he) (hpl:=hpl)
theorem zx (i:Nat) {x:Str} {px apos cpos:Pos} (hb:DE X b fb) (hi:X.N[i]?=some x:=by rfl) (hv:Vis X.env.scope x:=by first | exact Or.inl rfl | exact Or.inr (Or.inl rfl) | exact Or.inr (Or.inr rfl)) (hd:(x == ("__debug__" : Str))=false:=by decide)
  (hcd:(x == ("__classdict__" : Str))=false:=by decide) (m:M1 X (.Name x px) "pop" apos b cpos:=by exact ⟨rfl,rfl,rfl,rfl⟩):DE X (.Call (.Attribute (.Name x px) "pop" apos) [b] [] cpos) (Dm.kq i fb):=PE.weak (yp (dX hi hv hd hcd) hb m) fun _ _ _=>GS
end
section
variable {X:Cx} {a b c e:Expr} {fa fb fc:Dm.FE} {p pos:Pos}
end
section
variable {X:Cx} {tg:Expr}
end
open PySem
variable {C:List Value→Prop} {us:List Value}
theorem len0 (h:us.length=0) (c:C []):C us:=by rw [List.eq_nil_of_length_eq_zero h];exact c
theorem wW {n:Nat} {C:List Value→Prop} {us:List Value} (h:us.length=n+1) (c:∀ a us,us.length=n→C (a::us)):C us:=by
 cases us with
 | nil=>cases h
 | cons a us=>exact c a us (by simpa using h)
theorem Kd (h:us.length=1) (c:∀ a,C [a]):C us:=wW h fun a _ h=>len0 h (C:=fun us=>C (a::us)) (c a)
theorem zb (h:us.length=2) (c:∀ a b,C [a,b]):C us:=wW h fun a _ h=>Kd h (C:=fun us=>C (a::us)) (c a)
theorem GW (h:us.length=3) (c:∀ a b d,C [a,b,d]):C us:=wW h fun a _ h=>zb h (C:=fun us=>C (a::us)) (c a)
theorem Ke (h:us.length=4) (c:∀ a b d e,C [a,b,d,e]):C us:=wW h fun a _ h=>GW h (C:=fun us=>C (a::us)) (c a)
theorem GX (h:us.length=5) (c:∀ a b d e f,C [a,b,d,e,f]):C us:=wW h fun a _ h=>Ke h (C:=fun us=>C (a::us)) (c a)
theorem L5 (h:us.length=6) (c:∀ a b d e f g,C [a,b,d,e,f,g]):C us:=wW h fun a _ h=>GX h (C:=fun us=>C (a::us)) (c a)
end Br
namespace L2
open PySem
variable {K:PySem.W.Frag} {x qual:Str} {st:Stmt} {f:Addr} {fd:FuncData} {ps:List Str}
theorem Fun.cT (F:Fun K x qual st f fd) (hp:ps.length=1) (h:∀ (kV doc pm:Value) (an:Option Addr) (cdv ct:Value) (a:Value),bindArgs (PySem.W.fnOf x qual (aJ st) (aI st) (af st) .none kV doc pm an cdv ct) ⟨[a],[]⟩=pure (ps.zip [a])):Binds K fd ps []:=
 F.binds fun kV doc pm an cdv ct us hl=>Br.Kd (C:=fun us=>bindArgs (PySem.W.fnOf x qual (aJ st) (aI st) (af st) .none kV doc pm an cdv ct) ⟨us,[]⟩=pure (ps.zip us)) (hl.trans hp) (h kV doc pm an cdv ct)
theorem Fun.bK (F:Fun K x qual st f fd) (hp:ps.length=2) (h:∀ (kV doc pm:Value) (an:Option Addr) (cdv ct:Value) (a b:Value),bindArgs (PySem.W.fnOf x qual (aJ st) (aI st) (af st) .none kV doc pm an cdv ct) ⟨[a,b],[]⟩=pure (ps.zip [a,b])):Binds K fd ps []:=
 F.binds fun kV doc pm an cdv ct us hl=>Br.zb (C:=fun us=>bindArgs (PySem.W.fnOf x qual (aJ st) (aI st) (af st) .none kV doc pm an cdv ct) ⟨us,[]⟩=pure (ps.zip us)) (hl.trans hp) (h kV doc pm an cdv ct)
theorem Fun.dI (F:Fun K x qual st f fd) (hp:ps.length=3) (h:∀ (kV doc pm:Value) (an:Option Addr) (cdv ct:Value) (a b d:Value),bindArgs (PySem.W.fnOf x qual (aJ st) (aI st) (af st) .none kV doc pm an cdv ct) ⟨[a,b,d],[]⟩=pure (ps.zip [a,b,d])):Binds K fd ps []:=
 F.binds fun kV doc pm an cdv ct us hl=>Br.GW (C:=fun us=>bindArgs (PySem.W.fnOf x qual (aJ st) (aI st) (af st) .none kV doc pm an cdv ct) ⟨us,[]⟩=pure (ps.zip us)) (hl.trans hp) (h kV doc pm an cdv ct)
theorem Fun.sV (F:Fun K x qual st f fd) (hp:ps.length=4) (h:∀ (kV doc pm:Value) (an:Option Addr) (cdv ct:Value) (a b d e:Value),bindArgs (PySem.W.fnOf x qual (aJ st) (aI st) (af st) .none kV doc pm an cdv ct) ⟨[a,b,d,e],[]⟩=pure (ps.zip [a,b,d,e])):Binds K fd ps []:=
 F.binds fun kV doc pm an cdv ct us hl=>Br.Ke (C:=fun us=>bindArgs (PySem.W.fnOf x qual (aJ st) (aI st) (af st) .none kV doc pm an cdv ct) ⟨us,[]⟩=pure (ps.zip us)) (hl.trans hp) (h kV doc pm an cdv ct)
theorem Fun.kB (F:Fun K x qual st f fd) (hp:ps.length=5) (h:∀ (kV doc pm:Value) (an:Option Addr) (cdv ct:Value) (a b d e g:Value),bindArgs (PySem.W.fnOf x qual (aJ st) (aI st) (af st) .none kV doc pm an cdv ct) ⟨[a,b,d,e,g],[]⟩=pure (ps.zip [a,b,d,e,g])):Binds K fd ps []:=
 F.binds fun kV doc pm an cdv ct us hl=>Br.GX (C:=fun us=>bindArgs (PySem.W.fnOf x qual (aJ st) (aI st) (af st) .none kV doc pm an cdv ct) ⟨us,[]⟩=pure (ps.zip us)) (hl.trans hp) (h kV doc pm an cdv ct)
theorem Fun.GY (F:Fun K x qual st f fd) (hp:ps.length=6) (h:∀ (kV doc pm:Value) (an:Option Addr) (cdv ct:Value) (a b d e g i:Value),bindArgs (PySem.W.fnOf x qual (aJ st) (aI st) (af st) .none kV doc pm an cdv ct) ⟨[a,b,d,e,g,i],[]⟩=pure (ps.zip [a,b,d,e,g,i])):Binds K fd ps []:=
 F.binds fun kV doc pm an cdv ct us hl=>Br.L5 (C:=fun us=>bindArgs (PySem.W.fnOf x qual (aJ st) (aI st) (af st) .none kV doc pm an cdv ct) ⟨us,[]⟩=pure (ps.zip us)) (hl.trans hp) (h kV doc pm an cdv ct)
end L2
namespace Dm
noncomputable def eFp (a i:Nat) (f:List Dat→Option RV) (as:List FE):FE:=fun ρ=>match ρ[i]? with
 | some (.sh (.fn b))=>if b=a then eF f as ρ else none
 | _=>none
end Dm
namespace Br
open PySem L2
section
variable {X:Cx} {e:Expr} {es:List Expr} {fs:List Dm.FE} {p pos:Pos}
theorem Kf {x:Str} {F:Addr} (hg:Gl X x) (hm:X.mg x=some (.ref F)) (hd:(x == ("__debug__" : Str))=false:=by decide):DE X (.Name x pos) (Dm.eC (.fn F)):=
 PE.weak (uh (v:=V.ref F) hg hm rfl hd) fun _ _ _=>gY fun _=>.fn F
theorem zy {k:Nat} {F:Addr} {fd:FuncData} {ps:List Str} {sp:Sp} {t:TA} {E:XK} {CX} (i:Nat) {x:Str} (G:aQ X.prog X.w X.K X.mg X.base CX k F fd ps sp) (hr:bf k X.A) (hN:X.N[i]?=some x) (hv:Vis X.env.scope x) (hk:PySem.W.keepIn X.K (.ref F)=true) (hb:Binds X.K fd ps []) (hx:Passes CX X E)
  (ha:PA X (e::es) t) (hd:(x == ("__debug__" : Str))=false) (hcd:(x == ("__classdict__" : Str))=false) (he:starEach (e::es) X.env=(false,eval e X.env)::starEach es X.env) (hpl:(backTo pos (starEach es X.env)).any (·.1)=false) :
  PE X (.Call (.Name x p) (e::es) [] pos) (fun σ H Q=>mC i σ H fun v _=>v=V.ref F∧jT sp [] E t σ H Q):=by
 intro pins s σ H Q I h
 obtain ⟨v,e1,rfl,h⟩:=h
 refine wpAny_Call_Name_kw (thn (dX hN hv hd hcd pins s σ H (fun v H1=>v=V.ref F∧H1=H) I ⟨_,e1,rfl,rfl⟩) fun u s1 ⟨v,H1,I1,r,q1,q2⟩=>?_)
 subst q1 q2
 cases r
 refine PySem.W.callWith_K (h₀:=X.base) I1.ok.mod.kin hk (thn (ha pos pins s1 σ H1 _ I1 h) fun us s2 ⟨vs,H2,I2,r,q⟩=>⟨I2.kIn,?_⟩) he hpl
 exact x_ G hr hb .nil hx I2 r q
theorem CB {F i:Nat} {f:List Dm.Dat→Option Dm.RV} {E:XK} {σ:L2.St} {H:Hp} {Q:VK} (h:tD (Dm.eFp F i f fs) σ H Q):mC i σ H fun v _=>v=V.ref F∧jT (spD f) [] E (tDA fs) σ H Q:=by
 obtain ⟨H0,ρ,x,ρ',st,e,k⟩:=h
 unfold Dm.eFp at e
 split at e
 ·rename_i b h1
  split at e
  ·rename_i hb
   subst hb
   obtain ⟨v,q,r⟩:=st.sh i _ h1
   cases r
   exact ⟨_,q,rfl,sq ⟨H0,ρ,x,ρ',st,e,k⟩⟩
  ·cases e
 ·cases e
theorem uT {k:Nat} {F:Addr} {fd:FuncData} {ps:List Str} {g:List Dm.Dat→Option Dm.RV} (i:Nat) {x:Str} (G:aQ X.prog X.w X.K X.mg X.base CX0 k F fd ps (spD g)) (hr:bf k X.A) (hk:PySem.W.keepIn X.K (.ref F)=true) (hb:Binds X.K fd ps [])
  (ha:DA X (e::es) fs) (hN:X.N[i]?=some x:=by rfl) (hv:Vis X.env.scope x:=by first | exact Or.inl rfl | exact Or.inr (Or.inl rfl) | exact Or.inr (Or.inr rfl)) (hd:(x == ("__debug__" : Str))=false:=by decide) (hcd:(x == ("__classdict__" : Str))=false:=by decide)
  (he:starEach (e::es) X.env=(false,eval e X.env)::starEach es X.env:=by rfl) (hpl:(backTo pos (starEach es X.env)).any (·.1)=false:=by rfl) :
  DE X (.Call (.Name x p) (e::es) [] pos) (Dm.eFp F i g fs):=PE.weak (zy i G hr hN hv hk hb (pG (X:=X)) ha hd hcd he hpl) fun _ _ _=>CB
end
end Br
namespace Dm
end Dm
namespace Br
open PySem PySem.Spec PyProof.Rows L2
section
variable {X:Cx} {e:Expr} {es:List Expr} {fs:List Dm.FE} {p pos:Pos}
end
section
variable {X:Cx} {e1 e2 e3:Expr} {f1 f2 f3:Dm.FE} {p pos kpos:Pos}
end
end Br
namespace Dm
end Dm
namespace Br
open PySem PySem.Spec PyProof.Rows L2
open Classical in
section
variable {X:Cx} {e:Expr} {es:List Expr} {fs:List Dm.FE} {p pos:Pos}
end
end Br
namespace Dm
noncomputable def cX (a:Int):List Int→Int
 | []=>a
 | x::r=>cX (if x<a then x else a) r
noncomputable def ni:List Dat→Option RV
 | [.lst xs]=>(match kc xs with
  | some (n::ns)=>vI (cX n ns)
  | _=>none)
 | _=>none
end Dm
namespace Br
open PySem PySem.Spec PyProof.Rows L2
theorem zz (a x:Int) (l:List Int):Dm.cX a (l++[x])=if x<Dm.cX a l then x else Dm.cX a l:=by
 induction l generalizing a with
 | nil=>rfl
 | cons y l ih=>rw [List.cons_append,Dm.cX,ih,Dm.cX]
theorem p8 (n0:Int) (ns:List Int):∀ k,k≤ns.length→(n0::ns).getD (argBest (fun i j=>decide ((n0::ns).getD i 0<(n0::ns).getD j 0)) k) 0=Dm.cX n0 (ns.take k)
 | 0,_=>rfl
 | k+1,h=>by
  have ih:=p8 n0 ns k (by omega)
  have e:argBest (fun i j=>decide ((n0::ns).getD i 0<(n0::ns).getD j 0)) (k+1)=if decide ((n0::ns).getD (k+1) 0<(n0::ns).getD (argBest (fun i j=>decide ((n0::ns).getD i 0<(n0::ns).getD j 0)) k) 0) then k+1 else argBest (fun i j=>decide ((n0::ns).getD i 0<(n0::ns).getD j 0)) k:=rfl
  have ek:(n0::ns).getD (k+1) 0=ns[k]'(by omega):=by
   rw [List.getD_eq_getElem?_getD,List.getElem?_cons_succ,List.getElem?_eq_getElem (by omega)];rfl
  rw [e,ih,ek,List.take_succ_eq_append_getElem (by omega),zz]
  by_cases c:ns[k]'(by omega)<Dm.cX n0 (ns.take k)
  ·rw [decide_eq_true c,if_pos rfl,if_pos c,ek]
  ·rw [decide_eq_false c,if_neg (by decide),if_neg c,ih]
section
variable {X:Cx}
theorem wX (hc:X.calm=true):cM X (.builtin "min") (fun xs H Q=>∃ (a:Addr) (n:Int) (ns:List Int),xs=[.ref a]∧Rd H a (.lst ((n::ns).map V.int))∧Q (.int (Dm.cX n ns)) H):=by
 intro pins s σ H xs us Q I r h
 obtain ⟨a,n0,ns,rfl,hq,q⟩:=h
 obtain ⟨u,rfl,rx⟩:=vals1 r
 cases rx
 obtain ⟨z,its,n,rv,e⟩:=hq.ok I.hok
 have hl:s.heap.IsList a its.toArray:=⟨_,e,rfl,_,rfl⟩
 have hlen:=rv.length
 rw [List.length_map] at hlen
 have hax:a≠s.heap.objs.size:=Nat.ne_of_lt (Heap.lt_size e)
 have e1:its.toArray.size=ns.length+1:=by rw [List.size_toArray,← hlen];rfl
 refine PySem.call_min_walk (wpAny_pyIter_list hl ⟨s.heap.objs.size,_,_,_,_,_,_,rfl,Walks.list (A:=X.A.in1) (I.ok.hd hc) s.heap.objs.size a hax its.toArray,⟨⟨_,Heap.get?_push_size _ rfl,rfl,rfl⟩,hl.push _⟩,?_,by rw [e1];exact Nat.succ_pos _,CmpOf.ints_lt (fun i=>(n0::ns).getD i 0) (uP rv),fun v h' tk hp hk=>?_⟩)
 ·intro b hb
  simp only [List.mem_cons,List.not_mem_nil,or_false] at hb
  rcases hb with rfl | rfl
  ·show s.heap.objs.size<_;exact Heap.size_push ..▸Nat.lt_succ_self _
  ·show b<_;exact Heap.size_push ..▸Nat.lt_succ_of_lt (Heap.lt_size e)
 ·obtain ⟨t',rfl⟩:=uP rv _ _ hp
  refine ⟨.int (Dm.cX n0 ns),H,I.kept (t':=tk) fun b o eb=>hk b o ?_ (Heap.get?_push_of_some _ eb),⟨t',?_⟩,q⟩
  ·intro hm
   have:b=s.heap.objs.size:=by simpa using hm
   exact absurd (Heap.lt_size eb) (by rw [this];exact Nat.lt_irrefl _)
  ·rw [e1,Nat.add_sub_cancel,p8 n0 ns _ (Nat.le_refl _),List.take_length]
theorem CC:CallD (fun xs H Q=>∃ (a:Addr) (n:Int) (ns:List Int),xs=[.ref a]∧Rd H a (.lst ((n::ns).map V.int))∧Q (.int (Dm.cX n ns)) H) Dm.ni:=by
 intro H0 H vs ds z Q s rs e k
 unfold Dm.ni at e
 split at e
 ·split at e
  ·rename_i n ns hb
   cases e
   cases rs with
   | cons r rr=>
    cases rr
    obtain ⟨a,us,rfl,qa,ra⟩:=bz s r
    have:=kj ra hb
    subst this
    exact ⟨a,n,ns,rfl,qa,k _ H0 H (aM.refl s) (.int _)⟩
  ·cases e
 ·cases e
end
section
variable {X:Cx} {e:Expr} {fs:List Dm.FE} {p pos:Pos}
theorem GZ (hc:X.calm=true) (hg:Gl X "min") (hm:X.mg "min" = none) (ha:DA X [e] fs) (he:starEach [e] X.env=[(false,eval e X.env)]:=by rfl) (hpl:(backTo pos (starEach [] X.env)).any (·.1)=false:=by rfl):DE X (.Call (.Name "min" p) [e] [] pos) (Dm.eB Dm.ni fs):=wK (wX hc) CC (by rfl) hg hm ha (he:=he) (hpl:=hpl)
end
end Br
namespace Dm
end Dm
namespace Br
open PySem PySem.Spec PyProof.Rows L2
section
variable {X:Cx} {l a b:Expr} {tl:TE} {ta:TA} {fa fb:Dm.FE} {p pos p0 mL:Pos}
end
end Br
namespace Dm
end Dm
namespace Br
open PySem PySem.Spec PyProof.Rows L2
section
variable {prog:Program} {w:World} {A:Around} {E:Value→Shared→Prop} {s:Shared}
end
section
variable {prog:Program} {w:World} {A:Around} {s:Shared}
end
section
variable {X:Cx}
end
section
variable {X:Cx} {e:Expr} {fs:List Dm.FE} {p pos:Pos} {k:Nat}
end
end Br
namespace Dm
end Dm
namespace Br
open PySem PySem.Spec PyProof.Rows L2
section
variable {X:Cx} {tg c e:Expr} {bd:Dm.FB} {is:List Nat} {t:Dm.FT} {f:Dm.FE} {x:Str} {px rp ip pos:Pos}
end
end Br
namespace Dm
end Dm
namespace Br
open PySem PySem.Spec PyProof.Rows L2
section
variable {X:Cx}
end
section
variable {X:Cx} {e:Expr} {fs:List Dm.FE} {p pos:Pos}
end
end Br
namespace Dm
end Dm
namespace Br
open PySem PySem.Spec PyProof.Rows L2
section
variable {X:Cx} {a b c:Expr} {fa fb fc:Dm.FE} {apos cpos:Pos} {k:Nat}
end
end Br
namespace Dk
open PySem PyProof.Rows
open Sem (wp)
section
variable {prog:Program} {w:World} {A:Around} {E:Value→Shared→Prop} {s:Shared}
end
section
variable {prog:Program} {w:World} {K:Type} [DecidableEq K] {knd:PySem.KeyKind prog w K} {A:Around} {E:Value→Shared→Prop} {s:Shared}
end
end Dk
namespace Dm
end Dm
namespace Br
open PySem PySem.Spec PyProof.Rows L2
section
variable {X:Cx} {e:Expr} {fs:List Dm.FE} {p pos:Pos}
end
end Br
namespace Dm
end Dm
namespace Br
open PySem PySem.Spec PyProof.Rows L2
section
variable {N N':Addr→Prop} {H0 H H0' H':Hp}
end
section
variable {σ:L2.St} {H:Hp} {Q:VK}
end
section
variable {X:Cx} {e:Expr} {es:List Expr} {f:Dm.FE} {pos:Pos}
end
section
variable {D:Ends} {σ:L2.St} {H:Hp}
end
section
variable {X:Cx} {e:Expr} {st:Stmt} {rest:List Stmt} {fs:Dm.FS} {pos:Pos}
end
section
variable {j:Nat} {σs:L2.St} {ρs:Dm.Env} {H0s Hs:Hp} {σ:L2.St} {ρ ρ':Dm.Env} {H0 H H0' H':Hp}
end
section
variable {D:Ends} {σ:L2.St} {H:Hp} {j:Nat}
end
section
variable {X:Cx} {e c:Expr} {rest:List Stmt} {fs gs:Dm.FS} {pos:Pos} {j:Nat}
end
end Br
namespace Dm
end Dm
namespace Br
open PySem PySem.Spec PyProof.Rows L2
section
variable {X:Cx} {e elt iter tg:Expr} {es:List Expr} {fs:List Dm.FE} {fi:Dm.FI} {bd:Dm.FB} {is:List Nat} {scope:Scope} {pos p:Pos}
end
section
variable {j:Nat} {σs:L2.St} {ρs:Dm.Env} {H0s Hs:Hp} {σ:L2.St} {ρ ρ':Dm.Env} {H0 H H0' H':Hp}
end
section
variable {D:Ends} {σ:L2.St} {H:Hp} {j:Nat}
end
section
variable {X:Cx} {st:Stmt} {rest:List Stmt} {e c:Expr} {f:Dm.FE} {pos:Pos} {j:Nat}
end
end Br
namespace Dm
end Dm
namespace Br
open PySem PySem.Spec PyProof.Rows L2
section
variable {σ:L2.St} {H:Hp} {Q:VK}
end
section
variable {D:Ends} {σ:L2.St} {H:Hp} {j:Nat}
end
section
variable {D:Ends} {σ:L2.St} {H:Hp} {j:Nat}
end
section
variable {X:Cx} {e c:Expr} {es:List Expr} {rest:List Stmt} {fs:List Dm.FE} {f:Dm.FE} {pos p:Pos} {j:Nat}
end
section
variable {X:Cx} {e:Expr} {es:List Expr} {fs:List Dm.FE} {pos p:Pos}
end
end Br
namespace Sx
open PySem PySem.SetTable
open PySem PySem.SetTable PySem.W
section
variable {prog:Program} {w:World} {A:Around} {E:Value→Shared→Prop} {s:Shared} {a it:Addr} {es:Array (Int×Value)} {ep i:Nat} {t:SetTable}
end
section
variable {prog:Program} {w:World} {A:Around} {E:Value→Shared→Prop} {s:Shared} {a it:Addr} {es:Array (Int×Value)} {ep i:Nat} {t:SetTable}
end
open PySem PySem.SetTable PySem.W PyProof.Rows
section
variable {prog:Program} {w:World} {A:Around} {E:Value→Shared→Prop} {s:Shared} {a:Addr} {ns:List Int} {k:Int} {tk:Tok}
end
section
variable {prog:Program} {w:World} {A:Around} {E:Value→Shared→Prop} {s:Shared}
set_option maxHeartbeats 3200000 in
end
end Sx
namespace Dm
end Dm
namespace Br
open PySem PySem.Spec PyProof.Rows L2
section
variable {X:Cx} {e:Expr} {f:Dm.FE} {p p0 pos mL:Pos}
end
section
variable {X:Cx} {pins:List (Addr×Obj)} {σ:L2.St} {H:Hp} {s:Shared} {a:Addr} {kvs:List (Key×V)} {k:Key} {u:Value} {A:Around} {E:Value→Shared→Prop}
end
section
variable {j:Nat} {σs:L2.St} {ρs:Dm.Env} {H0s Hs:Hp} {σ:L2.St} {ρ ρ':Dm.Env} {H0 H H0' H':Hp} {ks:List Int} {rows:List (List Dm.Dat)}
end
section
variable {D:Ends} {σ:L2.St} {H:Hp} {j kx vx:Nat}
end
section
variable {X:Cx} {rest:List Stmt} {j kx vx:Nat} {pos:Pos}
end
section
variable {X:Cx} {tg:Expr} {x:Str} {px ap cp:Pos} {j:Nat}
end
end Br
namespace Sx
open PySem PySem.SetTable
section
variable {prog:Program} {w:World} {A:Around} {E:Value→Shared→Prop} {s:Shared} {ks:List Int} {a:Addr}
end
section
variable {prog:Program} {w:World} {A:Around} {E:Value→Shared→Prop} {s:Shared} {ks:List Int} {a b:Addr} {es:Array (Int×Value)} {ep:Nat} {t:SetTable}
end
section
variable {prog:Program} {w:World} {A:Around} {E:Value→Shared→Prop} {s:Shared} {ks:List Int} {a b:Addr} {P:List (List Int×Addr)}
end
open PySem PySem.SetTable PySem.W PyProof.Rows
section
variable {prog:Program} {w:World} {A:Around} {E:Value→Shared→Prop} {s:Shared}
end
end Sx
namespace Br
open PySem PySem.Spec PyProof.Rows L2
end Br
namespace Dm
end Dm
namespace Br
open PySem PySem.Spec PyProof.Rows L2
section
variable {X:Cx} {e:Expr} {f:Dm.FE} {p p0 pos mL:Pos}
end
end Br
namespace Dm
end Dm
namespace Br
open PySem PySem.Spec PyProof.Rows L2
section
variable {X:Cx} {pos p2:Pos} {e:Expr} {f:Dm.FE}
end
section
variable {X:Cx} {pos p2:Pos} {e:Expr} {f:Dm.FE}
end
section
variable {X:Cx} {nm:List Str} {elt tg iter:Expr} {ifs:List Expr} {scope:Scope} {pos:Pos} {own:List Str} {wi:TI} {g:TG} {tt:TT} {te:TE}
end
section
variable {X:Cx} {elt:Expr} {ifs:List Expr} {scope:Scope} {pos px py:Pos} {t:Dm.FT} {f:Dm.FE} {x:Str}
end
end Br
namespace Dm
end Dm
namespace Br
open PySem PySem.Spec PyProof.Rows L2
section
variable {X:Cx} {pos:Pos}
end
end Br
namespace Dm
end Dm
namespace Br
open PySem PySem.Spec PyProof.Rows L2
section
variable {X:Cx} {e:Expr} {f:Dm.FE}
end
open PySem L2
structure aX (K:PySem.W.Frag) (x:Str) (st:Stmt) (a:Addr) (fd:FuncData):Prop where
 e:PySem.W.nsIn K mainGlobals x=some (some (.ref a))
 F:Fun K x x st a fd
variable {K:PySem.W.Frag} {x:Str} {st:Stmt} {a:Addr} {fd:FuncData} {hp:Heap} {mg:Str→Option Value}
theorem aF {oc:Value} {od an:Option Addr} {osl:Array (Option Value)} {kV doc pm cdv ct:Value} (e:PySem.W.nsIn K mainGlobals x=some (some (.ref a)))
  (l:K.lookup a=some ⟨oc,od,.func (PySem.W.fnOf x x (aJ st) (aI st) (af st) .none kV doc pm an cdv ct),osl⟩) (c:PySem.W.codeIn K cdv x=true) (k:PySem.W.keepIn K (.ref a)=true) :
  aX K x st a (PySem.W.fnOf x x (aJ st) (aI st) (af st) .none kV doc pm an cdv ct):=⟨e,FY l c k⟩
theorem mgo {v:Value} (X:K.In hp) (G:hp.Ns mainGlobals mg) (e:PySem.W.nsIn K mainGlobals x=some (some v)):mg x=some v:=PySem.W.mg_of X G e
theorem mno (X:K.In hp) (G:hp.Ns mainGlobals mg) (e:PySem.W.nsIn K mainGlobals x=some none):mg x=none:=PySem.W.mg_none_of X G e
theorem aX.m (h:aX K x st a fd) (X:K.In hp) (G:hp.Ns mainGlobals mg):mg x=some (.ref a):=PySem.W.mg_of X G h.e
theorem aX.L6 {y:Str} (h:aX K x st a fd) (hb:∀ (kV doc pm:Value) (an:Option Addr) (cdv ct v:Value),bindArgs (PySem.W.fnOf x x (aJ st) (aI st) (af st) .none kV doc pm an cdv ct) ⟨[v],[]⟩=pure [(y,v)]) (s:Shared) (v:Value):BindsTo s fd ⟨[v],[]⟩ [(y,v)]:=by
 obtain ⟨oc,od,kV,doc,pm,an,cdv,ct,osl,rfl,lk,hcd⟩:=h.F.ex
 exact .of_eq (hb kV doc pm an cdv ct v)
theorem hm {j k:Nat} {A:Around} (r:bf k A) (h:j≤k:=by decide):bf j A:=r.mono h
theorem fsc {N P:List Str} {sc:Scope} (h1:sc.kind=.function) (h2:sc.isCoroutine=false) (h3:sc.isGenerator=false) (h4:N.take P.length=P) (h:N.Nodup∧(∀ x∈P,sc.names.lookup x=some .local∨sc.names.lookup x=some .cell)∧∀ y∈sc.names,y.2≠.free):ao N P sc:=⟨h1,h2,h3,h.1,h4,h.2.1,h.2.2⟩
theorem a_c {X:Cx} {e:Expr} {f:Dm.FE} {es:List Expr} {fs:List Dm.FE} (h:DE X e f) (r:DA X es fs) (hs:starEach (e::es) X.env=(false,eval e X.env)::starEach es X.env):DA X (e::es) (f::fs):=aa h r hs
end Br
namespace Dm
end Dm
namespace Br
open PySem PySem.Spec PyProof.Rows L2
section
variable {X:Cx} {C:Addr} {E:L2.St→XK} {R S:Dm.Env→Option Dm.Env} {sts rest:List Stmt} {st:Stmt}
end
section
variable {X:Cx} {pins pn:List (Addr×Obj)} {σ:L2.St} {H:Hp} {s:Shared} {xe:Value→Shared→Prop}
end
section
variable {X:Cx} {C:Addr} {E:L2.St→XK} {k:Nat} {F:Addr} {fd:FuncData} {ps:List Str} {x:Str} {p pos:Pos} {e:Expr} {es:List Expr} {fs:List Dm.FE} {bad:List Dm.Dat→Bool} {c:Int} {tk:Tok}
end
section
variable {X:Cx} {C:Nat} {b:Bool} {cs:List Nat} {bs:List Bool} {e:Expr} {f:Dm.FE}
end
end Br
namespace Dm
noncomputable def We (e:FE) (ρ:Env) (Q:Val→Env→Prop):Prop:=∃ v ρ',e ρ=some (v,ρ')∧Q v ρ'
noncomputable def Wt (t:FT) (ρ:Env) (Q:Bool→Env→Prop):Prop:=∃ v ρ',t ρ=some (v,ρ')∧Q v ρ'
noncomputable def Was (as:List FE) (ρ:Env) (Q:List Val→Env→Prop):Prop:=∃ v ρ',eAs as ρ=some (v,ρ')∧Q v ρ'
noncomputable def Wi (it:FI) (ρ:Env) (Q:List Dat→Env→Prop):Prop:=∃ v ρ',it ρ=some (v,ρ')∧Q v ρ'
noncomputable def KO (N:Env→Prop) (R:RV→Env→Prop) (B C:Env→Prop):Out→Prop
 | .nx ρ=>N ρ
 | .ret r ρ=>R r ρ
 | .bk ρ=>B ρ
 | .ct ρ=>C ρ
noncomputable def Ws (s:FS) (ρ:Env) (N:Env→Prop) (R:RV→Env→Prop) (B C:Env→Prop):Prop:=∃ o,s ρ=some o∧KO N R B C o
noncomputable def Wr (o:Option RV) (P:RV→Prop):Prop:=∃ r,o=some r∧P r
noncomputable def Wif (c:Bool) (X Y:Prop):Prop:=(c=true→X)∧(c=false→Y)
noncomputable def Wg1 (g:Dat→Option RV) (o:Option Dat) (K:RV→Prop):Prop:=∃ d v,o=some d∧g d=some v∧K v
noncomputable def Wg2 (g:Dat→Dat→Option RV) (o p:Option Dat) (K:RV→Prop):Prop:=∃ d e v,o=some d∧p=some e∧g d e=some v∧K v
noncomputable def WB (g:List Dat→Option RV) (o:Option (List Dat)) (K:RV→Prop):Prop:=∃ ds v,o=some ds∧g ds=some v∧K v
noncomputable def WT (o:Option (List Dat×Env)) (K:List Dat→Env→Prop):Prop:=∃ ds ρ,o=some (ds,ρ)∧ds.length≤SZ∧K ds ρ
noncomputable def WF (f:List Dat→Option RV) (ρ:Env) (xs:List Val) (Q:Val→Env→Prop):Prop:=∃ ds v,pks ρ xs=some ds∧f ds=some v∧(if cD v.dat then ∃ ds' ρ2,tks ρ xs=some (ds',ρ2)∧Q v.bq ρ2 else Q v.bq ρ)
noncomputable def Wk (ρ:Env) (x:Val) (K:Dat→Env→Prop):Prop:=∃ d ρ',tk ρ x=some (d,ρ')∧K d ρ'
theorem Wif.t {X Y:Prop} (x:X):Wif true X Y:=⟨fun _=>x,fun h=>by cases h⟩
theorem Wif.f {X Y:Prop} (y:Y):Wif false X Y:=⟨fun h=>(by cases h),fun _=>y⟩
theorem Wif.yes {c:Bool} {X Y:Prop} (h:c=true) (x:X):Wif c X Y:=⟨fun _=>x,fun h'=>by rw [h] at h';cases h'⟩
theorem Wif.no {c:Bool} {X Y:Prop} (h:c=false) (y:Y):Wif c X Y:=⟨fun h'=>(by rw [h] at h';cases h'),fun _=>y⟩
theorem Wif.dec {p:Prop} [Decidable p] {X Y:Prop} (x:p→X) (y:¬ p→Y):Wif (decide p) X Y:=⟨fun h=>x (of_decide_eq_true h),fun h=>y (of_decide_eq_false h)⟩
theorem We.v {i:Nat} {ρ:Env} {d:Dat} {Q:Val→Env→Prop} (h:ρ[i]?=some (.sh d)) (q:Q (.val d) ρ):We (eV i) ρ Q:=⟨_,_,by unfold eV;rw [h],q⟩
theorem We.w {i:Nat} {ρ:Env} {d:Dat} {Q:Val→Env→Prop} (h:ρ[i]?=some (.ow d)) (q:Q (.slot i) ρ):We (eV i) ρ Q:=⟨_,_,by unfold eV;rw [h],q⟩
theorem We.c {d:Dat} {ρ:Env} {Q:Val→Env→Prop} (q:Q (.val d) ρ):We (eC d) ρ Q:=⟨_,_,rfl,q⟩
theorem We.e1 {g:Dat→Option RV} {a:FE} {ρ:Env} {Q:Val→Env→Prop} (h:We a ρ fun x ρ1=>Wg1 g (pk ρ1 x) fun v=>Q v.bq ρ1):We (e1 g a) ρ Q:=by
 obtain ⟨x,ρ1,h1,d,v,h2,h3,q⟩:=h
 exact ⟨_,_,by unfold Dm.e1;rw [h1];dsimp only;rw [h2];dsimp only;rw [h3],q⟩
theorem We.e2 {g:Dat→Dat→Option RV} {a b:FE} {ρ:Env} {Q:Val→Env→Prop} (h:We a ρ fun x ρ1=>We b ρ1 fun y ρ2=>Wg2 g (pk ρ2 x) (pk ρ2 y) fun v=>Q v.bq ρ2):We (e2 g a b) ρ Q:=by
 obtain ⟨x,ρ1,h1,y,ρ2,h2,d,e,v,h3,h4,h5,q⟩:=h
 exact ⟨_,_,by unfold Dm.e2;rw [h1];dsimp only;rw [h2];dsimp only;rw [h3];dsimp only;rw [h4];dsimp only;rw [h5],q⟩
theorem Was.nil {ρ:Env} {Q:List Val→Env→Prop} (q:Q [] ρ):Was [] ρ Q:=⟨_,_,rfl,q⟩
theorem Was.cons {a:FE} {r:List FE} {ρ:Env} {Q:List Val→Env→Prop} (h:We a ρ fun x ρ1=>Was r ρ1 fun xs ρ2=>Q (x::xs) ρ2):Was (a::r) ρ Q:=by
 obtain ⟨x,ρ1,h1,xs,ρ2,h2,q⟩:=h
 exact ⟨_,_,by unfold eAs;rw [h1];dsimp only;rw [h2],q⟩
theorem We.B {g:List Dat→Option RV} {as:List FE} {ρ:Env} {Q:Val→Env→Prop} (h:Was as ρ fun xs ρ1=>WB g (pks ρ1 xs) fun v=>Q v.bq ρ1):We (eB g as) ρ Q:=by
 obtain ⟨x,ρ1,h1,d,v,h2,h3,q⟩:=h
 exact ⟨_,_,by unfold eB;rw [h1];dsimp only;rw [h2];dsimp only;rw [h3],q⟩
theorem We.T {as:List FE} {ρ:Env} {Q:Val→Env→Prop} (h:Was as ρ fun xs ρ1=>WT (tks ρ1 xs) fun ds ρ2=>Q (.val (.tup ds)) ρ2):We (iJ as) ρ Q:=by
 obtain ⟨x,ρ1,h1,ds,ρ2,h2,h3,q⟩:=h
 exact ⟨_,_,by unfold iJ;rw [h1];dsimp only;rw [h2];dsimp only;rw [if_pos h3],q⟩
theorem We.L {as:List FE} {ρ:Env} {Q:Val→Env→Prop} (h:Was as ρ fun xs ρ1=>WT (tks ρ1 xs) fun ds ρ2=>Q (.new (.lst ds)) ρ2):We (dm as) ρ Q:=by
 obtain ⟨x,ρ1,h1,ds,ρ2,h2,h3,q⟩:=h
 exact ⟨_,_,by unfold dm;rw [h1];dsimp only;rw [h2];dsimp only;rw [if_pos h3],q⟩
theorem WT.mk {ρ:Env} {xs:List Val} {ds:List Dat} {ρ2 ρ3:Env} {K:List Dat→Env→Prop} (k:K ds ρ3) (h:tks ρ xs=some (ds,ρ2)) (hn:ρ2=ρ3) (hl:ds.length≤SZ):WT (tks ρ xs) K:=⟨_,_,hn▸h,hl,k⟩
theorem We.F {f:List Dat→Option RV} {as:List FE} {ρ:Env} {Q:Val→Env→Prop} (h:Was as ρ fun xs ρ1=>WF f ρ1 xs Q):We (eF f as) ρ Q:=by
 obtain ⟨x,ρ1,h1,ds,v,h2,h3,h4⟩:=h
 by_cases hb:cD v.dat=true
 ·rw [if_pos hb] at h4
  obtain ⟨ds',ρ2,h5,q⟩:=h4
  exact ⟨_,_,by unfold eF;rw [h1];dsimp only;rw [h2];dsimp only;rw [h3];dsimp only;rw [if_pos hb,h5],q⟩
 ·rw [if_neg hb] at h4
  exact ⟨_,_,by unfold eF;rw [h1];dsimp only;rw [h2];dsimp only;rw [h3];dsimp only;rw [if_neg hb],h4⟩
theorem WF.box {f:List Dat→Option RV} {ρ ρ2 ρ3:Env} {xs:List Val} {ds ds':List Dat} {v:RV} {Q:Val→Env→Prop} (h2:f ds=some v) (q:Q v.bq ρ3) (h1:pks ρ xs=some ds) (h3:cD v.dat=true) (h4:tks ρ xs=some (ds',ρ2)) (hn:ρ2=ρ3):WF f ρ xs Q:=
 ⟨_,_,h1,h2,by rw [if_pos h3];exact ⟨_,_,h4,hn▸q⟩⟩
theorem WF.val {f:List Dat→Option RV} {ρ:Env} {xs:List Val} {ds:List Dat} {v:RV} {Q:Val→Env→Prop} (h2:f ds=some v) (q:Q v.bq ρ) (h1:pks ρ xs=some ds) (h3:cD v.dat=false):WF f ρ xs Q:=
 ⟨_,_,h1,h2,by rw [if_neg (by rw [h3];decide)];exact q⟩
theorem We.If {t:FT} {a b:FE} {ρ:Env} {Q:Val→Env→Prop} (h:Wt t ρ fun c ρ1=>Wif c (We a ρ1 Q) (We b ρ1 Q)):We (eIf t a b) ρ Q:=by
 obtain ⟨c,ρ1,h1,h2,h3⟩:=h
 cases c with
 | true=>obtain ⟨v,ρ2,h4,q⟩:=h2 rfl;exact ⟨_,_,by unfold eIf;rw [h1];exact h4,q⟩
 | false=>obtain ⟨v,ρ2,h4,q⟩:=h3 rfl;exact ⟨_,_,by unfold eIf;rw [h1];exact h4,q⟩
noncomputable def Wb (v:Val) (K:Bool→Prop):Prop:=∃ c,v=.val (.bl c)∧K c
theorem Wb.mk {c:Bool} {K:Bool→Prop} (k:K c):Wb (.val (.bl c)) K:=⟨c,rfl,k⟩
theorem We.And {a b:FE} {ρ:Env} {Q:Val→Env→Prop} (h:We a ρ fun v ρ1=>Wb v fun c=>Wif c (We b ρ1 Q) (Q (.val (.bl false)) ρ1)):We (gU a b) ρ Q:=by
 obtain ⟨v,ρ1,h1,c,rfl,h2,h3⟩:=h
 cases c with
 | true=>obtain ⟨v,ρ2,h4,q⟩:=h2 rfl;exact ⟨_,_,by unfold gU;rw [h1];exact h4,q⟩
 | false=>exact ⟨_,_,by unfold gU;rw [h1],h3 rfl⟩
theorem We.Not {a:FE} {ρ:Env} {Q:Val→Env→Prop} (h:We a ρ fun v ρ1=>Wb v fun c=>Q (.val (.bl (!c))) ρ1):We (wF a) ρ Q:=by
 obtain ⟨v,ρ1,h1,c,rfl,h2⟩:=h
 exact ⟨_,_,by unfold wF;rw [h1],h2⟩
theorem Wt.V {a:FE} {ρ:Env} {Q:Bool→Env→Prop} (h:We a ρ fun v ρ1=>Wb v fun c=>Q c ρ1):Wt (tV a) ρ Q:=by
 obtain ⟨v,ρ1,h1,c,rfl,h2⟩:=h
 exact ⟨_,_,by unfold tV;rw [h1],h2⟩
theorem Wt.Not {t:FT} {ρ:Env} {Q:Bool→Env→Prop} (h:Wt t ρ fun c ρ1=>Q (!c) ρ1):Wt (di t) ρ Q:=by
 obtain ⟨v,ρ1,h1,h2⟩:=h
 exact ⟨_,_,by unfold di;rw [h1],h2⟩
theorem Wt.And {t u:FT} {ρ:Env} {Q:Bool→Env→Prop} (h:Wt t ρ fun c ρ1=>Wif c (Wt u ρ1 Q) (Q false ρ1)):Wt (jE t u) ρ Q:=by
 obtain ⟨c,ρ1,h1,h2,h3⟩:=h
 cases c with
 | true=>obtain ⟨v,ρ2,h4,q⟩:=h2 rfl;exact ⟨_,_,by unfold jE;rw [h1];exact h4,q⟩
 | false=>exact ⟨_,_,by unfold jE;rw [h1],h3 rfl⟩
theorem Wt.Or {t u:FT} {ρ:Env} {Q:Bool→Env→Prop} (h:Wt t ρ fun c ρ1=>Wif c (Q true ρ1) (Wt u ρ1 Q)):Wt (tOr t u) ρ Q:=by
 obtain ⟨c,ρ1,h1,h2,h3⟩:=h
 cases c with
 | false=>obtain ⟨v,ρ2,h4,q⟩:=h3 rfl;exact ⟨_,_,by unfold tOr;rw [h1];exact h4,q⟩
 | true=>exact ⟨_,_,by unfold tOr;rw [h1],h2 rfl⟩
theorem Wt.Tr {a:FE} {ρ:Env} {Q:Bool→Env→Prop} (h:We a ρ fun x ρ1=>∃ d c,pk ρ1 x=some d∧truth d=some c∧Q c ρ1):Wt (tTr a) ρ Q:=by
 obtain ⟨x,ρ1,h1,d,c,h2,h3,q⟩:=h
 exact ⟨_,_,by unfold tTr;rw [h1];dsimp only;rw [h2];dsimp only;rw [h3],q⟩
theorem Wt.T {ρ:Env} {Q:Bool→Env→Prop} (q:Q true ρ):Wt bO ρ Q:=⟨_,_,rfl,q⟩
theorem Wk.val {ρ:Env} {d:Dat} {K:Dat→Env→Prop} (k:K d ρ):Wk ρ (.val d) K:=⟨_,_,rfl,k⟩
theorem Wk.new {ρ:Env} {d:Dat} {K:Dat→Env→Prop} (k:K d ρ):Wk ρ (.new d) K:=⟨_,_,rfl,k⟩
theorem Wk.slot {ρ ρ':Env} {i:Nat} {d:Dat} {K:Dat→Env→Prop} (k:K d ρ') (h:ρ[i]?=some (.ow d)) (hs:ρ.set i (.sh d)=ρ'):Wk ρ (.slot i) K:=⟨_,_,by unfold tk;dsimp only;rw [h];dsimp only;rw [hs],k⟩
noncomputable def wY:Dat→Option (List Dat)
 | .lst ds=>some ds
 | .tup ds=>some ds
 | _=>none
theorem Wi.S {a:FE} {ρ:Env} {Q:List Dat→Env→Prop} (h:We a ρ fun x ρ1=>Wk ρ1 x fun d ρ2=>∃ ds,wY d=some ds∧Q ds ρ2):Wi (iS a) ρ Q:=by
 obtain ⟨x,ρ1,h1,d,ρ2,h2,ds,hd,q⟩:=h
 cases d with
 | lst xs=>cases hd;exact ⟨_,_,by unfold iS;rw [h1];dsimp only;rw [h2],q⟩
 | tup xs=>cases hd;exact ⟨_,_,by unfold iS;rw [h1];dsimp only;rw [h2],q⟩
 | _=>cases hd
noncomputable def bS (v:Val) (K:Int→Prop):Prop:=∃ i,v=.val (.int i)∧K i
theorem bS.mk {i:Int} {K:Int→Prop} (k:K i):bS (.val (.int i)) K:=⟨i,rfl,k⟩
theorem Wi.R1 {a:FE} {ρ:Env} {Q:List Dat→Env→Prop} (h:We a ρ fun v ρ1=>bS v fun j=>Q (ups 0 j.toNat) ρ1∧j≤BIG∧-BIG≤j):Wi (iR1 a) ρ Q:=by
 obtain ⟨v,ρ1,h1,j,rfl,q,h2⟩:=h
 exact ⟨_,_,by unfold iR1;rw [h1];dsimp only;rw [if_pos h2],q⟩
theorem Wi.R2 {a b:FE} {ρ:Env} {Q:List Dat→Env→Prop} (h:We a ρ fun v ρ1=>bS v fun i=>We b ρ1 fun w ρ2=>bS w fun j=>Q (ups i (j-i).toNat) ρ2∧j≤BIG∧-BIG≤j∧i≤BIG∧-BIG≤i):Wi (iR2 a b) ρ Q:=by
 obtain ⟨v,ρ1,h1,i,rfl,w,ρ2,h2,j,rfl,q,h3⟩:=h
 exact ⟨_,_,by unfold iR2;rw [h1];dsimp only;rw [h2];dsimp only;rw [if_pos h3],q⟩
theorem Wi.Rev {a:FE} {ρ:Env} {Q:List Dat→Env→Prop} (h:We a ρ fun x ρ1=>Wk ρ1 x fun d ρ2=>∃ ds,d=.lst ds∧Q ds.reverse ρ2):Wi (wN a) ρ Q:=by
 obtain ⟨x,ρ1,h1,d,ρ2,h2,ds,rfl,q⟩:=h
 exact ⟨_,_,by unfold wN;rw [h1];dsimp only;rw [h2],q⟩
theorem Wi.En {a:FE} {ρ:Env} {Q:List Dat→Env→Prop} (h:We a ρ fun x ρ1=>Wk ρ1 x fun d ρ2=>∃ ds,d=.lst ds∧Q (ic 0 ds) ρ2):Wi (iEn a) ρ Q:=by
 obtain ⟨x,ρ1,h1,d,ρ2,h2,ds,rfl,q⟩:=h
 exact ⟨_,_,by unfold iEn;rw [h1];dsimp only;rw [h2],q⟩
theorem Ws.nx {ρ:Env} {N:Env→Prop} {R:RV→Env→Prop} {B C:Env→Prop} (n:N ρ):Ws sNx ρ N R B C:=⟨_,rfl,n⟩
theorem Ws.seq {s u:FS} {ρ:Env} {N:Env→Prop} {R:RV→Env→Prop} {B C:Env→Prop} (h:Ws s ρ (fun ρ1=>Ws u ρ1 N R B C) R B C):Ws (aD s u) ρ N R B C:=by
 obtain ⟨o,h1,h2⟩:=h
 cases o with
 | nx ρ1=>obtain ⟨o,h3,h4⟩:=h2;exact ⟨o,by unfold aD;rw [h1];exact h3,h4⟩
 | ret r ρ1=>exact ⟨.ret r ρ1,by unfold aD;rw [h1],h2⟩
 | bk ρ1=>exact ⟨.bk ρ1,by unfold aD;rw [h1],h2⟩
 | ct ρ1=>exact ⟨.ct ρ1,by unfold aD;rw [h1],h2⟩
noncomputable def WA (i:Nat) (v:Val) (ρ:Env) (N:Env→Prop):Prop:=match v with
 | .new d=>N (ρ.set i (.ow d))
 | x=>Wk ρ x fun d ρ2=>N (ρ2.set i (.sh d))
theorem Ws.A {i:Nat} {e:FE} {ρ:Env} {N:Env→Prop} {R:RV→Env→Prop} {B C:Env→Prop} (h:We e ρ fun v ρ1=>WA i v ρ1 N) (hi:i≠0):Ws (sA i e) ρ N R B C:=by
 obtain ⟨v,ρ1,h1,h2⟩:=h
 cases v with
 | new d=>exact ⟨.nx _,by unfold sA;rw [if_neg hi,h1],h2⟩
 | val d=>obtain ⟨d',ρ2,h3,h4⟩:=h2;exact ⟨.nx _,by unfold sA;rw [if_neg hi,h1];dsimp only;rw [h3],h4⟩
 | slot j=>obtain ⟨d',ρ2,h3,h4⟩:=h2;exact ⟨.nx _,by unfold sA;rw [if_neg hi,h1];dsimp only;rw [h3],h4⟩
theorem WA.new {i:Nat} {d:Dat} {ρ ρ2:Env} {N:Env→Prop} (n:N ρ2) (hs:ρ.set i (.ow d)=ρ2):WA i (.new d) ρ N:=by unfold WA;dsimp only;rw [hs];exact n
theorem WA.val {i:Nat} {d:Dat} {ρ ρ2:Env} {N:Env→Prop} (n:N ρ2) (hs:ρ.set i (.sh d)=ρ2):WA i (.val d) ρ N:=⟨_,_,rfl,by show N _;rw [hs];exact n⟩
theorem WA.slot {i j:Nat} {d:Dat} {ρ ρ2:Env} {N:Env→Prop} (n:N ρ2) (h:ρ[j]?=some (.ow d)) (hs:(ρ.set j (.sh d)).set i (.sh d)=ρ2):WA i (.slot j) ρ N:=⟨_,_,by unfold tk;dsimp only;rw [h],by show N _;rw [hs];exact n⟩
theorem Ws.E {e:FE} {ρ:Env} {N:Env→Prop} {R:RV→Env→Prop} {B C:Env→Prop} (h:We e ρ fun _ ρ1=>N ρ1):Ws (sE e) ρ N R B C:=by
 obtain ⟨x,ρ1,h1,n⟩:=h
 exact ⟨.nx _,by unfold sE;rw [h1],n⟩
noncomputable def WR (v:Val) (ρ:Env) (R:RV→Env→Prop):Prop:=match v with
 | .new d=>R (.new d) ρ
 | .val d=>R (.val d) ρ
 | .slot i=>(∃ d,ρ[i]?=some (.ow d)∧R (.new d) (ρ.set i .un))
theorem Ws.R {e:FE} {ρ:Env} {N:Env→Prop} {R:RV→Env→Prop} {B C:Env→Prop} (h:We e ρ fun v ρ1=>WR v ρ1 R):Ws (sR e) ρ N R B C:=by
 obtain ⟨v,ρ1,h1,h2⟩:=h
 cases v with
 | new d=>exact ⟨.ret _ _,by unfold sR;rw [h1],h2⟩
 | val d=>exact ⟨.ret _ _,by unfold sR;rw [h1],h2⟩
 | slot i=>obtain ⟨d,h3,h4⟩:=h2;exact ⟨.ret _ _,by unfold sR;rw [h1];dsimp only;rw [h3],h4⟩
theorem WR.new {d:Dat} {ρ:Env} {R:RV→Env→Prop} (r:R (.new d) ρ):WR (.new d) ρ R:=r
theorem WR.val {d:Dat} {ρ:Env} {R:RV→Env→Prop} (r:R (.val d) ρ):WR (.val d) ρ R:=r
theorem WR.slot {d:Dat} {ρ:Env} {i:Nat} {R:RV→Env→Prop} (r:R (.new d) (ρ.set i .un)) (h:ρ[i]?=some (.ow d)):WR (.slot i) ρ R:=⟨d,h,r⟩
theorem Ws.If {t:FT} {a b:FS} {ρ:Env} {N:Env→Prop} {R:RV→Env→Prop} {B C:Env→Prop} (h:Wt t ρ fun c ρ1=>Wif c (Ws a ρ1 N R B C) (Ws b ρ1 N R B C)):Ws (sIf t a b) ρ N R B C:=by
 obtain ⟨c,ρ1,h1,h2,h3⟩:=h
 cases c with
 | true=>obtain ⟨o,h4,q⟩:=h2 rfl;exact ⟨_,by unfold sIf;rw [h1];exact h4,q⟩
 | false=>obtain ⟨o,h4,q⟩:=h3 rfl;exact ⟨_,by unfold sIf;rw [h1];exact h4,q⟩
theorem Ws.App {i:Nat} {e:FE} {ρ:Env} {N:Env→Prop} {R:RV→Env→Prop} {B C:Env→Prop} {ds0:List Dat} (h:We e ρ fun x ρ1=>Wk ρ1 x fun d ρ2=>∃ ds ρ3,ρ2[i]?=some (.ow (.lst ds))∧ρ2.set i (.ow (.lst (ds++[d])))=ρ3∧N ρ3∧ds.length<SZ) (h0:ρ[i]?=some (.ow (.lst ds0))):Ws (mG i e) ρ N R B C:=by
 obtain ⟨x,ρ1,h1,d,ρ2,h2,ds,ρ3,h3,h5,n,h4⟩:=h
 exact ⟨.nx _,by unfold mG;rw [h0];dsimp only;rw [h1];dsimp only;rw [h2];dsimp only;rw [h3];dsimp only;rw [if_pos h4,h5],n⟩
theorem iY {i:Nat} {d:Dat} {ds:List Dat} {ρ2 ρ3:Env} {N:Env→Prop} (n:N ρ3) (h:ρ2[i]?=some (.ow (.lst ds))) (hs:ρ2.set i (.ow (.lst (ds++[d])))=ρ3) (hl:ds.length<SZ):∃ ds ρ3,ρ2[i]?=some (.ow (.lst ds))∧ρ2.set i (.ow (.lst (ds++[d])))=ρ3∧N ρ3∧ds.length<SZ:=⟨_,_,h,hs,n,hl⟩
theorem Ws.Set {i:Nat} {j e:FE} {ρ:Env} {N:Env→Prop} {R:RV→Env→Prop} {B C:Env→Prop} (h:We e ρ fun x ρ1=>Wk ρ1 x fun d ρ2=>(∃ d0,ρ2[i]?=some (.ow d0))∧We j ρ2 fun y ρ3=>bS y fun k=>∃ ds m ρ4,ρ3[i]?=some (.ow (.lst ds))∧ixN ds.length k=some m∧ρ3.set i (.ow (.lst (ds.set m d)))=ρ4∧N ρ4):Ws (r9 i j e) ρ N R B C:=by
 obtain ⟨x,ρ1,h1,d,ρ2,h2,⟨d0,h0⟩,y,ρ3,h3,k,rfl,ds,m,ρ4,h4,h5,h6,n⟩:=h
 exact ⟨.nx _,by unfold r9;rw [h1];dsimp only;rw [h2];dsimp only;rw [h0];dsimp only;rw [h3];dsimp only;rw [h4];dsimp only;rw [h5];dsimp only;rw [h6],n⟩
theorem Ws.G0 {i:Nat} {j e:FE} {ρ:Env} {N:Env→Prop} {R:RV→Env→Prop} {B C:Env→Prop} (h:We e ρ fun x ρ1=>Wk ρ1 x fun d ρ2=>(∃ d0,ρ2[i]?=some (.ow d0))∧We j ρ2 fun y ρ3=>bS y fun k=>∃ ks vs ρ4,ρ3[i]?=some (.ow (.dct ks vs))∧ρ3.set i (.ow (.dct (jj ks k) (jl ks vs k d)))=ρ4∧N ρ4∧ks.length<SZ):Ws (j_ i j e) ρ N R B C:=by
 obtain ⟨x,ρ1,h1,d,ρ2,h2,⟨d0,h0⟩,y,ρ3,h3,k,rfl,ks,vs,ρ4,h4,h5,n,h6⟩:=h
 exact ⟨.nx _,by unfold j_;rw [h1];dsimp only;rw [h2];dsimp only;rw [h0];dsimp only;rw [h3];dsimp only;rw [h4];dsimp only;rw [if_pos h6,h5],n⟩
theorem n8 {i:Nat} {k:Int} {d:Dat} {ks:List Int} {vs:List Dat} {ρ3 ρ4:Env} {N:Env→Prop} (n:N ρ4) (h:ρ3[i]?=some (.ow (.dct ks vs))) (hs:ρ3.set i (.ow (.dct (jj ks k) (jl ks vs k d)))=ρ4) (hl:ks.length<SZ):∃ ks vs ρ4,ρ3[i]?=some (.ow (.dct ks vs))∧ρ3.set i (.ow (.dct (jj ks k) (jl ks vs k d)))=ρ4∧N ρ4∧ks.length<SZ:=⟨_,_,_,h,hs,n,hl⟩
theorem Ws.For {it:FI} {bd:FB} {body:FS} {ρ:Env} {N:Env→Prop} {R:RV→Env→Prop} {B C:Env→Prop} (h:Wi it ρ fun ds ρ1=>Ws (iK bd body ds) ρ1 N R B C):Ws (d8 it bd body) ρ N R B C:=by
 obtain ⟨ds,ρ1,h1,o,h2,h3⟩:=h
 exact ⟨o,by unfold d8;rw [h1];exact h2,h3⟩
theorem Ws.inv {α:Type} (enc:α→Dat) (bd:FB) (body:FS) (xs:List α) (ρ:Env) (N:Env→Prop) (R:RV→Env→Prop) (B C:Env→Prop) (I:List α→List α→Env→Prop)
  (h0:I [] xs ρ) (hs:∀ p x q ρ,xs=p++x::q→I p (x::q) ρ→∃ ρ1,bd (enc x) ρ=some ρ1∧Ws body ρ1 (fun ρ2=>I (p++[x]) q ρ2) R N (fun ρ2=>I (p++[x]) q ρ2)) (he:∀ ρ,I xs [] ρ→N ρ):Ws (iK bd body (xs.map enc)) ρ N R B C:=by
 have go:∀ (q p:List α) (ρ:Env),xs=p++q→I p q ρ→Ws (iK bd body (q.map enc)) ρ N R B C:=fun q=>by
  induction q with
  | nil=>intro p ρ e i;rw [List.append_nil] at e;exact ⟨.nx _,rfl,he ρ (e▸i)⟩
  | cons x q ih=>
   intro p ρ e i
   obtain ⟨ρ1,h1,o,h2,h3⟩:=hs p x q ρ e i
   have e':xs=(p++[x])++q:=by rw [List.append_assoc];exact e
   cases o with
   | nx ρ2=>obtain ⟨o,h4,h5⟩:=ih _ _ e' h3;exact ⟨o,by rw [List.map_cons,iK,h1];dsimp only;rw [h2];exact h4,h5⟩
   | ct ρ2=>obtain ⟨o,h4,h5⟩:=ih _ _ e' h3;exact ⟨o,by rw [List.map_cons,iK,h1];dsimp only;rw [h2];exact h4,h5⟩
   | bk ρ2=>exact ⟨.nx _,by rw [List.map_cons,iK,h1];dsimp only;rw [h2],h3⟩
   | ret r ρ2=>exact ⟨.ret _ _,by rw [List.map_cons,iK,h1];dsimp only;rw [h2],h3⟩
 exact go xs [] ρ rfl h0
theorem Wr.fn {n m:Nat} {body:FS} {ds:List Dat} {ρ:Env} {P:RV→Prop} (b:Ws body ρ (fun _=>P (.val .non)) (fun r _=>P r) (fun _=>False) (fun _=>False)) (hρ:ds.map Cell.sh++List.replicate m .un=ρ) (h:ds.length=n):Wr (fn n m body ds) P:=by
 obtain ⟨o,h1,h2⟩:=b
 cases o with
 | nx ρ1=>exact ⟨_,by unfold Dm.fn;rw [if_pos h,hρ,h1],h2⟩
 | ret r ρ1=>exact ⟨_,by unfold Dm.fn;rw [if_pos h,hρ,h1],h2⟩
 | bk ρ1=>exact h2.elim
 | ct ρ1=>exact h2.elim
theorem Wr.eq {o:Option RV} {r:RV} (h:Wr o fun x=>x=r):o=some r:=by obtain ⟨x,h1,rfl⟩:=h;exact h1
theorem uU {α:Type} (enc:α→Dat) (p:α→Bool) (v:α→Dat) (bd:FB) (t:FT) (el:FE) (mk:Cell→Env) (hb:∀ d c,bd d (mk c)=some (mk (.sh d))):∀ (xs:List α) (c:Cell) (acc:List Dat),
  (∀ x∈xs,t (mk (.sh (enc x)))=some (p x,mk (.sh (enc x))))→(∀ x∈xs,p x=true→We el (mk (.sh (enc x))) fun w ρ'=>Wk ρ' w fun d ρ''=>d=v x∧ρ''=mk (.sh (enc x))) →
  ∃ c',cE bd t el (xs.map enc) (mk c) acc=some (acc++(xs.filter p).map v,mk c')
 | [],c,acc,_,_=>⟨c,by simp [cE]⟩
 | x::xs,c,acc,ht,he=>by
  rw [List.map_cons,cE,hb]
  dsimp only
  rw [ht x List.mem_cons_self]
  have ht':=fun y hy=>ht y (List.mem_cons_of_mem _ hy)
  have he':=fun y hy=>he y (List.mem_cons_of_mem _ hy)
  by_cases h:p x=true
  ·obtain ⟨w,ρ',h1,d,ρ'',h2,rfl,rfl⟩:=he x List.mem_cons_self h
   rw [h]
   dsimp only
   rw [h1]
   dsimp only
   rw [h2]
   obtain ⟨c',e⟩:=uU enc p v bd t el mk hb xs (.sh (enc x)) (acc++[v x]) ht' he'
   exact ⟨c',by dsimp only;rw [e,List.filter_cons_of_pos h];simp⟩
  ·rw [Bool.not_eq_true] at h
   rw [h]
   obtain ⟨c',e⟩:=uU enc p v bd t el mk hb xs (.sh (enc x)) acc ht' he'
   exact ⟨c',by dsimp only;rw [e,List.filter_cons_of_neg (by rw [h];decide)]⟩
theorem Wt.get {t:FT} {ρ:Env} {c:Bool} (h:Wt t ρ fun c' ρ'=>c'=c∧ρ'=ρ):t ρ=some (c,ρ):=by
 obtain ⟨_,_,h1,rfl,rfl⟩:=h;exact h1
theorem We.Comp {α:Type} (enc:α→Dat) (xs:List α) (p:α→Bool) (v:α→Dat) {it:FI} {k:Nat} {t:FT} {el:FE} {ρ ρ1:Env} {Q:Val→Env→Prop}
  (q:Q (.new (.lst ((xs.filter p).map v))) ρ1) (hit:it ρ=some (xs.map enc,ρ1)) (hk:ρ1.length=k) (hk0:k≠0) (hl:xs.length≤SZ)
  (ht:∀ x∈xs,Wt t (ρ1++[.sh (enc x)]) fun c ρ'=>c=p x∧ρ'=ρ1++[.sh (enc x)])
  (he:∀ x∈xs,p x=true→We el (ρ1++[.sh (enc x)]) fun w ρ'=>Wk ρ' w fun d ρ''=>d=v x∧ρ''=ρ1++[.sh (enc x)]):We (bF it 1 (bN k) t el) ρ Q:=by
 have bd:∀ (d:Dat) (c:Cell),bN k d (ρ1++[c])=some (ρ1++[.sh d]):=fun d c=>by
  unfold bN
  rw [if_neg hk0,List.set_append_right _ _ (by omega)]
  simp [hk]
 obtain ⟨c',e⟩:=uU enc p v (bN k) t el (fun c=>ρ1++[c]) bd xs .un [] (fun x hx=>Wt.get (ht x hx)) he
 refine ⟨_,_,?_,q⟩
 unfold bF
 rw [hit]
 dsimp only
 rw [if_pos (by rw [List.length_map];exact hl)]
 show (match cE _ _ _ _ (ρ1++[.un]) [] with | none=>none | some (ys,ρ2)=>some (Val.new (.lst ys),ρ2.take ρ1.length))=_
 rw [e]
 dsimp only
 rw [List.nil_append,List.take_left]
theorem We.uV {α:Type} (enc:α→Dat) (xs:List α) (p:α→Bool) (v:α→Dat) {i:Nat} {k:Nat} {t:FT} {el:FE} {ρ:Env} {Q:Val→Env→Prop} {d:Dat}
  (q:Q (.new (.lst ((xs.filter p).map v))) ρ) (hi:ρ[i]?=some (.sh d)) (hd:wY d=some (xs.map enc)) (hk:ρ.length=k) (hk0:k≠0) (hl:xs.length≤SZ)
  (ht:∀ x∈xs,Wt t (ρ++[.sh (enc x)]) fun c ρ'=>c=p x∧ρ'=ρ++[.sh (enc x)])
  (he:∀ x∈xs,p x=true→We el (ρ++[.sh (enc x)]) fun w ρ'=>Wk ρ' w fun d ρ''=>d=v x∧ρ''=ρ++[.sh (enc x)]):We (aN i 1 (bN k) t el) ρ Q:=by
 have hit:iS (eV i) ρ=some (xs.map enc,ρ):=by
  unfold iS eV
  rw [hi]
  cases d with
  | lst ys=>cases hd;rfl
  | tup ys=>cases hd;rfl
  | _=>cases hd
 obtain ⟨a,ρ',h1,h2⟩:=We.Comp enc xs p v (Q:=Q) q hit hk hk0 hl ht he
 refine ⟨a,ρ',?_,h2⟩
 unfold aN
 rw [hi]
 exact h1
theorem We.Kg {α:Type} (enc:α→Dat) (xs:List α) (p:α→Bool) (v:α→Dat) {i:Nat} {k:Nat} {t:FT} {el:FE} {ρ ρ1:Env} {Q:Val→Env→Prop}
  (q:Q (.new (.lst ((xs.filter p).map v))) ρ) (hi:ρ[i]?=some (.ow (.lst (xs.map enc)))) (h1:ρ.set i .un=ρ1) (hk:ρ.length=k) (hk0:k≠0) (hl:xs.length≤SZ)
  (ht:∀ x∈xs,Wt t (ρ1++[.sh (enc x)]) fun c ρ'=>c=p x∧ρ'=ρ1++[.sh (enc x)])
  (he:∀ x∈xs,p x=true→We el (ρ1++[.sh (enc x)]) fun w ρ'=>Wk ρ' w fun d ρ''=>d=v x∧ρ''=ρ1++[.sh (enc x)]):We (aN i 1 (bN k) t el) ρ Q:=by
 have hlen:ρ1.length=ρ.length:=by rw [← h1,List.length_set]
 have hil:i<ρ.length:=(List.getElem?_eq_some_iff.mp hi).1
 have bd:∀ (d:Dat) (c:Cell),bN k d (ρ1++[c])=some (ρ1++[.sh d]):=fun d c=>by
  unfold bN
  rw [if_neg hk0,List.set_append_right _ _ (by omega)]
  simp [hk,hlen]
 obtain ⟨c',e⟩:=uU enc p v (bN k) t el (fun c=>ρ1++[c]) bd xs .un [] (fun x hx=>Wt.get (ht x hx)) he
 refine ⟨_,_,?_,q⟩
 unfold aN
 rw [hi]
 dsimp only
 rw [if_pos (by rw [List.length_map];exact hl),h1]
 show (match cE _ _ _ _ (ρ1++[.un]) [] with | none=>none | some (ys,ρ2)=>some (Val.new (.lst ys),(ρ2.take ρ.length).set i (.ow (.lst (xs.map enc)))))=_
 rw [e]
 dsimp only
 rw [List.nil_append,← hlen,List.take_left,← h1,List.set_set]
 congr 2
 apply List.ext_getElem?
 intro j
 by_cases h:i=j
 ·subst h;rw [List.getElem?_set_self hil,hi]
 ·rw [List.getElem?_set_ne h]
theorem We.Map {α β:Type} (enc:α→Dat) (xs:List α) (f:α→β) (cJ:β→Dat) {it:FI} {k:Nat} {el:FE} {ρ ρ1:Env} {Q:Val→Env→Prop}
  (q:Q (.new (.lst ((xs.map f).map cJ))) ρ1) (hit:it ρ=some (xs.map enc,ρ1)) (hk:ρ1.length=k) (hk0:k≠0) (hl:xs.length≤SZ)
  (he:∀ x∈xs,We el (ρ1++[.sh (enc x)]) fun w ρ'=>Wk ρ' w fun d ρ''=>d=cJ (f x)∧ρ''=ρ1++[.sh (enc x)]):We (bF it 1 (bN k) bO el) ρ Q:=
 We.Comp enc xs (fun _=>true) (fun x=>cJ (f x)) (by rw [List.filter_eq_self.mpr (fun _ _=>rfl)];rw [List.map_map] at q;exact q) hit hk hk0 hl (fun _ _=>Wt.T ⟨rfl,rfl⟩) fun x hx _=>he x hx
theorem We.sW {α β:Type} (enc:α→Dat) (xs:List α) (f:α→β) (cJ:β→Dat) {i:Nat} {k:Nat} {el:FE} {ρ:Env} {Q:Val→Env→Prop} {d:Dat}
  (q:Q (.new (.lst ((xs.map f).map cJ))) ρ) (hi:ρ[i]?=some (.sh d)) (hd:wY d=some (xs.map enc)) (hk:ρ.length=k) (hk0:k≠0) (hl:xs.length≤SZ)
  (he:∀ x∈xs,We el (ρ++[.sh (enc x)]) fun w ρ'=>Wk ρ' w fun d ρ''=>d=cJ (f x)∧ρ''=ρ++[.sh (enc x)]):We (aN i 1 (bN k) bO el) ρ Q:=
 We.uV enc xs (fun _=>true) (fun x=>cJ (f x)) (by rw [List.filter_eq_self.mpr (fun _ _=>rfl)];rw [List.map_map] at q;exact q) hi hd hk hk0 hl (fun _ _=>Wt.T ⟨rfl,rfl⟩) fun x hx _=>he x hx
theorem We.zA {α β:Type} (enc:α→Dat) (xs:List α) (f:α→β) (cJ:β→Dat) {i:Nat} {k:Nat} {el:FE} {ρ ρ1:Env} {Q:Val→Env→Prop}
  (q:Q (.new (.lst ((xs.map f).map cJ))) ρ) (hi:ρ[i]?=some (.ow (.lst (xs.map enc)))) (h1:ρ.set i .un=ρ1) (hk:ρ.length=k) (hk0:k≠0) (hl:xs.length≤SZ)
  (he:∀ x∈xs,We el (ρ1++[.sh (enc x)]) fun w ρ'=>Wk ρ' w fun d ρ''=>d=cJ (f x)∧ρ''=ρ1++[.sh (enc x)]):We (aN i 1 (bN k) bO el) ρ Q:=
 We.Kg enc xs (fun _=>true) (fun x=>cJ (f x)) (by rw [List.filter_eq_self.mpr (fun _ _=>rfl)];rw [List.map_map] at q;exact q) hi h1 hk hk0 hl (fun _ _=>Wt.T ⟨rfl,rfl⟩) fun x hx _=>he x hx
theorem We.CD {α β:Type} (enc:α→Dat) (xs:List α) (p:α→Bool) (f:α→β) (cJ:β→Dat) {i:Nat} {k:Nat} {t:FT} {el:FE} {ρ:Env} {Q:Val→Env→Prop} {d:Dat}
  (q:Q (.new (.lst (((xs.filter p).map f).map cJ))) ρ) (hi:ρ[i]?=some (.sh d)) (hd:wY d=some (xs.map enc)) (hk:ρ.length=k) (hk0:k≠0) (hl:xs.length≤SZ)
  (ht:∀ x∈xs,Wt t (ρ++[.sh (enc x)]) fun c ρ'=>c=p x∧ρ'=ρ++[.sh (enc x)])
  (he:∀ x∈xs,p x=true→We el (ρ++[.sh (enc x)]) fun w ρ'=>Wk ρ' w fun d ρ''=>d=cJ (f x)∧ρ''=ρ++[.sh (enc x)]):We (aN i 1 (bN k) t el) ρ Q:=
 We.uV enc xs p (fun x=>cJ (f x)) (by rw [List.map_map] at q;exact q) hi hd hk hk0 hl ht he
theorem uW (i j:Int):gEq (.int i) (.int j)=vB (decide (i=j)):=by
 have:(i == j)=decide (i=j):=by by_cases h:i=j<;>simp [h]
 show vB (i == j)=_
 rw [this]
theorem n9 (i j:Int):gNe (.int i) (.int j)=vB (!decide (i=j)):=by
 have:(i == j)=decide (i=j):=by by_cases h:i=j<;>simp [h]
 show vB (!(i == j))=_
 rw [this]
theorem Wg2.eq {i j:Int} {o p:Option Dat} {K:RV→Prop} (k:K (.val (.bl (decide (i=j))))) (ho:o=some (.int i)) (hp:p=some (.int j)):Wg2 gEq o p K:=⟨_,_,_,ho,hp,uW i j,k⟩
theorem Wg2.ne {i j:Int} {o p:Option Dat} {K:RV→Prop} (k:K (.val (.bl (!decide (i=j))))) (ho:o=some (.int i)) (hp:p=some (.int j)):Wg2 gNe o p K:=⟨_,_,_,ho,hp,n9 i j,k⟩
theorem Wg2.neb {i j:Bool} {o p:Option Dat} {K:RV→Prop} (k:K (.val (.bl (!(i == j))))) (ho:o=some (.bl i)) (hp:p=some (.bl j)):Wg2 gNe o p K:=⟨_,_,_,ho,hp,rfl,k⟩
theorem Wg2.lt {i j:Int} {o p:Option Dat} {K:RV→Prop} (k:K (.val (.bl (decide (i<j))))) (ho:o=some (.int i)) (hp:p=some (.int j)):Wg2 gLt o p K:=⟨_,_,_,ho,hp,rfl,k⟩
theorem Wg2.le {i j:Int} {o p:Option Dat} {K:RV→Prop} (k:K (.val (.bl (decide (i≤j))))) (ho:o=some (.int i)) (hp:p=some (.int j)):Wg2 gLe o p K:=⟨_,_,_,ho,hp,rfl,k⟩
theorem Wg2.gt {i j:Int} {o p:Option Dat} {K:RV→Prop} (k:K (.val (.bl (decide (j<i))))) (ho:o=some (.int i)) (hp:p=some (.int j)):Wg2 gGt o p K:=⟨_,_,_,ho,hp,rfl,k⟩
theorem Wg2.ge {i j:Int} {o p:Option Dat} {K:RV→Prop} (k:K (.val (.bl (decide (j≤i))))) (ho:o=some (.int i)) (hp:p=some (.int j)):Wg2 gGe o p K:=⟨_,_,_,ho,hp,rfl,k⟩
theorem Wg2.add {i j:Int} {o p:Option Dat} {K:RV→Prop} (k:K (.val (.int (i+j)))) (ho:o=some (.int i)) (hp:p=some (.int j)):Wg2 bY o p K:=⟨_,_,_,ho,hp,rfl,k⟩
theorem Wg2.Kh {xs ys:List Dat} {o p:Option Dat} {K:RV→Prop} (k:K (.new (.lst (xs++ys)))) (ho:o=some (.lst xs)) (hp:p=some (.lst ys)) (h:xs.length+ys.length≤SZ):Wg2 bY o p K:=⟨_,_,_,ho,hp,by unfold bY;dsimp only;rw [if_pos h],k⟩
theorem Wg2.sub {i j:Int} {o p:Option Dat} {K:RV→Prop} (k:K (.val (.int (i-j)))) (ho:o=some (.int i)) (hp:p=some (.int j)):Wg2 fq o p K:=⟨_,_,_,ho,hp,rfl,k⟩
theorem Wg2.mul {i j:Int} {o p:Option Dat} {K:RV→Prop} (k:K (.val (.int (i*j)))) (ho:o=some (.int i)) (hp:p=some (.int j)) (h:(-B64<i∧i<B64)∨(-B64<j∧j<B64)):Wg2 gW o p K:=⟨_,_,_,ho,hp,by unfold gW;dsimp only;rw [if_pos h],k⟩
theorem Wg2.div {i j:Int} {o p:Option Dat} {K:RV→Prop} (k:K (.val (.int (i / j)))) (ho:o=some (.int i)) (hp:p=some (.int j)) (h:0<j∧j<fG):Wg2 r_ o p K:=⟨_,_,_,ho,hp,by unfold r_;dsimp only;rw [if_pos h],k⟩
theorem Wg2.mod {i j:Int} {o p:Option Dat} {K:RV→Prop} (k:K (.val (.int (i % j)))) (ho:o=some (.int i)) (hp:p=some (.int j)) (h:0<j):Wg2 iM o p K:=⟨_,_,_,ho,hp,by unfold iM;dsimp only;rw [if_pos h],k⟩
theorem Wg2.pow {i j z:Int} {o p:Option Dat} {K:RV→Prop} (k:K (.val (.int z))) (ho:o=some (.int i)) (hp:p=some (.int j)) (h:0≤j∧j≤1000000∧i.natAbs<1000000) (hz:i ^ j.toNat=z):Wg2 pL o p K:=⟨_,_,_,ho,hp,by unfold pL;dsimp only;rw [if_pos h,hz],k⟩
theorem Wg2.ix {d e:Dat} {v:Dat} {o p:Option Dat} {K:RV→Prop} (k:K (.val v)) (ho:o=some d) (hp:p=some e) (h:gIx d e=some (.val v)):Wg2 gIx o p K:=⟨_,_,_,ho,hp,h,k⟩
theorem ie {α:Type} (enc:α→Dat) (xs:List α) (i:Int) (h0:0≤i) (h1:i<xs.length):atI (xs.map enc) i=some (enc (xs[i.toNat]'(by omega))):=by
 unfold atI ixN
 rw [List.length_map,if_pos h0,if_pos h1]
 show (xs.map enc)[i.toNat]?=_
 rw [List.getElem?_map,List.getElem?_eq_getElem (by omega)]
 rfl
theorem Wg2.ixL {α:Type} {enc:α→Dat} {xs:List α} {i:Int} {o p:Option Dat} {K:RV→Prop} (h0:0≤i) (h1:i<xs.length) (k:K (.val (enc (xs[i.toNat]'(by omega))))) (ho:o=some (.lst (xs.map enc))) (hp:p=some (.int i)):Wg2 gIx o p K:=
 ⟨_,_,_,ho,hp,by unfold gIx;dsimp only;rw [ie enc xs i h0 h1];rfl,k⟩
theorem n_ (i:Int) (xs:List Int):inD (.int i) (xs.map Dat.int)=decide (i∈xs):=by
 induction xs with
 | nil=>rfl
 | cons x xs ih=>
  have ih':(xs.map Dat.int).any (fun y=>eqD y (.int i))=decide (i∈xs):=ih
  unfold inD
  rw [List.map_cons,List.any_cons,ih']
  show ((x == i)||_)=_
  by_cases h:x=i
  ·simp [h]
  ·have h':¬ i=x:=fun z=>h z.symm
   simp [h,h']
theorem sX (xs:List Int):(xs.map Dat.int).all (okD 7)=true:=by
 rw [List.all_eq_true]
 intro d hd
 obtain ⟨x,_,rfl⟩:=List.mem_map.mp hd
 rfl
theorem Wg2.inL {i:Int} {xs:List Int} {o p:Option Dat} {K:RV→Prop} (k:K (.val (.bl (decide (i∈xs))))) (ho:o=some (.int i)) (hp:p=some (.lst (xs.map Dat.int))):Wg2 gIn o p K:=
 ⟨_,_,_,ho,hp,by unfold gIn;dsimp only;rw [show okD 8 (.int i)=true from rfl,sX,n_];rfl,k⟩
theorem Wg2.L7 {i:Int} {xs:List Int} {o p:Option Dat} {K:RV→Prop} (k:K (.val (.bl (!decide (i∈xs))))) (ho:o=some (.int i)) (hp:p=some (.lst (xs.map Dat.int))):Wg2 cR o p K:=
 ⟨_,_,_,ho,hp,by unfold cR;dsimp only;rw [show okD 8 (.int i)=true from rfl,sX,n_];rfl,k⟩
theorem Wg2.inT {i:Int} {xs:List Int} {o p:Option Dat} {K:RV→Prop} (k:K (.val (.bl (decide (i∈xs))))) (ho:o=some (.int i)) (hp:p=some (.tup (xs.map Dat.int))):Wg2 gIn o p K:=
 ⟨_,_,_,ho,hp,by unfold gIn;dsimp only;rw [show okD 8 (.int i)=true from rfl,sX,n_];rfl,k⟩
theorem Wg2.din {i:Int} {ks:List Int} {vs:List Dat} {o p:Option Dat} {K:RV→Prop} (k:K (.val (.bl (bu ks vs i).isSome))) (ho:o=some (.int i)) (hp:p=some (.dct ks vs)):Wg2 wR o p K:=⟨_,_,_,ho,hp,rfl,k⟩
theorem Wg2.Kl {i:Int} {ks:List Int} {vs:List Dat} {o p:Option Dat} {K:RV→Prop} (k:K (.val (.bl (!(bu ks vs i).isSome)))) (ho:o=some (.int i)) (hp:p=some (.dct ks vs)):Wg2 pZ o p K:=⟨_,_,_,ho,hp,rfl,k⟩
theorem Wg2.dx {i:Int} {ks:List Int} {vs:List Dat} {d:Dat} {o p:Option Dat} {K:RV→Prop} (h:bu ks vs i=some d) (k:K (.val d)) (ho:o=some (.dct ks vs)) (hp:p=some (.int i)):Wg2 gDx o p K:=⟨_,_,_,ho,hp,by unfold gDx;dsimp only;rw [h];rfl,k⟩
theorem WB.len {xs:List Dat} {o:Option (List Dat)} {K:RV→Prop} (k:K (.val (.int xs.length))) (ho:o=some [.lst xs]):WB d9 o K:=⟨_,_,ho,rfl,k⟩
theorem WB.L8 {xs:List Dat} {o:Option (List Dat)} {K:RV→Prop} (k:K (.val (.int xs.length))) (ho:o=some [.tup xs]):WB d9 o K:=⟨_,_,ho,rfl,k⟩
theorem WB.min2 {i j:Int} {o:Option (List Dat)} {K:RV→Prop} (k:K (.val (.int (if j<i then j else i)))) (ho:o=some [.int i,.int j]):WB je o K:=⟨_,_,ho,rfl,k⟩
theorem WB.max2 {i j:Int} {o:Option (List Dat)} {K:RV→Prop} (k:K (.val (.int (if j>i then j else i)))) (ho:o=some [.int i,.int j]):WB mZ o K:=⟨_,_,ho,rfl,k⟩
theorem WB.list {xs:List Dat} {o:Option (List Dat)} {K:RV→Prop} (k:K (.new (.lst xs))) (ho:o=some [.lst xs]):WB fC o K:=⟨_,_,ho,rfl,k⟩
theorem Wg1.mk {g:Dat→Option RV} {d:Dat} {v:RV} {o:Option Dat} {K:RV→Prop} (k:K v) (ho:o=some d) (h:g d=some v):Wg1 g o K:=⟨_,_,ho,h,k⟩
theorem ig {xs:List Dat} {Q:List Dat→Prop} (q:Q xs):∃ ds,wY (.lst xs)=some ds∧Q ds:=⟨_,rfl,q⟩
theorem ndT {p:Prop} [Decidable p] (h:(!decide p)=true):¬ p:=by intro z;rw [decide_eq_true z] at h;cases h
theorem ndF {p:Prop} [Decidable p] (h:(!decide p)=false):p:=Decidable.byContradiction fun z=>by rw [decide_eq_false z] at h;cases h
theorem Km {α:Type} (enc:α→Dat) (xs:List α) (h:∀ x,okD 7 (enc x)=true):okD 8 (.lst (xs.map enc))=true:=by
 unfold okD
 rw [List.all_eq_true]
 intro d hd
 obtain ⟨x,_,rfl⟩:=List.mem_map.mp hd
 exact h x
theorem Wg2.G1 {xs ys:List Int} {o p:Option Dat} {K:RV→Prop} (k:K (.new (.lst ((xs++ys).map Dat.int)))) (ho:o=some (.lst (xs.map Dat.int))) (hp:p=some (.lst (ys.map Dat.int))) (h:xs.length+ys.length≤SZ):Wg2 bY o p K:=⟨_,_,_,ho,hp,by unfold bY;dsimp only;rw [List.length_map,List.length_map,if_pos h,List.map_append],k⟩
theorem WB.zB {α:Type} {enc:α→Dat} {xs:List α} {o:Option (List Dat)} {K:RV→Prop} (k:K (.val (.int xs.length))) (ho:o=some [.lst (xs.map enc)]):WB d9 o K:=⟨_,_,ho,by unfold d9;dsimp only;rw [List.length_map],k⟩
theorem Ws.mono {s:FS} {ρ:Env} {N N':Env→Prop} {R:RV→Env→Prop} {B C:Env→Prop} (h:Ws s ρ N' R B C) (k:∀ ρ',N' ρ'→N ρ'):Ws s ρ N R B C:=by
 obtain ⟨o,h1,h2⟩:=h
 cases o with
 | nx ρ1=>exact ⟨.nx ρ1,h1,k _ h2⟩
 | ret r ρ1=>exact ⟨.ret r ρ1,h1,h2⟩
 | bk ρ1=>exact ⟨.bk ρ1,h1,h2⟩
 | ct ρ1=>exact ⟨.ct ρ1,h1,h2⟩
theorem sY {ρ:Env} {i:Nat} {d:Dat} {W:Prop} (h:ρ[i]?=some (.ow d)) (w:W):(∃ d0,ρ[i]?=some (.ow d0))∧W:=⟨⟨d,h⟩,w⟩
theorem We.Dn {ρ:Env} {Q:Val→Env→Prop} (q:Q (.new (.dct [] [])) ρ):We eDn ρ Q:=⟨_,_,rfl,q⟩
theorem We.D1 {a b:FE} {ρ:Env} {Q:Val→Env→Prop} (h:We a ρ fun v ρ1=>bS v fun i=>We b ρ1 fun x ρ2=>Wk ρ2 x fun d ρ3=>Q (.new (.dct [i] [d])) ρ3):We (eD1 a b) ρ Q:=by
 obtain ⟨v,ρ1,h1,i,rfl,x,ρ2,h2,d,ρ3,h3,q⟩:=h
 exact ⟨_,_,by unfold eD1;rw [h1];dsimp only;rw [h2];dsimp only;rw [h3],q⟩
theorem bI {bd:FB} {d:Dat} {ρ ρ1 ρ2:Env} {W:Env→Prop} (h:bd d ρ=some ρ1) (hn:ρ1=ρ2) (w:W ρ2):∃ ρ1,bd d ρ=some ρ1∧W ρ1:=⟨ρ1,h,hn▸w⟩
theorem zC {α:Type} (enc:α→Dat) (p:α→Bool) (v:α→Dat) (bd:FB) (t:FT) (el:FE) (e0:Env) (env:α→Env) (h0:∀ x,bd (enc x) e0=some (env x)) (h1:∀ x y,bd (enc x) (env y)=some (env x)):∀ (xs:List α) (acc:List Dat) (e:Env),(e=e0∨∃ y,e=env y) →
  (∀ x∈xs,t (env x)=some (p x,env x))→(∀ x∈xs,p x=true→We el (env x) fun w ρ'=>Wk ρ' w fun d ρ''=>d=v x∧ρ''=env x) →
  ∃ e',(e'=e0∨∃ y,e'=env y)∧cE bd t el (xs.map enc) e acc=some (acc++(xs.filter p).map v,e')
 | [],acc,e,he,_,_=>⟨e,he,by simp [cE]⟩
 | x::xs,acc,e,he,ht,hel=>by
  have hb:bd (enc x) e=some (env x):=by
   rcases he with rfl | ⟨y,rfl⟩
   ·exact h0 x
   ·exact h1 x y
  rw [List.map_cons,cE,hb]
  dsimp only
  rw [ht x List.mem_cons_self]
  have ht':=fun y hy=>ht y (List.mem_cons_of_mem _ hy)
  have he':=fun y hy=>hel y (List.mem_cons_of_mem _ hy)
  by_cases h:p x=true
  ·obtain ⟨w,ρ',g1,d,ρ'',g2,rfl,rfl⟩:=hel x List.mem_cons_self h
   rw [h]
   dsimp only
   rw [g1]
   dsimp only
   rw [g2]
   obtain ⟨e',q,z⟩:=zC enc p v bd t el e0 env h0 h1 xs (acc++[v x]) _ (.inr ⟨x,rfl⟩) ht' he'
   exact ⟨e',q,by dsimp only;rw [z,List.filter_cons_of_pos h];simp⟩
  ·rw [Bool.not_eq_true] at h
   rw [h]
   obtain ⟨e',q,z⟩:=zC enc p v bd t el e0 env h0 h1 xs acc _ (.inr ⟨x,rfl⟩) ht' he'
   exact ⟨e',q,by dsimp only;rw [z,List.filter_cons_of_neg (by rw [h];decide)]⟩
theorem We.zD {α β:Type} (enc:α→Dat) (xs:List α) (p:α→Bool) (f:α→β) (cJ:β→Dat) (env:α→Env) {it:FI} {own:Nat} {bd:FB} {t:FT} {el:FE} {ρ ρ1:Env} {Q:Val→Env→Prop}
  (q:Q (.new (.lst (((xs.filter p).map f).map cJ))) ρ1) (hit:it ρ=some (xs.map enc,ρ1)) (h0:∀ x,bd (enc x) (ρ1++List.replicate own .un)=some (env x)) (h1:∀ x y,bd (enc x) (env y)=some (env x)) (h2:∀ x,(env x).take ρ1.length=ρ1) (hl:xs.length≤SZ)
  (ht:∀ x∈xs,Wt t (env x) fun c ρ'=>c=p x∧ρ'=env x)
  (he:∀ x∈xs,p x=true→We el (env x) fun w ρ'=>Wk ρ' w fun d ρ''=>d=cJ (f x)∧ρ''=env x):We (bF it own bd t el) ρ Q:=by
 obtain ⟨e',q',e⟩:=zC enc p (fun x=>cJ (f x)) bd t el _ env h0 h1 xs [] _ (.inl rfl) (fun x hx=>Wt.get (ht x hx)) he
 refine ⟨_,_,?_,q⟩
 unfold bF
 rw [hit]
 dsimp only
 rw [if_pos (by rw [List.length_map];exact hl),e]
 dsimp only
 rw [List.nil_append,List.map_map]
 have:e'.take ρ1.length=ρ1:=by
  rcases q' with rfl | ⟨y,rfl⟩
  ·exact List.take_left
  ·exact h2 y
 rw [this]
 rfl
theorem We.Kn {α β:Type} (enc:α→Dat) (xs:List α) (p:α→Bool) (f:α→β) (cJ:β→Dat) (d1 d2 d3:α→Dat) (henc:∀ x,enc x=.tup [d1 x,d2 x,d3 x]) {i k:Nat} {t:FT} {el:FE} {ρ:Env} {Q:Val→Env→Prop} {d:Dat}
  (q:Q (.new (.lst (((xs.filter p).map f).map cJ))) ρ) (hi:ρ[i]?=some (.sh d)) (hd:wY d=some (xs.map enc)) (hk:ρ.length=k) (hk0:k≠0) (hl:xs.length≤SZ)
  (ht:∀ x∈xs,Wt t (ρ++[.sh (d1 x),.sh (d2 x),.sh (d3 x)]) fun c ρ'=>c=p x∧ρ'=ρ++[.sh (d1 x),.sh (d2 x),.sh (d3 x)])
  (he:∀ x∈xs,p x=true→We el (ρ++[.sh (d1 x),.sh (d2 x),.sh (d3 x)]) fun w ρ'=>Wk ρ' w fun d ρ''=>d=cJ (f x)∧ρ''=ρ++[.sh (d1 x),.sh (d2 x),.sh (d3 x)]):We (aN i 3 (bT [k,k+1,k+2]) t el) ρ Q:=by
 have hit:iS (eV i) ρ=some (xs.map enc,ρ):=by
  unfold iS eV
  rw [hi]
  cases d with
  | lst ys=>cases hd;rfl
  | tup ys=>cases hd;rfl
  | _=>cases hd
 have b:∀ (x:α) (c1 c2 c3:Cell),bT [k,k+1,k+2] (enc x) (ρ++[c1,c2,c3])=some (ρ++[.sh (d1 x),.sh (d2 x),.sh (d3 x)]):=fun x c1 c2 c3=>by
  rw [henc]
  show sets [k,k+1,k+2] [d1 x,d2 x,d3 x] _=_
  rw [sets,if_neg hk0,sets,if_neg (by omega),sets,if_neg (by omega),sets]
  rw [List.set_append_right _ _ (by omega),List.set_append_right _ _ (by omega),List.set_append_right _ _ (by omega)]
  subst hk
  rw [Nat.sub_self,show ρ.length+1-ρ.length=1 by omega,show ρ.length+2-ρ.length=2 by omega]
  rfl
 obtain ⟨a,ρ',g1,g2⟩:=We.zD enc xs p f cJ (fun x=>(ρ++[Cell.sh (d1 x),Cell.sh (d2 x),Cell.sh (d3 x)]:Env)) (own:=3) (bd:=bT [k,k+1,k+2]) (Q:=Q) q hit (fun x=>b x .un .un .un) (fun x y=>b x (.sh (d1 y)) (.sh (d2 y)) (.sh (d3 y))) (fun x=>List.take_left) hl ht he
 refine ⟨a,ρ',?_,g2⟩
 unfold aN
 rw [hi]
 exact g1
theorem WB.tuple {xs:List Dat} {o:Option (List Dat)} {K:RV→Prop} (k:K (.val (.tup xs))) (ho:o=some [.lst xs]):WB iN o K:=⟨_,_,ho,rfl,k⟩
noncomputable def ltI (a b:Int):Bool:=decide (a<b)
theorem sZ (ns:List Int):kc (ns.map Dat.int)=some ns:=by
 induction ns with
 | nil=>rfl
 | cons m ms ih=>rw [List.map_cons,kc,ih];rfl
theorem mO (ns:List Int):(dP ltI ns).Pairwise (fun a b=>ltI b a=false):=dF (fun a b c h1 h2=>by simp [ltI] at *;omega) (fun a b h=>by simp [ltI] at *;omega) ns
theorem Wg2.shr {i j:Int} {o p:Option Dat} {K:RV→Prop} (k:K (.val (.int (i / 2 ^ j.toNat)))) (ho:o=some (.int i)) (hp:p=some (.int j)) (h:0≤j):Wg2 wG o p K:=⟨_,_,_,ho,hp,by unfold wG;dsimp only;rw [if_pos h],k⟩
theorem Wg2.L_ {i:Int} {o p:Option Dat} {K:RV→Prop} (k:K (.val (.int (i % 2)))) (ho:o=some (.int i)) (hp:p=some (.int 1)):Wg2 yr o p K:=⟨_,_,_,ho,hp,rfl,k⟩
theorem Ws.wh {t:FT} {body:FS} {N:Env→Prop} {R:RV→Env→Prop} {B C:Env→Prop} (I:Nat→Env→Prop)
  (hs:∀ k ρ,I k ρ→Wt t ρ fun c ρ1=>Wif c (Ws body ρ1 (fun ρ2=>∃ k',k'<k∧I k' ρ2) R N (fun ρ2=>∃ k',k'<k∧I k' ρ2)) (N ρ1)):∀ (n k:Nat) (ρ:Env),k<n→I k ρ→Ws (whD t body n) ρ N R B C
 | 0,k,_,h,_=>absurd h (Nat.not_lt_zero k)
 | n+1,k,ρ,h,i=>by
  obtain ⟨c,ρ1,h1,h2,h3⟩:=hs k ρ i
  cases c with
  | false=>exact ⟨.nx _,by rw [whD,h1],h3 rfl⟩
  | true=>
   obtain ⟨o,h4,h5⟩:=h2 rfl
   cases o with
   | nx ρ2=>
    obtain ⟨k',hk,i'⟩:=h5
    obtain ⟨o,h6,h7⟩:=Ws.wh (N:=N) (R:=R) (B:=B) (C:=C) I hs n k' ρ2 (by omega) i'
    exact ⟨o,by rw [whD,h1];dsimp only;rw [h4];exact h6,h7⟩
   | ct ρ2=>
    obtain ⟨k',hk,i'⟩:=h5
    obtain ⟨o,h6,h7⟩:=Ws.wh (N:=N) (R:=R) (B:=B) (C:=C) I hs n k' ρ2 (by omega) i'
    exact ⟨o,by rw [whD,h1];dsimp only;rw [h4];exact h6,h7⟩
   | bk ρ2=>exact ⟨.nx _,by rw [whD,h1];dsimp only;rw [h4],h5⟩
   | ret r ρ2=>exact ⟨.ret _ _,by rw [whD,h1];dsimp only;rw [h4],h5⟩
theorem wZ {α:Type} (p:α→Bool) (xs:List α):bools (xs.map fun x=>Dat.bl (p x))=some (xs.map p):=by
 induction xs with
 | nil=>rfl
 | cons x xs ih=>rw [List.map_cons,bools,ih];rfl
theorem WB.all {α:Type} (p:α→Bool) {xs:List α} {o:Option (List Dat)} {K:RV→Prop} (k:K (.val (.bl (xs.all p)))) (ho:o=some [.lst (xs.map fun x=>Dat.bl (p x))]):WB sd o K:=⟨_,_,ho,by
 unfold sd
 dsimp only
 rw [wZ]
 have:(xs.map p).all id=xs.all p:=by rw [List.all_map];rfl
 dsimp only
 rw [this],k⟩
theorem We.Ma {a b:FE} {ρ:Env} {Q:Val→Env→Prop} (h:We a ρ fun x ρ1=>(∃ ks vs,pk ρ1 x=some (.dct ks vs))∧We b ρ1 fun y ρ2=>∃ ks vs i,pk ρ2 x=some (.dct ks vs)∧pk ρ2 y=some (.int i)∧Q (.val ((bu ks vs i).getD .non)) ρ2):We (jm a b) ρ Q:=by
 obtain ⟨x,ρ1,h1,⟨ks,vs,h2⟩,y,ρ2,h3,ks',vs',i,h4,h5,q⟩:=h
 exact ⟨_,_,by unfold jm;rw [h1];dsimp only;rw [h2];dsimp only;rw [h3];dsimp only;rw [h4];dsimp only;rw [h5],q⟩
theorem Wg2.isN {d:Dat} {o p:Option Dat} {K:RV→Prop} (k:K (.val (.bl (Dm.isN d)))) (ho:o=some d) (hp:p=some .non):Wg2 sL o p K:=⟨_,_,_,ho,hp,by cases d<;>rfl,k⟩
theorem WB.Mb {j:Int} {o:Option (List Dat)} {K:RV→Prop} (k:K (.new (.lst (ups 0 j.toNat)))) (ho:o=some [.int j]) (h:j≤1000000∧-1000000≤j):WB m8 o K:=⟨_,_,ho,by unfold m8;dsimp only;rw [if_pos h],k⟩
theorem Ws.cut {s u:FS} {ρ:Env} {N:Env→Prop} {R:RV→Env→Prop} {B C:Env→Prop} (J:Env→Prop) (h1:Ws s ρ J R B C) (h2:∀ ρ',J ρ'→Ws u ρ' N R B C):Ws (aD s u) ρ N R B C:=Ws.seq (Ws.mono h1 h2)
noncomputable def WrM (o:Option (RV×Dat)) (P:RV→Dat→Prop):Prop:=∃ z d,o=some (z,d)∧P z d
theorem WrM.fn {n m:Nat} {body:FS} {d:Dat} {r:List Dat} {ρ:Env} {P:RV→Dat→Prop} (b:Ws body ρ (fun ρ'=>∃ d',ρ'[0]?=some (.ow d')∧P (.val .non) d') (fun z ρ'=>∃ d',ρ'[0]?=some (.ow d')∧P z d') (fun _=>False) (fun _=>False)) (hρ:Cell.ow d::(r.map Cell.sh++List.replicate m .un)=ρ) (h:(d::r).length=n):WrM (fnM n m body (d::r)) P:=by
 obtain ⟨o,h1,h2⟩:=b
 cases o with
 | nx ρ1=>obtain ⟨d',h3,h4⟩:=h2;exact ⟨_,_,by unfold fnM;rw [if_pos h];dsimp only;rw [hρ,h1];dsimp only;rw [h3],h4⟩
 | ret z ρ1=>obtain ⟨d',h3,h4⟩:=h2;exact ⟨_,_,by unfold fnM;rw [if_pos h];dsimp only;rw [hρ,h1];dsimp only;rw [h3],h4⟩
 | bk ρ1=>exact h2.elim
 | ct ρ1=>exact h2.elim
noncomputable def WFm (f:List Dat→Option (RV×Dat)) (j:Nat) (ρ1:Env) (xs:List Val) (Q:Val→Env→Prop):Prop:=
 ∃ d1 ds ρ2 d v d',ρ1[j]?=some (.ow d1)∧tks ρ1 xs=some (ds,ρ2)∧ρ2[j]?=some (.ow d)∧f (d::ds)=some (v,d')∧(if (flat v.dat&&sJ d')=true then Q v.bq (ρ1.set j (.ow d')) else Q v.bq (ρ2.set j (.ow d')))
theorem We.Fm {f:List Dat→Option (RV×Dat)} {j:Nat} {as:List FE} {ρ:Env} {d0:Dat} {Q:Val→Env→Prop} (h:Was as ρ fun xs ρ1=>WFm f j ρ1 xs Q) (h0:ρ[j]?=some (.ow d0)):We (eFm f j as) ρ Q:=by
 obtain ⟨xs,ρ1,h1,d1,ds,ρ2,d,v,d',h2,h3,h4,h5,q⟩:=h
 by_cases c:(flat v.dat&&sJ d')=true
 ·rw [if_pos c] at q
  exact ⟨_,_,by unfold eFm;rw [h0];dsimp only;rw [h1];dsimp only;rw [h2];dsimp only;rw [h3];dsimp only;rw [h4];dsimp only;rw [h5];dsimp only;rw [if_pos c],q⟩
 ·rw [if_neg c] at q
  exact ⟨_,_,by unfold eFm;rw [h0];dsimp only;rw [h1];dsimp only;rw [h2];dsimp only;rw [h3];dsimp only;rw [h4];dsimp only;rw [h5];dsimp only;rw [if_neg c],q⟩
theorem WFm.any {f:List Dat→Option (RV×Dat)} {j:Nat} {ρ1 ρ3:Env} {xs:List Val} {d d':Dat} {ds:List Dat} {v:RV} {Q:Val→Env→Prop} (h5:f (d::ds)=some (v,d')) (q:Q v.bq ρ3) (h2:ρ1[j]?=some (.ow d)) (h3:tks ρ1 xs=some (ds,ρ1)) (hn:ρ1.set j (.ow d')=ρ3):WFm f j ρ1 xs Q:=
 ⟨_,_,_,_,_,_,h2,h3,h2,h5,by rw [hn];split<;>exact q⟩
theorem We.Fd {f:List Dat→Option RV} {as:List FE} {ρ:Env} {Q:Val→Env→Prop} (h:Was as ρ fun xs ρ1=>∃ ds ρ2 v,sP ρ1 xs=some (ds,ρ2)∧f ds=some v∧bA v.dat=true∧Q v.bq ρ2):We (eFd f as) ρ Q:=by
 obtain ⟨xs,ρ1,h1,ds,ρ2,v,h2,h3,h4,q⟩:=h
 exact ⟨_,_,by unfold eFd;rw [h1];dsimp only;rw [h2];dsimp only;rw [h3];dsimp only;rw [if_pos h4],q⟩
theorem iZ:∀ (xs:List Dat),(∀ x∈xs,bA x=true)→eN xs=true
 | [],_=>by unfold eN;rfl
 | x::xs,h=>by
  unfold eN
  rw [h x List.mem_cons_self,iZ xs fun y hy=>h y (List.mem_cons_of_mem _ hy)]
  rfl
theorem fh {α:Type} (enc:α→Dat) (xs:List α) (h:∀ x,bA (enc x)=true):bA (.lst (xs.map enc))=true:=by
 unfold bA
 exact iZ _ fun d hd=>by obtain ⟨x,_,rfl⟩:=List.mem_map.mp hd;exact h x
theorem nj (i:Int):bA (.int i)=true:=by unfold bA;rfl
theorem s_ (xs:List Int):bA (.lst (xs.map Dat.int))=true:=fh _ _ nj
theorem WB.dict {ks:List Int} {vs:List Dat} {o:Option (List Dat)} {K:RV→Prop} (k:K (.new (.dct ks vs))) (ho:o=some [.dct ks vs]):WB p5 o K:=⟨_,_,ho,rfl,k⟩
theorem WB.Ko {ks:List Int} {vs:List Dat} {o:Option (List Dat)} {K:RV→Prop} (k:K (.new (.lst ((dP ltI ks).map Dat.int)))) (ho:o=some [.dct ks vs]) (h:ks.length≤63):WB iX o K:=⟨_,_,ho,by
 unfold iX
 dsimp only
 rw [if_pos h]
 rfl,k⟩
theorem We.Kp {i:Nat} {e:FE} {ρ ρ2:Env} {k:Int} {ks:List Int} {vs:List Dat} {d:Dat} {Q:Val→Env→Prop} (hl:bu ks vs k=some d) (q:Q (.val d) ρ2) (h:ρ[i]?=some (.ow (.dct ks vs))) (he:e ρ=some (.val (.int k),ρ)) (hs:ρ.set i (.ow (.dct (dG ks vs k) (dH ks vs k)))=ρ2):We (kq i e) ρ Q:=⟨_,_,by
 unfold kq
 rw [h]
 dsimp only
 rw [he]
 dsimp only
 rw [h]
 dsimp only
 rw [hl]
 dsimp only
 rw [hs],q⟩
theorem Wi.get {it:FI} {ρ ρ1:Env} {ds:List Dat} (h:Wi it ρ fun x y=>x=ds∧y=ρ1):it ρ=some (ds,ρ1):=by
 obtain ⟨_,_,h1,rfl,rfl⟩:=h;exact h1
theorem We.Fp {a i:Nat} {f:List Dat→Option RV} {as:List FE} {ρ:Env} {Q:Val→Env→Prop} (h:ρ[i]?=some (.sh (.fn a))) (k:We (eF f as) ρ Q):We (eFp a i f as) ρ Q:=by
 obtain ⟨v,ρ',e,q⟩:=k
 exact ⟨v,ρ',by unfold eFp;rw [h];dsimp only;rw [if_pos rfl];exact e,q⟩
section
variable {N:Env→Prop} {R:RV→Env→Prop} {B C:Env→Prop} {ρ:Env} {p:Dp}
end
section
variable {ρ:Env} {P:Dp→Prop}
end
section
variable {N:Env→Dp→Prop} {R:Dat→Env→Prop} {ρ ρ':Env} {p:Dp}
end
section
variable {N:Env→Prop} {R:RV→Env→Prop} {B C:Env→Prop} {ρ:Env} {p:Dp}
end
section
variable {N:Env→Dp→Prop} {R:Dat→Env→Prop} {ρ ρ':Env} {p:Dp}
end
section
variable {ρ:Env} {P:Dp→Prop} {Q:Dp→Env→Prop}
end
end Dm
namespace Fl
structure Tie where
 m:Int
 a:Int
 b:Int
deriving Inhabited
noncomputable def one (b:Bool):Int:=if b then 1 else 0
noncomputable def Ends (t:Tie) (p q:Int):Prop:=t.a≠t.b∧((t.a=p∧t.b=q)∨(t.b=p∧t.a=q))
theorem Ends.symm {t:Tie} {p q:Int} (h:Ends t p q):Ends t q p:=⟨h.1,h.2.symm.imp (fun x=>⟨x.2,x.1⟩) (fun x=>⟨x.2,x.1⟩)⟩
noncomputable abbrev Hd:=Int→Option Int
noncomputable def val (o:Option Int) (t:Tie) (S:Int→Bool):Int:=
 if t.a=t.b then 0 else if o=some t.b then one (S t.a)-one (S t.b) else if o=some t.a then one (S t.b)-one (S t.a) else 0
noncomputable def cg (r:List Tie) (H:Hd) (S:Int→Bool):Int:=match r with
 | []=>0
 | t::r=>val (H t.m) t S+cg r H S
noncomputable def put (H:Hd) (m:Int) (o:Option Int):Hd:=fun x=>if x=m then o else H x
theorem w_ {r:List Tie} {H H':Hd} {S:Int→Bool} (h:∀ t∈r,H t.m=H' t.m):cg r H S=cg r H' S:=by
 induction r with
 | nil=>rfl
 | cons t r ih=>rw [cg,cg,h t List.mem_cons_self,ih fun u hu=>h u (List.mem_cons_of_mem _ hu)]
theorem p9 {r:List Tie} (nd:(r.map (·.m)).Nodup) {t:Tie} (ht:t∈r) (H:Hd) (o:Option Int) (S:Int→Bool):cg r (put H t.m o) S=cg r H S-val (H t.m) t S+val o t S:=by
 induction r with
 | nil=>cases ht
 | cons u r ih=>
  rw [List.map_cons,List.nodup_cons] at nd
  rcases List.mem_cons.mp ht with rfl | ht'
  ·rw [cg,cg]
   have e1:put H t.m o t.m=o:=by unfold put;rw [if_pos rfl]
   rw [e1,w_ (H:=put H t.m o) (H':=H) fun v hv=>?_]
   ·omega
   ·unfold put
    rw [if_neg fun e=>?_]
    exact nd.1 (List.mem_map.mpr ⟨v,hv,e⟩)
  ·have hne:u.m≠t.m:=fun e=>nd.1 (List.mem_map.mpr ⟨t,ht',e.symm⟩)
   rw [cg,cg,ih nd.2 ht']
   have e1:put H t.m o u.m=H u.m:=by unfold put;rw [if_neg hne]
   rw [e1]
   omega
theorem fk {t:Tie} {p q:Int} (h:Ends t p q) (S:Int→Bool):val (some q) t S=one (S p)-one (S q):=by
 obtain ⟨h1,h2⟩:=h
 unfold val
 rw [if_neg h1]
 rcases h2 with ⟨rfl,rfl⟩ | ⟨rfl,rfl⟩
 ·rw [if_pos rfl]
 ·rw [if_neg (by intro e;injection e with e;exact h1 e),if_pos rfl]
theorem eS (t:Tie) (S:Int→Bool):val none t S=0:=by
 unfold val
 split
 ·rfl
 ·simp
noncomputable def Ok (r:List Tie) (H:Hd):Prop:=∀ t∈r,∀ x,H t.m=some x→x=t.a∨x=t.b
noncomputable def eU (H:Hd) (m q:Int):Hd:=put H m (if (H m).isSome then none else some q)
theorem tu {r:List Tie} (nd:(r.map (·.m)).Nodup) {H:Hd} (ok:Ok r H) {t:Tie} (ht:t∈r) {p q:Int} (he:Ends t p q) (hf:H t.m≠some q) (S:Int→Bool) :
  cg r (eU H t.m q) S=cg r H S+one (S p)-one (S q):=by
 unfold eU
 rw [p9 nd ht]
 cases e:H t.m with
 | none=>
  simp only [Option.isSome_none,Bool.false_eq_true,if_false]
  rw [eS,fk he]
  omega
 | some x=>
  have hx:=ok t ht x e
  have:x=p:=by
   rw [e] at hf
   have hxq:x≠q:=fun z=>hf (by rw [z])
   obtain ⟨_,h2⟩:=he
   omega
  subst this
  simp only [Option.isSome_some,if_true]
  rw [eS,fk he.symm]
  omega
theorem uniq {r:List Tie} (nd:(r.map (·.m)).Nodup) {u t:Tie} (hu:u∈r) (ht:t∈r) (e:u.m=t.m):u=t:=by
 induction r with
 | nil=>cases hu
 | cons v r ih=>
  rw [List.map_cons,List.nodup_cons] at nd
  rcases List.mem_cons.mp hu with rfl | h1
  ·rcases List.mem_cons.mp ht with rfl | h2
   ·rfl
   ·exact absurd (List.mem_map.mpr ⟨t,h2,e.symm⟩) nd.1
  ·rcases List.mem_cons.mp ht with rfl | h2
   ·exact absurd (List.mem_map.mpr ⟨u,h1,e⟩) nd.1
   ·exact ih nd.2 h1 h2
theorem zF {r:List Tie} (nd:(r.map (·.m)).Nodup) {H:Hd} (ok:Ok r H) {t:Tie} (ht:t∈r) {p q:Int} (he:Ends t p q):Ok r (eU H t.m q):=by
 intro u hu x hx
 unfold eU put at hx
 by_cases e:u.m=t.m
 ·rw [if_pos e] at hx
  have:u=t:=uniq nd hu ht e
  subst this
  split at hx
  ·cases hx
  ·injection hx with hx
   obtain ⟨_,h2⟩:=he
   omega
 ·rw [if_neg e] at hx
  exact ok u hu x hx
noncomputable abbrev Step:=Int×Int
noncomputable def Way (R:Int→Step→Prop):Int→List Step→Int→Prop
 | x,[],y=>x=y
 | x,s::w,y=>R x s∧Way R s.2 w y
theorem Way.snoc {R:Int→Step→Prop}:∀ {w:List Step} {x y:Int} {s:Step},Way R x w y→R y s→Way R x (w++[s]) s.2
 | [],_,_,_,h,k=>by cases h;exact ⟨k,rfl⟩
 | _::_,_,_,_,h,k=>⟨h.1,Way.snoc h.2 k⟩
theorem Way.mono {R R':Int→Step→Prop} (h:∀ p s,R p s→R' p s):∀ {w:List Step} {x y:Int},Way R x w y→Way R' x w y
 | [],_,_,k=>k
 | _::_,_,_,k=>⟨h _ _ k.1,Way.mono h k.2⟩
noncomputable def eW (r:List Tie) (p:Int) (s:Step):Prop:=∃ t∈r,t.m=s.1∧Ends t p s.2
noncomputable def kC (r:List Tie) (H:Hd) (p:Int) (s:Step):Prop:=eW r p s∧H s.1≠some s.2
noncomputable def Led (r:List Tie) (H:Hd) (p:Int) (s:Step):Prop:=eW r p s∧H s.1=some s.2
theorem i6 {r:List Tie} (nd:(r.map (·.m)).Nodup) {R:Int→Step→Prop} (hR:∀ p s,R p s→eW r p s) {x y:Int} {s:Step} {w:List Step} (h:Way R x (s::w) y) (hn:(x::(s::w).map (·.2)).Nodup):∀ u∈w,u.1≠s.1:=by
 obtain ⟨h1,h2⟩:=h
 obtain ⟨t,ht,hm,he⟩:=hR _ _ h1
 have main:∀ (w:List Step) (z:Int),Way R z w y→(∀ u∈w,u.2≠x∧u.2≠s.2)→∀ u∈w,u.1≠s.1:=fun w=>by
  induction w with
  | nil=>intro z _ _ u hu;cases hu
  | cons v w ih=>
   intro z hw hd u hu
   rcases List.mem_cons.mp hu with rfl | hu
   ·intro e
    obtain ⟨t',ht',hm',he'⟩:=hR _ _ hw.1
    have:=uniq nd ht' ht (by rw [hm',e,hm])
    subst this
    obtain ⟨d1,d2⟩:=hd u List.mem_cons_self
    obtain ⟨_,he⟩:=he
    obtain ⟨_,he'⟩:=he'
    omega
   ·exact ih v.2 hw.2 (fun u hu=>hd u (List.mem_cons_of_mem _ hu)) u hu
 rw [List.map_cons,List.nodup_cons,List.nodup_cons] at hn
 refine main w s.2 h2 fun u hu=>⟨fun e=>hn.1 ?_,fun e=>hn.2.1 ?_⟩
 ·exact List.mem_cons_of_mem _ (List.mem_map.mpr ⟨u,hu,e⟩)
 ·exact List.mem_map.mpr ⟨u,hu,e⟩
theorem jq {r:List Tie} (nd:(r.map (·.m)).Nodup) {R:Int→Step→Prop} (hR:∀ p s,R p s→eW r p s) {y:Int}:∀ {w:List Step} {x:Int},Way R x w y→(x::w.map (·.2)).Nodup→(w.map (·.1)).Nodup
 | [],_,_,_=>by simp
 | s::w,x,h,hn=>by
  rw [List.map_cons,List.nodup_cons]
  refine ⟨fun e=>?_,jq nd hR h.2 (by rw [List.map_cons,List.nodup_cons] at hn;exact hn.2)⟩
  obtain ⟨u,hu,e⟩:=List.mem_map.mp e
  exact i6 nd hR h hn u hu e
noncomputable def jr (H:Hd):List Step→Hd
 | []=>H
 | s::w=>jr (eU H s.1 s.2) w
theorem p_ {H:Hd} {m q x:Int} (h:x≠m):eU H m q x=H x:=by unfold eU put;rw [if_neg h]
theorem fJ {r:List Tie} (nd:(r.map (·.m)).Nodup) (S:Int→Bool):∀ {w:List Step} {x y:Int} {H:Hd},Ok r H→Way (kC r H) x w y→(x::w.map (·.2)).Nodup →
  Ok r (jr H w)∧cg r (jr H w) S=cg r H S+one (S x)-one (S y)
 | [],x,y,H,ok,h,_=>by
  cases h
  exact ⟨ok,by rw [jr];omega⟩
 | s::w,x,y,H,ok,h,hn=>by
  have hfr:=i6 nd (fun p s h=>h.1) h hn
  obtain ⟨⟨⟨t,ht,hm,he⟩,hf⟩,h2⟩:=h
  have ok1:=zF nd ok ht he
  have f1:=tu nd ok ht he (by rw [hm];exact hf) S
  rw [hm] at ok1 f1
  have h3:Way (kC r (eU H s.1 s.2)) s.2 w y:=by
   have main:∀ (w:List Step) (z:Int),(∀ u∈w,u.1≠s.1)→Way (kC r H) z w y→Way (kC r (eU H s.1 s.2)) z w y:=fun w=>by
    induction w with
    | nil=>intro _ _ h;exact h
    | cons u w ih=>
     intro z hu hw
     exact ⟨⟨hw.1.1,by rw [p_ (hu u List.mem_cons_self)];exact hw.1.2⟩,ih u.2 (fun v hv=>hu v (List.mem_cons_of_mem _ hv)) hw.2⟩
   exact main w s.2 hfr h2
  obtain ⟨k1,k2⟩:=fJ nd S ok1 h3 (by rw [List.map_cons,List.nodup_cons] at hn;exact hn.2)
  rw [jr]
  exact ⟨k1,by rw [k2,f1];omega⟩
noncomputable def dQ (H:Hd):List Step→Hd
 | []=>H
 | s::w=>dQ (put H s.1 none) w
theorem eX:∀ {w:List Step} {H:Hd} {x:Int},(∀ u∈w,u.1≠x)→dQ H w x=H x
 | [],_,_,_=>rfl
 | s::w,H,x,h=>by
  rw [dQ,eX fun u hu=>h u (List.mem_cons_of_mem _ hu)]
  unfold put
  rw [if_neg fun e=>h s List.mem_cons_self e.symm]
theorem fL:∀ {w:List Step} {H:Hd} {x:Int},x∈w.map (·.1)→dQ H w x=none
 | [],_,_,h=>by cases h
 | s::w,H,x,h=>by
  rw [dQ]
  by_cases e:x∈w.map (·.1)
  ·exact fL e
  ·rw [eX fun u hu z=>e (List.mem_map.mpr ⟨u,hu,z⟩)]
   rw [List.map_cons] at h
   rcases List.mem_cons.mp h with rfl | h
   ·unfold put;rw [if_pos rfl]
   ·exact absurd h e
theorem fM {r:List Tie} (nd:(r.map (·.m)).Nodup) (S:Int→Bool):∀ {w:List Step} {x y:Int} {H:Hd},Ok r H→Way (Led r H) x w y→(x::w.map (·.2)).Nodup →
  Ok r (dQ H w)∧cg r (dQ H w) S=cg r H S-one (S x)+one (S y)
 | [],x,y,H,ok,h,_=>by
  cases h
  exact ⟨ok,by rw [dQ];omega⟩
 | s::w,x,y,H,ok,h,hn=>by
  have hfr:=i6 nd (fun p s h=>h.1) h hn
  obtain ⟨⟨⟨t,ht,hm,he⟩,hf⟩,h2⟩:=h
  have ok1:Ok r (put H s.1 none):=fun u hu z hz=>by
   unfold put at hz
   split at hz
   ·cases hz
   ·exact ok u hu z hz
  have f1:=p9 nd ht H none S
  rw [eS,hm,hf,fk he] at f1
  have h3:Way (Led r (put H s.1 none)) s.2 w y:=by
   have main:∀ (w:List Step) (z:Int),(∀ u∈w,u.1≠s.1)→Way (Led r H) z w y→Way (Led r (put H s.1 none)) z w y:=fun w=>by
    induction w with
    | nil=>intro _ _ h;exact h
    | cons u w ih=>
     intro z hu hw
     exact ⟨⟨hw.1.1,by unfold put;rw [if_neg (hu u List.mem_cons_self)];exact hw.1.2⟩,ih u.2 (fun v hv=>hu v (List.mem_cons_of_mem _ hv)) hw.2⟩
   exact main w s.2 hfr h2
  obtain ⟨k1,k2⟩:=fM nd S ok1 h3 (by rw [List.map_cons,List.nodup_cons] at hn;exact hn.2)
  rw [dQ]
  exact ⟨k1,by rw [k2,f1];omega⟩
noncomputable def over (S:Int→Bool) (t:Tie):Bool:=S t.a != S t.b
theorem zG {r:List Tie} {H:Hd} {S:Int→Bool} (hc:∀ p s,S p=true→kC r H p s→S s.2=true):cg r H S=((r.filter (over S)).length:Nat):=by
 have main:∀ (q:List Tie),(∀ t∈q,t∈r)→cg q H S=((q.filter (over S)).length:Nat):=fun q=>by
  induction q with
  | nil=>intro _;rfl
  | cons t q ih=>
   intro hq
   rw [cg,ih fun u hu=>hq u (List.mem_cons_of_mem _ hu)]
   by_cases ho:over S t=true
   ·rw [List.filter_cons_of_pos ho]
    have hne:t.a≠t.b:=fun e=>by unfold over at ho;rw [e] at ho;simp at ho
    have hv:val (H t.m) t S=1:=by
     unfold over at ho
     cases ha:S t.a with
     | true=>
      have hb:S t.b=false:=by rw [ha] at ho;simpa using ho
      have he:Ends t t.a t.b:=⟨hne,.inl ⟨rfl,rfl⟩⟩
      have:H t.m=some t.b:=Decidable.byContradiction fun e=>by
       have:=hc t.a (t.m,t.b) ha ⟨⟨t,hq t List.mem_cons_self,rfl,he⟩,e⟩
       rw [hb] at this
       cases this
      rw [this,fk he,ha,hb]
      rfl
     | false=>
      have hb:S t.b=true:=by rw [ha] at ho;simpa using ho
      have he:Ends t t.b t.a:=⟨hne,.inr ⟨rfl,rfl⟩⟩
      have:H t.m=some t.a:=Decidable.byContradiction fun e=>by
       have:=hc t.b (t.m,t.a) hb ⟨⟨t,hq t List.mem_cons_self,rfl,he⟩,e⟩
       rw [ha] at this
       cases this
      rw [this,fk he,ha,hb]
      rfl
    rw [hv,List.length_cons]
    omega
   ·rw [List.filter_cons_of_neg ho]
    have hv:val (H t.m) t S=0:=by
     unfold over at ho
     have:S t.a=S t.b:=by simpa using ho
     unfold val
     rw [this]
     split
     ·rfl
     ·split
      ·omega
      ·split<;>omega
    rw [hv]
    omega
 exact main r fun _ h=>h
theorem zH {r:List Tie} {H:Hd} {S:Int→Bool} (ok:Ok r H) (hc:∀ p s,S p=true→Led r H p s→S s.2=true):cg r H S≤0:=by
 have main:∀ (q:List Tie),(∀ t∈q,t∈r)→cg q H S≤0:=fun q=>by
  induction q with
  | nil=>intro _;exact Int.le_refl _
  | cons t q ih=>
   intro hq
   rw [cg]
   have h1:=ih fun u hu=>hq u (List.mem_cons_of_mem _ hu)
   have hv:val (H t.m) t S≤0:=by
    by_cases hne:t.a=t.b
    ·unfold val;rw [if_pos hne];exact Int.le_refl _
    cases e:H t.m with
    | none=>rw [eS];exact Int.le_refl _
    | some x=>
     have key:∀ p,Ends t p x→val (some x) t S≤0:=fun p he=>by
      rw [fk he]
      cases hp:S p with
      | false=>cases S x<;>decide
      | true=>
       have:=hc p (t.m,x) hp ⟨⟨t,hq t List.mem_cons_self,rfl,he⟩,e⟩
       rw [this]
       decide
     rcases ok t (hq t List.mem_cons_self) x e with rfl | rfl
     ·exact key t.b ⟨hne,.inr ⟨rfl,rfl⟩⟩
     ·exact key t.a ⟨hne,.inl ⟨rfl,rfl⟩⟩
   omega
 exact main r fun _ h=>h
structure Flow (r:List Tie) (H:Hd) (a b:Int) (k:Nat):Prop where
 ok:Ok r H
 eq:∀ S,cg r H S=(k:Int)*(one (S a)-one (S b))
theorem Flow.zero (r:List Tie) (a b:Int):Flow r (fun _=>none) a b 0:=⟨fun _ _ _ h=>(by cases h),fun S=>by
 induction r with
 | nil=>simp [cg]
 | cons t r ih=>rw [cg,eS,ih];simp⟩
theorem Flow.more {r:List Tie} (nd:(r.map (·.m)).Nodup) {H:Hd} {a b:Int} {k:Nat} (f:Flow r H a b k) {w:List Step} (h:Way (kC r H) a w b) (hn:(a::w.map (·.2)).Nodup):Flow r (jr H w) a b (k+1):=
 ⟨(fJ nd (fun _=>true) f.ok h hn).1,fun S=>by
  rw [(fJ nd S f.ok h hn).2,f.eq S]
  have:((k+1:Nat):Int)=(k:Int)+1:=by omega
  rw [this,Int.add_mul]
  omega⟩
theorem Flow.less {r:List Tie} (nd:(r.map (·.m)).Nodup) {H:Hd} {a b:Int} {k:Nat} (f:Flow r H a b (k+1)) {w:List Step} (h:Way (Led r H) a w b) (hn:(a::w.map (·.2)).Nodup):Flow r (dQ H w) a b k:=
 ⟨(fM nd (fun _=>true) f.ok h hn).1,fun S=>by
  rw [(fM nd S f.ok h hn).2,f.eq S]
  have:((k+1:Nat):Int)=(k:Int)+1:=by omega
  rw [this,Int.add_mul]
  omega⟩
theorem Flow.cut {r:List Tie} {H:Hd} {a b:Int} {k:Nat} (f:Flow r H a b k) {S:Int→Bool} (ha:S a=true) (hb:S b=false) (hc:∀ p s,S p=true→kC r H p s→S s.2=true):(r.filter (over S)).length=k:=by
 have h1:=zG hc
 rw [f.eq S,ha,hb] at h1
 simp [one] at h1
 omega
theorem Flow.reach {r:List Tie} {H:Hd} {a b:Int} {k:Nat} (f:Flow r H a b (k+1)) {S:Int→Bool} (ha:S a=true) (hc:∀ p s,S p=true→Led r H p s→S s.2=true):S b=true:=by
 cases hb:S b with
 | true=>rfl
 | false=>
  have h1:=zH f.ok hc
  rw [f.eq S,ha,hb] at h1
  simp [one] at h1
  omega
end Fl
namespace P
open Dm
noncomputable def ir:FN:=
  (nIf (tV (e2 gNe (eV 4) (eV 5))) (wU (sN (eV 4) (iJ [(eV 3),(eV 5)]))
  (sN (eV 5) (iJ [(eV 3),(eV 4)]))) nNx)
noncomputable def CF:List Dat→Option RV:=fn 2 4
  (aD (ko 2 (iR1 (eV 0)) 1 (bN 6) (sO (iS (eV 1)) (bT [3,4,5])
  ir))
  (sR (eV 2)))
noncomputable def zI:List Dat→Option RV:=fn 2 0
  (sR (aN 0 1 (bN 2) bO (aN 2 1 (bN 3) (tV (e2 gNe (jm (eV 1) (e2 gIx (eV 3) (eC (.int 0)))) (e2 gIx (eV 3) (eC (.int 1))))) (eV 3))))
noncomputable def zJ:List Dat→Option RV:=fn 2 0
  (sR (aN 0 1 (bN 2) bO (aN 2 1 (bN 3) (tV (e2 gEq (jm (eV 1) (e2 gIx (eV 3) (eC (.int 0)))) (e2 gIx (eV 3) (eC (.int 1))))) (eV 3))))
noncomputable def D_:FS:=
  (sIf (tV (e2 pZ (e2 gIx (eV 5) (eC (.int 1))) (eV 2))) (aD (j_ 2 (e2 gIx (eV 5) (eC (.int 1))) (e2 bY (e2 gDx (eV 2) (eV 4)) (dm [(eV 5)])))
  (mG 3 (e2 gIx (eV 5) (eC (.int 1))))) sNx)
noncomputable def Ea:FS:=
  (aD (sA 4 (iW 3 (eC (.int 0))))
  (d8 (iS (e2 gIx (eV 0) (eV 4))) (bN 5)
  D_))
noncomputable def qc:List Dat→Option RV:=fn 2 4
  (aD (sA 2 (eD1 (eV 1) (dm [])))
  (aD (sA 3 (dm [(eV 1)]))
  (aD (whD (tTr (eV 3))
  Ea 100)
  (sR (eV 2)))))
noncomputable def Eb:FS:=
  (sIf (tV (e2 wR (eV 2) (eV 0))) (sE (kq 0 (eV 2))) (j_ 0 (eV 2) (eV 3)))
noncomputable def zK:List Dat→Option (RV×Dat):=fnM 2 2
  (d8 (iS (eV 1)) (bT [2,3])
  Eb)
noncomputable def Ec:FS:=
  (sE (kq 5 (eV 9)))
noncomputable def Ed:FS:=
  (aD (sA 8 (bF (iS (e2 gDx (eF qc [(eFd zJ [(eV 0),(eV 5)]),(eV 2)]) (eV 3))) 1 (bN 10) bO (e2 gIx (eV 10) (eC (.int 0)))))
  (aD (d8 (iS (eV 8)) (bN 9)
  Ec)
  (mG 6 (eV 8))))
noncomputable def xg:List Dat→Option RV:=fn 5 5
  (aD (sA 5 (eB p5 [(eV 1)]))
  (aD (sA 6 (dm []))
  (aD (d8 (iR1 (eV 4)) (bN 7)
  Ed)
  (sR (eV 6)))))
noncomputable def Ef:FS:=
  (aD (sA 9 (eF qc [(eFd zI [(eV 5),(eV 6)]),(eV 2)]))
  (sIf (tV (e2 wR (eV 3) (eV 9))) (aD (sE (eFm zK 6 [(e2 gDx (eV 9) (eV 3))]))
  (sA 8 (e2 bY (eV 8) (eC (.int 1))))) (sA 7 (eB iN [(eB iX [(eV 9)])]))))
noncomputable def qd:List Dat→Option RV:=fn 5 5
  (aD (sA 5 (eF CF [(eV 0),(eV 1)]))
  (aD (sA 6 eDn)
  (aD (sA 7 (eC .non))
  (aD (sA 8 (eC (.int 0)))
  (aD (whD (jE (tV (e2 gLt (eV 8) (eV 4))) (tV (e2 sL (eV 7) (eC .non))))
  Ef 100)
  (sR (iJ [(eFd xg [(eV 5),(eV 6),(eV 2),(eV 3),(eV 8)]),(eV 7)])))))))
noncomputable def CG:List Dat→Option RV:=fn 5 0
  (sR (e2 sL (e2 gIx (eF qd [(eV 0),(eV 1),(eV 2),(eV 3),(eV 4)]) (eC (.int 1))) (eC .non)))
noncomputable def CH:List Dat→Option RV:=fn 1 0
  (sR (gU (e1 (pK isI) (eV 0)) (wF (e1 (pK isB) (eV 0)))))
noncomputable def tw:List Dat→Option RV:=fn 3 0
  (sR (gU (eF CH [(eV 0)]) (jW gLe gLe (eV 1) (eV 0) (eV 2))))
noncomputable def uX:List Dat→Option RV:=fn 1 0
  (sR (eF tw [(eV 0),(eC (.int 1)),(eC (.int 10))]))
noncomputable def kD:List Dat→Option RV:=fn 2 0
  (sR (eF tw [(eV 1),(eC (.int 0)),(e2 fq (eV 0) (eC (.int 1)))]))
noncomputable def kE:List Dat→Option RV:=fn 1 0
  (sR (eF tw [(eV 0),(eC (.int 1)),(eC (.int 6))]))
noncomputable def uY:List Dat→Option RV:=fn 1 0
  (sR (eF tw [(eV 0),(eC (.int 0)),(e2 pL (eC (.int 10)) (eC (.int 30)))]))
noncomputable def uZ:List Dat→Option RV:=fn 2 0
  (aD (sIf (tOr (di (tV (e1 (pK isT) (eV 1)))) (tV (e2 gNe (eB d9 [(eV 1)]) (eC (.int 3))))) (sR (eC (.bl false))) sNx)
  (sR (gU (eF uY [(e2 gIx (eV 1) (eC (.int 0)))]) (gU (eF kD [(eV 0),(e2 gIx (eV 1) (eC (.int 1)))]) (eF kD [(eV 0),(e2 gIx (eV 1) (eC (.int 2)))])))))
noncomputable def u5:List Dat→Option RV:=fn 2 0
  (sR (gU (eF uZ [(eV 0),(eV 1)]) (e2 gLe (e2 gIx (eV 1) (eC (.int 1))) (e2 gIx (eV 1) (eC (.int 2))))))
noncomputable def u6:List Dat→Option RV:=fn 1 0
  (sR (eB sd [(bF (iR2 (eC (.int 1)) (eB d9 [(eV 0)])) 1 (bN 1) bO (e2 gLt (e2 gIx (eV 0) (e2 fq (eV 1) (eC (.int 1)))) (e2 gIx (eV 0) (eV 1))))]))
noncomputable def u7:List Dat→Option RV:=fn 3 0
  (sR (gU (eF kD [(eV 0),(eV 1)]) (gU (eF kD [(eV 0),(eV 2)]) (e2 gNe (eV 1) (eV 2)))))
noncomputable def qe:List Dat→Option RV:=fn 1 0
  (sIf (di (tV (eF kE [(eV 0)]))) (fun _=>none) sNx)
noncomputable def u9:List Dat→Option RV:=fn 3 0
  (sIf (di (tV (eF u7 [(eV 0),(eV 1),(eV 2)]))) (fun _=>none) sNx)
noncomputable def u_:List Dat→Option RV:=fn 3 0
  (sR (aN 0 1 (bN 3) bO (eIf (tV (e2 gEq (eV 3) (e2 gIx (eV 0) (eV 2)))) (e2 gIx (eV 0) (eV 1)) (eV 3))))
noncomputable def nk:List Dat→Option RV:=fn 2 0
  (sR (aN 0 1 (bN 2) (tV (e2 gNe (eV 2) (eV 1))) (eV 2)))
noncomputable def zL (bD aV:Nat):FS:=
  (aD (sA 6 (eF nk [(eV 4),(eV 5)]))
  (sIf (tOr (tV (e2 gEq (e2 gIx (eV 5) (eC (.int 1))) (e2 gIx (eV 5) (eC (.int 2))))) (tV (eFp bD 3 CG [(eV 0),(eV 6),(e2 gIx (eV 5) (eC (.int 1))),(e2 gIx (eV 5) (eC (.int 2))),(eV 2)]))) (sA 4 (eV 6)) sNx))
noncomputable def qf (bD aV:Nat):List Dat→Option RV:=fn 4 3
  (aD (sA 4 (eB fC [(eV 1)]))
  (aD (d8 (iS (eV 1)) (bN 5)
  (zL bD aV))
  (sR (eV 4))))
noncomputable def nq:List Dat→Option RV:=fn 1 0
  (sR (bF (iR1 (eV 0)) 1 (bN 1) bO (dm [])))
noncomputable def qg:List Dat→Option RV:=fn 5 0
  (sR (e2 gIx (eF qd [(eV 0),(eV 1),(eV 2),(eV 3),(eV 4)]) (eC (.int 0))))
noncomputable def qh (bD aV:Nat):List Dat→Option RV:=fn 5 1
  (aD (sA 5 (aN 1 1 (bN 6) (tV (e2 cR (eV 6) (eV 2))) (eV 6)))
  (sR (aN 5 1 (bN 6) bO (eIf (tV (e2 gEq (e2 gIx (eV 6) (eC (.int 1))) (e2 gIx (eV 6) (eC (.int 2))))) (eF nq [(eV 3)]) (eFp aV 4 qg [(eV 0),(eV 2),(e2 gIx (eV 6) (eC (.int 1))),(e2 gIx (eV 6) (eC (.int 2))),(eV 3)])))))
noncomputable def jt:List Dat→Option RV:=fn 4 0
  (sR (e2 gIx (eF qd [(eV 0),(eF nk [(eV 1),(eV 2)]),(e2 gIx (eV 2) (eC (.int 1))),(e2 gIx (eV 2) (eC (.int 2))),(eV 3)]) (eC (.int 1))))
noncomputable def vc (bD aV:Nat):List Dat→Option RV:=fn 3 2
  (aD (sE (eF qe [(eV 2)]))
  (aD (sA 3 (eF (qf bD aV) [(eV 0),(eV 1),(eV 2),(eC (.fn bD))]))
  (aD (sA 4 (aN 3 1 (bN 5) bO (eF jt [(eV 0),(eV 3),(eV 5),(eV 2)])))
  (sR (iJ [(aN 3 1 (bN 5) bO (e2 gIx (eV 5) (eC (.int 0)))),(eF (qh bD aV) [(eV 0),(eV 1),(eV 3),(eV 2),(eC (.fn aV))]),(eV 4)])))))
noncomputable def zM:FS:=
  (sIf (tV (e2 gNe (e2 gIx (eV 4) (eV 1)) (e2 gIx (eV 4) (eV 2)))) (sR (e2 bY (eV 3) (eC (.int 1)))) sNx)
noncomputable def qi:List Dat→Option RV:=fn 3 2
  (aD (d8 (iEn (eV 0)) (bT [3,4])
  zM)
  (sR (eC (.int 0))))
noncomputable def zN:FS:=
  (aD (sA 8 (eF qi [(eV 3),(eV 6),(eV 7)]))
  (aD (sIf (tV (e2 gGt (eV 8) (eC (.int 0)))) (r9 3 (e2 fq (eV 8) (eC (.int 1))) (eF u_ [(e2 gIx (eV 3) (e2 fq (eV 8) (eC (.int 1)))),(eV 6),(eV 7)])) sNx)
  (mG 4 (eV 8))))
noncomputable def nt:List Dat→Option RV:=fn 3 6
  (aD (sE (eF qe [(eV 2)]))
  (aD (sA 3 (bF (iR1 (eV 2)) 1 (bN 9) bO (eB m8 [(eV 0)])))
  (aD (sA 4 (dm []))
  (aD (d8 (wN (eV 1)) (bT [5,6,7])
  zN)
  (sR (e1 j8 (eV 4)))))))
noncomputable def vd:List Dat→Option RV:=fn 2 0
  (aD (sIf (tOr (di (tV (eF uX [(eV 0)]))) (tOr (di (tV (e1 (pK isL) (eV 1)))) (tV (e2 gGt (eB d9 [(eV 1)]) (eC (.int 60)))))) (sR (eC (.bl false))) sNx)
  (aD (sIf (di (tV (eB sd [(aN 1 1 (bN 2) bO (eF u5 [(eV 0),(eV 2)]))]))) (sR (eC (.bl false))) sNx)
  (sR (eF u6 [(aN 1 1 (bN 2) bO (e2 gIx (eV 2) (eC (.int 0))))]))))
noncomputable def qj:List Dat→Option RV:=fn 2 0
  (sR (aN 0 1 (bN 2) (tV (e2 gGe (e2 gIx (eV 2) (eC (.int 0))) (eV 1))) (eV 2)))
noncomputable def ve:List Dat→Option RV:=fn 1 0
  (aD (sIf (tOr (di (tV (e1 (pK isT) (eV 0)))) (tV (e2 gNe (eB d9 [(eV 0)]) (eC (.int 3))))) (sR (eC (.bl false))) sNx)
  (aD (sIf (tOr (di (tV (eF kE [(e2 gIx (eV 0) (eC (.int 1)))]))) (di (tV (eF vd [(e2 gIx (eV 0) (eC (.int 0))),(e2 gIx (eV 0) (eC (.int 2)))])))) (sR (eC (.bl false))) sNx)
  (sR (e2 cR (eC (.int 0)) (eF nt [(e2 gIx (eV 0) (eC (.int 0))),(e2 gIx (eV 0) (eC (.int 2))),(e2 gIx (eV 0) (eC (.int 1)))])))))
noncomputable def vf:List Dat→Option RV:=fn 1 0
  (sIf (di (tV (eF ve [(eV 0)]))) (fun _=>none) sNx)
noncomputable def vg:List Dat→Option RV:=fn 3 1
  (aD (sA 3 (eF nt [(eV 0),(eV 1),(eV 2)]))
  (sR (iJ [(eV 0),(eV 2),(bF (Cp (eV 1) (eV 3)) 2 (bT [4,5]) (tV (e2 gGt (eV 5) (eC (.int 0)))) (eV 4))])))
noncomputable def ju:List Dat→Option RV:=fn 6 1
  (aD (sE (eF u9 [(eV 0),(eV 2),(eV 3)]))
  (aD (sA 6 (eF qd [(eV 0),(eF qj [(eV 1),(eV 5)]),(eV 2),(eV 3),(eV 4)]))
  (sR (iJ [(eB d9 [(e2 gIx (eV 6) (eC (.int 0)))]),(e2 gIx (eV 6) (eC (.int 0))),(e2 gIx (eV 6) (eC (.int 1)))]))))
noncomputable def kF:List Dat→Option RV:=fn 4 0
  (aD (sE (eF vf [(eV 0)]))
  (sR (eF ju [(e2 gIx (eV 0) (eC (.int 0))),(e2 gIx (eV 0) (eC (.int 2))),(eV 1),(eV 2),(e2 gIx (eV 0) (eC (.int 1))),(eV 3)])))
noncomputable def qk:List Dat→Option RV:=fn 2 0
  (aD (sIf (tV (e2 gLt (eV 1) (eB d9 [(eV 0)]))) (sR (e2 gIx (eV 0) (eV 1))) sNx)
  (sR (eC (.int 0))))
noncomputable def zO:FS:=
  (aD (sA 5 (e2 iM (e2 gW (e2 bY (e2 bY (e2 bY (e2 iM (eV 2) (eC (.int 998244353))) (e2 gW (e2 gW (eC (.int 89)) (eV 4)) (eV 4))) (e2 gW (eC (.int 7)) (eV 1))) (eC (.int 1))) (eC (.int 48271))) (eC (.int 2147483647))))
  (aD (sA 5 (e2 iM (e2 gW (eV 5) (eV 5)) (eC (.int 1000000007))))
  (aD (sA 5 (e2 iM (e2 gW (e2 bY (eV 5) (e2 gW (eC (.int 7919)) (eV 4))) (eC (.int 69621))) (eC (.int 2147483587))))
  (sA 3 (e2 bY (e2 gW (eV 3) (eC (.int 1000003))) (e2 iM (e2 r_ (eV 5) (eC (.int 8))) (eC (.int 1000003))))))))
noncomputable def nu:List Dat→Option RV:=fn 2 4
  (aD (sA 2 (eF qk [(eV 0),(eV 1)]))
  (aD (sIf (tV (e2 gGe (eV 2) (e2 pL (eC (.int 10)) (eC (.int 18))))) (sR (dm [(eV 2)])) sNx)
  (aD (sA 3 (eC (.int 0)))
  (aD (d8 (iR1 (eC (.int 48))) (bN 4)
  zO)
  (sR (dm [(eV 3)]))))))
noncomputable def bX:List Dat→Option (RV×Dat):=fnM 2 1
  (aD (sA 2 (e2 iM (e2 gIx (eV 0) (eC (.int 0))) (eV 1)))
  (aD (r9 0 (eC (.int 0)) (e2 r_ (e2 gIx (eV 0) (eC (.int 0))) (eV 1)))
  (sR (eV 2))))
noncomputable def zP:FS:=
  (aD (sA 8 (eFm bX 0 [(eV 1)]))
  (aD (sA 9 (eFm bX 0 [(eV 1)]))
  (aD (sIf (jE (tV (e2 gGt (eV 4) (eC (.int 0)))) (tV (e2 gEq (eV 8) (eV 9)))) (sA 9 (e2 iM (e2 bY (eV 8) (eC (.int 1))) (eV 1))) sNx)
  (aD (sIf (jE (tV (e2 gGt (eV 7) (eC (.int 0)))) (tV (e2 gEq (eFm bX 0 [(eC (.int 4))]) (eC (.int 0))))) (aD (sA 8 (e2 gIx (e2 gIx (eV 6) (e2 fq (eV 7) (eC (.int 1)))) (eC (.int 1))))
  (sA 9 (e2 gIx (e2 gIx (eV 6) (e2 fq (eV 7) (eC (.int 1)))) (eC (.int 2))))) sNx)
  (aD (mG 6 (iJ [(eV 5),(eB je [(eV 8),(eV 9)]),(eB mZ [(eV 8),(eV 9)])]))
  (sA 5 (e2 bY (e2 bY (eV 5) (eC (.int 1))) (e2 gW (eFm bX 0 [(e2 gIx (dm [(eC (.int 1)),(eC (.int 3)),(eC (.int 1000))]) (eV 4))]) (e2 gIx (dm [(eC (.int 1)),(eC (.int 1)),(e2 pL (eC (.int 10)) (eC (.int 25)))]) (eV 4))))))))))
noncomputable def ql:List Dat→Option (RV×Dat):=fnM 3 7
  (aD (sA 3 (eFm bX 0 [(e2 bY (eV 2) (eC (.int 1)))]))
  (aD (sA 4 (eFm bX 0 [(eC (.int 3))]))
  (aD (sA 5 (eFm bX 0 [(eC (.int 4))]))
  (aD (sA 6 (dm []))
  (aD (d8 (iR1 (eV 3)) (bN 7)
  zP)
  (sR (eV 6)))))))
noncomputable def vh:List Dat→Option RV:=fn 2 0
  (sR (aN 0 3 (bT [2,3,4]) (tV (e2 gNe (e2 gIn (eV 3) (eV 1)) (e2 gIn (eV 4) (eV 1)))) (eV 2)))
noncomputable def zQ:FS:=
  (mG 1 (eB iN [(bF (iR2 (eC (.int 1)) (eV 0)) 1 (bN 3) (tV (e2 gEq (e2 yr (e2 wG (eV 2) (e2 fq (eV 3) (eC (.int 1)))) (eC (.int 1))) (eC (.int 1)))) (eV 3))]))
noncomputable def qo:List Dat→Option RV:=fn 1 2
  (aD (sA 1 (dm []))
  (aD (d8 (iR2 (eC (.int 1)) (e2 wQ (eC (.int 1)) (e2 fq (eV 0) (eC (.int 1))))) (bN 2)
  zQ)
  (sR (eV 1))))
noncomputable def qp:List Dat→Option RV:=fn 4 0
  (sR (eB ni [(bF (iS (eF qo [(eV 0)])) 1 (bN 4) (tV (e2 gNe (e2 gIn (eV 2) (eV 4)) (e2 gIn (eV 3) (eV 4)))) (eB d9 [(eF vh [(eV 1),(eV 4)])]))]))
noncomputable def vj (bD aV:Nat):List Dat→Option RV:=fn 6 5
  (aD (sA 6 (eF vg [(eV 0),(eB fC [(eV 1)]),(eV 2)]))
  (aD (sA 7 (e2 gIx (eF (vc bD aV) [(eV 0),(eB fC [(eV 1)]),(eV 2)]) (eC (.int 0))))
  (aD (sA 8 (aN 1 1 (bN 11) (tV (e2 gIn (e2 gIx (eV 11) (eC (.int 0))) (eV 7))) (eV 11)))
  (aD (sA 9 (eB je [(eV 2),(eF qp [(eV 0),(eV 1),(eV 4),(eV 5)])]))
  (aD (sIf (tOr (tV (e2 gNe (e2 gIx (eF (fun ds=>ju (ds++[.int 0])) [(eV 0),(eB fC [(eV 1)]),(eV 4),(eV 5),(eV 2)]) (eC (.int 0))) (eV 9))) (tV (e2 gNe (e2 gIx (eF (fun ds=>kF (ds++[.int 0])) [(eV 6),(eV 4),(eV 5)]) (eC (.int 0))) (eV 9)))) (sR (eC (.bl false))) sNx)
  (aD (sIf (tOr (tV (e2 gNe (e2 gIx (eF (fun ds=>ju (ds++[.int 0])) [(eV 0),(eV 8),(eV 4),(eV 5),(eV 2)]) (eC (.int 0))) (eV 9))) (tV (e2 gNe (e2 gIx (eF (fun ds=>kF (ds++[.int 0])) [(eV 6),(eV 5),(eV 4)]) (eC (.int 0))) (eV 9)))) (sR (eC (.bl false))) sNx)
  (aD (sA 10 (aN 1 1 (bN 11) (tV (e2 gGe (e2 gIx (eV 11) (eC (.int 0))) (eV 3))) (eV 11)))
  (aD (sA 9 (eB je [(eV 2),(eF qp [(eV 0),(eV 10),(eV 4),(eV 5)])]))
  (aD (sIf (tOr (tV (e2 gNe (e2 gIx (eF ju [(eV 0),(eB fC [(eV 1)]),(eV 4),(eV 5),(eV 2),(eV 3)]) (eC (.int 0))) (eV 9))) (tV (e2 gNe (e2 gIx (eF kF [(eV 6),(eV 4),(eV 5),(eV 3)]) (eC (.int 0))) (eV 9)))) (sR (eC (.bl false))) sNx)
  (sR (e2 gEq (eF qj [(eB fC [(eV 1)]),(eV 3)]) (eV 10))))))))))))
noncomputable def zR (bD aV:Nat):FS:=
  (aD (sA 9 (e2 iM (e2 bY (e2 bY (eV 8) (eC (.int 1))) (eFm bX 1 [(e2 fq (eV 2) (eC (.int 1)))])) (eV 2)))
  (sIf (di (tV (eF (vj bD aV) [(eV 2),(eV 5),(eV 4),(eV 7),(eV 8),(eV 9)]))) (sR (eC (.bl false))) sNx))
noncomputable def tE (bD aV:Nat):FS:=
  (aD (sA 1 (eF nu [(eV 0),(eV 3)]))
  (aD (sA 4 (e2 bY (eC (.int 1)) (eFm bX 1 [(e2 gIx (dm [(eC (.int 3)),(eC (.int 6))]) (eFm bX 1 [(eC (.int 2))]))])))
  (aD (sA 5 (eFm ql 1 [(eV 2),(eC (.int 12))]))
  (aD (sA 6 (e2 bY (e2 bY (dm [(eC (.int 0))]) (aN 5 1 (bN 10) bO (e2 bY (e2 gIx (eV 10) (eC (.int 0))) (eC (.int 1))))) (aN 5 1 (bN 10) bO (e2 gIx (eV 10) (eC (.int 0))))))
  (aD (sA 7 (e2 gIx (eV 6) (eFm bX 1 [(eB d9 [(eV 6)])])))
  (d8 (iR1 (eV 2)) (bN 8)
  (zR bD aV)))))))
noncomputable def kG (bD aV:Nat):List Dat→Option RV:=fn 1 9
  (aD (sA 1 (eF nu [(eV 0),(eC (.int 0))]))
  (aD (sA 2 (e2 bY (eC (.int 2)) (eFm bX 1 [(eC (.int 5))])))
  (aD (d8 (iR2 (eC (.int 1)) (eB mZ [(eC (.int 2)),(eB je [(eC (.int 3)),(eB d9 [(eV 0)])])])) (bN 3)
  (tE bD aV))
  (sR (eC (.bl true))))))
end P
local macro_rules | `(tactic| array_get_dec)=>`(tactic| first | with_reducible refine Dm.Ws.seq ?_ | with_reducible refine Dm.We.e2 ?_ | ((with_reducible apply Dm.We.v);(focus rfl)) | ((with_reducible apply Dm.We.w);(focus rfl)) | with_reducible refine Dm.We.c ?_ | (refine Dm.WA.val ?_ (by first | (dsimp only [List.set];first | done | rfl) | rfl)) | (refine Dm.WA.new ?_ (by first | (dsimp only [List.set];first | done | rfl) | rfl)) | (refine Dm.WA.slot ?_ rfl (by first | (dsimp only [List.set];first | done | rfl) | rfl)) | with_reducible refine Dm.Ws.A ?_ (by decide) | with_reducible refine Dm.Ws.If ?_ | with_reducible refine Dm.Wt.V ?_ | with_reducible refine Dm.Wt.Not ?_ | with_reducible refine Dm.Wt.And ?_ | with_reducible refine Dm.Wt.Or ?_ | with_reducible refine Dm.Wt.T ?_ | (refine Dm.Wb.mk ?_) | (refine Dm.bS.mk ?_) | with_reducible refine Dm.Wif.t ?_ | with_reducible refine Dm.Wif.f ?_ | with_reducible refine Dm.Was.nil ?_ | with_reducible refine Dm.Was.cons ?_ | with_reducible refine Dm.We.B ?_ | with_reducible refine Dm.We.F ?_ | with_reducible refine Dm.We.T ?_ | with_reducible refine Dm.We.L ?_ | with_reducible refine Dm.We.e1 ?_ | with_reducible refine Dm.We.If ?_ | with_reducible refine Dm.We.And ?_ | with_reducible refine Dm.We.Or ?_ | with_reducible refine Dm.We.Not ?_ | with_reducible refine Dm.We.Sl ?_ | with_reducible refine Dm.We.SlT ?_ | with_reducible refine Dm.Wp.none ?_ | with_reducible refine Dm.Wp.some ?_ | (refine Dm.Wsl.A (enc:=Dm.Dat.int) ?_ rfl) | (refine Dm.Wsl.mk ?_ rfl) | (refine Dm.WT.mk ?_ rfl (by first | (dsimp only [List.set];first | done | rfl) | rfl) (by exact Nat.le_of_ble_eq_true rfl)) | (refine Dm.Wk.val ?_) | (refine Dm.Wk.new ?_) | (refine Dm.Wk.slot ?_ rfl (by first | (dsimp only [List.set];first | done | rfl) | rfl)) | with_reducible refine Dm.We.Dn ?_ | with_reducible refine Dm.We.D1 ?_ | with_reducible refine Dm.Ws.G0 ?_ | (refine Dm.My ?_ rfl) | (refine Dm.sY rfl ?_) | (refine Dm.n8 ?_ rfl (by first | (dsimp only [List.set];first | done | rfl) | rfl) ?_) | (refine Dm.Ws.App ?_ rfl) | (refine Dm.iY ?_ rfl (by first | (dsimp only [List.set];first | done | rfl) | rfl) ?_) | with_reducible refine Dm.Ws.U ?_ | (refine Dm.Mc ?_ rfl (by first | (dsimp only [List.set];first | done | rfl) | rfl)) | with_reducible refine Dm.Ws.R ?_ | (refine Dm.WR.new ?_) | (refine Dm.WR.val ?_) | (refine Dm.WR.slot ?_ rfl) | with_reducible refine Dm.Ws.nx ?_ | with_reducible refine Dm.Ws.bk ?_ | with_reducible refine Dm.Ws.ct ?_ | with_reducible refine Dm.Ws.E ?_ | with_reducible refine Dm.Ws.For ?_ | with_reducible refine Dm.Wi.S ?_ | with_reducible refine Dm.Wi.L ?_ | with_reducible refine Dm.Wi.R1 ?_ | with_reducible refine Dm.Wi.R2 ?_ | (refine Dm.ig ?_) | (refine Dm.Lq ?_) | (refine Dm.Wg2.eq ?_ rfl rfl) | (refine Dm.Wg2.ne ?_ rfl rfl) | (refine Dm.Wg2.Mu ?_ rfl rfl ?_) | (refine Dm.Wg2.Mv ?_ rfl rfl ?_) | (refine Dm.Wg2.eqb ?_ rfl rfl) | (refine Dm.Wg2.neb ?_ rfl rfl) | (refine Dm.Wg2.Me ?_ rfl rfl) | (refine Dm.Wg2.isb ?_ rfl rfl) | (refine Dm.Wg2.lt ?_ rfl rfl) | (refine Dm.Wg2.le ?_ rfl rfl) | (refine Dm.Wg2.gt ?_ rfl rfl) | (refine Dm.Wg2.ge ?_ rfl rfl) | (refine Dm.Wg2.add ?_ rfl rfl) | (refine Dm.Wg2.G1 ?_ rfl rfl ?_) | (refine Dm.Wg2.Mw ?_ rfl rfl ?_) | (refine Dm.Wg2.Kh ?_ rfl rfl ?_) | (refine Dm.Wg2.sub ?_ rfl rfl) | (refine Dm.Wg2.mul ?_ rfl rfl (by first | exact Or.inl (by decide) | exact Or.inr (by decide))) | (refine Dm.Wg2.mul ?_ rfl rfl ?_) | (refine Dm.Wg2.div ?_ rfl rfl (by decide)) | (refine Dm.Wg2.div ?_ rfl rfl ?_) | (refine Dm.Wg2.mod ?_ rfl rfl (by decide)) | (refine Dm.Wg2.mod ?_ rfl rfl ?_) | (refine Dm.Wg2.din ?_ rfl rfl) | (refine Dm.Wg2.Kl ?_ rfl rfl) | (refine Dm.Wg2.inP ?_ rfl rfl) | (refine Dm.Wg2.Mz ?_ rfl rfl) | (refine Dm.Wg2.ix ?_ rfl rfl rfl) | (refine Dm.WB.zB (enc:=Dm.Dat.int) ?_ rfl) | (refine Dm.WB.len ?_ rfl) | (refine Dm.WB.L8 ?_ rfl) | (refine Dm.WB.min2 ?_ rfl) | (refine Dm.WB.max2 ?_ rfl) | (refine Dm.WB.list ?_ rfl) | (refine Dm.WB.int ?_ rfl) | (refine Dm.WB.sum2 ?_ rfl ?_) | (refine Dm.Wg1.MA (enc:=Dm.Dat.int) ?_ rfl) | (refine Dm.Wg1.mk ?_ rfl rfl))
namespace P
open Dm Fl
noncomputable def aO (t:Tie):Dat:=.tup [.int t.m,.int t.a,.int t.b]
noncomputable def aB (r:List Tie):Dat:=.lst (r.map aO)
noncomputable def bE (s:Step):Dat:=.tup [.int s.1,.int s.2]
noncomputable def b5 (w:List Step):Dat:=.lst (w.map bE)
noncomputable def Pl (n:Nat) (r:List Tie):Prop:=∀ t∈r,0≤t.a∧t.a<n∧0≤t.b∧t.b<n
noncomputable def b7 (x:Int) (t:Tie):Option Step:=if t.a=t.b then none else if t.a=x then some (t.m,t.b) else if t.b=x then some (t.m,t.a) else none
noncomputable def aG (r:List Tie) (x:Int):List Step:=r.filterMap (b7 x)
noncomputable def bM (n:Nat) (r:List Tie):List (List Dat):=(List.range n).map fun i:Nat=>(aG r i).map bE
theorem vm {i e:FE} {ρ ρ1 ρ2 ρ3:Env} {rows:List (List Dat)} {k:Int} {m:Nat} {row:List Dat} {x:Val} {d:Dat} (h1:i ρ=some (.val (.int k),ρ1)) (h2:ixN rows.length k=some m) (h3:rows[m]?=some row) (h4:e ρ1=some (x,ρ2)) (h5:tk ρ2 x=some (d,ρ3)) (h6:row.length<SZ) :
  sN i e ρ rows=some (ρ3,rows.set m (row++[d])):=by
 unfold sN
 rw [h1]
 dsimp only
 rw [h2]
 dsimp only
 rw [h3]
 dsimp only
 rw [h4]
 dsimp only
 rw [h5]
 dsimp only
 rw [if_pos h6]
theorem iu (r:List Tie) (t:Tie) (x:Int):aG (r++[t]) x=aG r x++(b7 x t).toList:=by
 unfold aG
 rw [List.filterMap_append]
 cases h:b7 x t with
 | none=>simp [h]
 | some s=>simp [h]
theorem zS {n:Nat} {k:Int} (h0:0≤k) (h1:k<n):ixN n k=some k.toNat:=by
 unfold ixN
 rw [if_pos h0,if_pos h1]
theorem fm (n:Nat) (r:List Tie) (i:Nat) (h:i<n):(bM n r)[i]?=some ((aG r i).map bE):=by
 unfold bM
 rw [List.getElem?_map,List.getElem?_range h]
 rfl
theorem cA (n:Nat) (r:List Tie):(bM n r).length=n:=by simp [bM]
theorem cP (r:List Tie) (x:Int):(aG r x).length≤r.length:=List.length_filterMap_le _ _
theorem tF (n:Nat) (r:List Tie) (t:Tie) (h:t.a≠t.b) (a0:0≤t.a) (a1:t.a<n) (b0:0≤t.b) (b1:t.b<n) :
  ((bM n r).set t.a.toNat ((aG r t.a).map bE++[bE (t.m,t.b)])).set t.b.toNat ((aG r t.b).map bE++[bE (t.m,t.a)])=bM n (r++[t]):=by
 apply List.ext_getElem?
 intro i
 by_cases hi:i<n
 ·rw [fm _ _ _ hi,iu,List.map_append]
  by_cases eb:t.b.toNat=i
  ·have e:(i:Int)=t.b:=by omega
   rw [← eb,List.getElem?_set_self (by rw [List.length_set,cA];omega),eb,e]
   have:b7 t.b t=some (t.m,t.a):=by unfold b7;rw [if_neg h,if_neg (fun z=>h z),if_pos rfl]
   rw [this]
   rfl
  ·rw [List.getElem?_set_ne eb]
   by_cases ea:t.a.toNat=i
   ·have e:(i:Int)=t.a:=by omega
    rw [← ea,List.getElem?_set_self (by rw [cA];omega),ea,e]
    have:b7 t.a t=some (t.m,t.b):=by unfold b7;rw [if_neg h,if_pos rfl]
    rw [this]
    rfl
   ·rw [List.getElem?_set_ne ea,fm _ _ _ hi]
    have:b7 i t=none:=by unfold b7;rw [if_neg h,if_neg (by omega),if_neg (by omega)]
    rw [this]
    simp
 ·rw [List.getElem?_eq_none (by rw [List.length_set,List.length_set,cA];omega),List.getElem?_eq_none (by rw [cA];omega)]
theorem tG (n:Nat) (r:List Tie) (t:Tie) (h:t.a=t.b):bM n (r++[t])=bM n r:=by
 unfold bM
 apply List.map_congr_left
 intro i _
 rw [iu]
 have:b7 i t=none:=by unfold b7;rw [if_pos h]
 rw [this]
 simp
theorem xh (n:Nat) (r:List Tie) (t:Tie) (hl:r.length<1000) (a0:0≤t.a) (a1:t.a<n) (b0:0≤t.b) (b1:t.b<n) (c0 c1 c2:Cell) :
  ir [c0,c1,c2,.sh (.int t.m),.sh (.int t.a),.sh (.int t.b)] (bM n r)=some ([c0,c1,c2,.sh (.int t.m),.sh (.int t.a),.sh (.int t.b)],bM n (r++[t])):=by
 have ht:tV (e2 gNe (eV 4) (eV 5)) [c0,c1,c2,.sh (.int t.m),.sh (.int t.a),.sh (.int t.b)]=some (!decide (t.a=t.b),[c0,c1,c2,.sh (.int t.m),.sh (.int t.a),.sh (.int t.b)]):=by
  unfold tV e2 eV
  simp [pk,n9,RV.bq]
 unfold ir nIf
 rw [ht]
 by_cases h:t.a=t.b
 ·rw [decide_eq_true h]
  rw [tG n r t h]
  rfl
 ·rw [decide_eq_false h]
  show wU _ _ _ _=_
  unfold wU
  have k1:=(cP r t.a)
  have k2:=(cP r t.b)
  have hz:SZ=100000:=rfl
  have ea:((t.a.toNat:Nat):Int)=t.a:=by omega
  have eb:((t.b.toNat:Nat):Int)=t.b:=by omega
  rw [vm (k:=t.a) (m:=t.a.toNat) (row:=(aG r t.a).map bE) (d:=bE (t.m,t.b)) (ρ3:=[c0,c1,c2,.sh (.int t.m),.sh (.int t.a),.sh (.int t.b)]) rfl (by rw [cA];exact zS a0 a1) (by rw [fm _ _ _ (by omega),ea]) rfl rfl (by rw [List.length_map];omega)]
  dsimp only
  rw [vm (k:=t.b) (m:=t.b.toNat) (row:=(aG r t.b).map bE) (d:=bE (t.m,t.a)) (ρ3:=[c0,c1,c2,.sh (.int t.m),.sh (.int t.a),.sh (.int t.b)]) rfl (by rw [List.length_set,cA];exact zS b0 b1)
   (by rw [List.getElem?_set_ne (by omega),fm _ _ _ (by omega),eb]) rfl rfl (by rw [List.length_map];omega)]
  rw [tF n r t h a0 a1 b0 b1]
theorem kH (n:Nat) (c0 c1 c2:Cell):∀ (q p:List Tie) (c3 c4 c5:Cell),Pl n q→p.length+q.length≤1000 →
  ∃ c3' c4' c5',jo (bT [3,4,5]) ir (q.map aO) [c0,c1,c2,c3,c4,c5] (bM n p)=some ([c0,c1,c2,c3',c4',c5'],bM n (p++q))
 | [],p,c3,c4,c5,_,_=>⟨c3,c4,c5,by rw [List.append_nil];rfl⟩
 | t::q,p,c3,c4,c5,hp,hl=>by
  obtain ⟨a0,a1,b0,b1⟩:=hp t List.mem_cons_self
  rw [List.length_cons] at hl
  obtain ⟨c3',c4',c5',e⟩:=kH n c0 c1 c2 q (p++[t]) (.sh (.int t.m)) (.sh (.int t.a)) (.sh (.int t.b)) (fun u hu=>hp u (List.mem_cons_of_mem _ hu)) (by rw [List.length_append,List.length_singleton];omega)
  refine ⟨c3',c4',c5',?_⟩
  rw [List.map_cons,jo]
  show (match ir [c0,c1,c2,.sh (.int t.m),.sh (.int t.a),.sh (.int t.b)] (bM n p) with | none=>none | some (ρ2,r2)=>jo (bT [3,4,5]) ir (q.map aO) ρ2 r2)=_
  rw [xh n p t (by omega) a0 a1 b0 b1]
  dsimp only
  rw [e,List.append_assoc]
  rfl
theorem zT (pre:Env) (k:Nat) (hk:pre.length=k) (h0:k≠0):∀ (ds:List Dat) (c:Cell),∃ c',nMk (bN k) ds (pre++[c])=some (pre++[c'])
 | [],c=>⟨c,rfl⟩
 | d::ds,c=>by
  obtain ⟨c',e⟩:=zT pre k hk h0 ds (.sh d)
  refine ⟨c',?_⟩
  rw [nMk]
  have:bN k d (pre++[c])=some (pre++[.sh d]):=by
   unfold bN
   rw [if_neg h0,List.set_append_right _ _ (by omega)]
   simp [hk]
  rw [this]
  exact e
noncomputable def bw (n:Nat) (R:Int→List Step):Dat:=.lst ((List.range n).map fun i:Nat=>b5 (R i))
theorem qq (n:Nat) (hn:n≤1000) (r:List Tie) (hr:Pl n r) (hl:r.length≤1000):CF [.int n,aB r]=some (.new (bw n (aG r))):=by
 obtain ⟨c3,c4,c5,e⟩:=kH n (.sh (.int n)) (.sh (aB r)) .un r [] .un .un .un hr (by simpa using hl)
 obtain ⟨c',e2⟩:=zT [.sh (.int n),.sh (aB r),.un,.un,.un,.un] 6 rfl (by decide) (ups 0 n) .un
 have h0:bM n []=List.replicate n []:=by
  unfold bM aG
  apply List.ext_getElem?
  intro i
  by_cases hi:i<n
  ·rw [List.getElem?_map,List.getElem?_range hi,List.getElem?_replicate,if_pos hi]
   rfl
  ·rw [List.getElem?_eq_none (by simp;omega),List.getElem?_eq_none (by simp;omega)]
 have hu:(ups 0 n).length=n:=by simp [ups]
 have e1:iR1 (eV 0) [.sh (.int n),.sh (aB r),.un,.un,.un,.un]=some (ups 0 n,[.sh (.int n),.sh (aB r),.un,.un,.un,.un]):=by
  show (if (n:Int)≤BIG∧-BIG≤(n:Int) then some (ups 0 (n:Int).toNat,_) else none)=_
  rw [if_pos (by unfold BIG;omega)]
  rfl
 rw [h0,List.nil_append] at e
 have en:ko 2 (iR1 (eV 0)) 1 (bN 6) (sO (iS (eV 1)) (bT [3,4,5]) ir) [.sh (.int n),.sh (aB r),.un,.un,.un,.un]=some (.nx [.sh (.int n),.sh (aB r),.ow (bw n (aG r)),c3,c4,c5]):=by
  unfold ko
  rw [if_neg (by decide),e1]
  dsimp only
  rw [if_pos (by rw [hu];unfold SZ;omega)]
  show (match nMk (bN 6) (ups 0 n) ([.sh (.int n),.sh (aB r),.un,.un,.un,.un]++[.un]) with | none=>none | some ρ2=>_)=_
  rw [e2]
  dsimp only
  rw [hu]
  show (match sO (iS (eV 1)) (bT [3,4,5]) ir [.sh (.int n),.sh (aB r),.un,.un,.un,.un] (List.replicate n []) with | none=>none | some (ρ3,r3)=>_)=_
  have:sO (iS (eV 1)) (bT [3,4,5]) ir [.sh (.int n),.sh (aB r),.un,.un,.un,.un] (List.replicate n [])=some ([.sh (.int n),.sh (aB r),.un,c3,c4,c5],bM n r):=e
  rw [this]
  have e3:(bM n r).map Dat.lst=(List.range n).map fun i:Nat=>b5 (aG r i):=by
   unfold bM
   rw [List.map_map]
   rfl
  show some (Out.nx [.sh (.int n),.sh (aB r),.ow (.lst ((bM n r).map Dat.lst)),c3,c4,c5])=_
  rw [e3]
  rfl
 apply Wr.eq
 unfold CF
 (refine Dm.Wr.fn ?_ rfl rfl;dsimp only [List.map,List.replicate,List.cons_append,List.nil_append])
 refine Ws.seq ⟨_,en,?_⟩
 refine Ws.R (We.w rfl (WR.slot ?_ rfl))
 rfl
noncomputable def hdF (h:List (Int×Int)):Hd:=fun m=>(h.find? fun e=>decide (e.1=m)).map (·.2)
noncomputable def hk (h:List (Int×Int)):List Int:=h.map (·.1)
noncomputable def hv (h:List (Int×Int)):List Dat:=h.map fun e=>Dat.int e.2
noncomputable def aZ (h:List (Int×Int)):Dat:=.dct (hk h) (hv h)
theorem jM (h:List (Int×Int)) (m:Int):bu (hk h) (hv h) m=(hdF h m).map Dat.int:=by
 unfold hk hv hdF
 induction h with
 | nil=>rfl
 | cons e h ih=>
  rw [List.map_cons,List.map_cons,bu,List.find?_cons]
  by_cases q:e.1=m
  ·rw [if_pos q,decide_eq_true q];rfl
  ·rw [if_neg q,decide_eq_false q];exact ih
theorem oh {h:List (Int×Int)} {m:Int}:(hdF h m).isSome=decide (m∈hk h):=by
 unfold hdF hk
 induction h with
 | nil=>rfl
 | cons e h ih=>
  rw [List.find?_cons]
  by_cases q:e.1=m
  ·rw [decide_eq_true q];simp [q]
  ·rw [decide_eq_false q]
   have q':¬ m=e.1:=fun z=>q z.symm
   simp only [List.map_cons,List.mem_cons,q',false_or]
   exact ih
theorem G3 (o:Option Int) (y:Int):gNe ((o.map Dat.int).getD .non) (.int y)=vB (!decide (o=some y)):=by
 cases o with
 | none=>rfl
 | some z=>
  show gNe (.int z) (.int y)=_
  rw [n9]
  have:(z=y)=(some z=some y):=by simp
  simp only [this]
theorem G4 (o:Option Int) (y:Int):gEq ((o.map Dat.int).getD .non) (.int y)=vB (decide (o=some y)):=by
 cases o with
 | none=>rfl
 | some z=>
  show gEq (.int z) (.int y)=_
  rw [uW]
  have:(z=y)=(some z=some y):=by simp
  simp only [this]
noncomputable def qt (h:List (Int×Int)) (R:Int→List Step):Int→List Step:=fun x=>(R x).filter fun s=>!decide (hdF h s.1=some s.2)
noncomputable def qu (h:List (Int×Int)) (R:Int→List Step):Int→List Step:=fun x=>(R x).filter fun s=>decide (hdF h s.1=some s.2)
theorem vn (g:Dat→Dat→Option RV) (p:Option Int→Int→Bool) (hg:∀ o y,g ((o.map Dat.int).getD .non) (.int y)=vB (p o y)) (h:List (Int×Int)) (A:Cell) (w:List Step) (hl:w.length≤1000) :
  We (aN 2 1 (bN 3) (tV (e2 g (jm (eV 1) (e2 gIx (eV 3) (eC (.int 0)))) (e2 gIx (eV 3) (eC (.int 1))))) (eV 3)) [A,.sh (aZ h),.sh (b5 w)] fun v ρ'=>Wk ρ' v fun d ρ''=>d=b5 (w.filter fun s=>p (hdF h s.1) s.2)∧ρ''=[A,.sh (aZ h),.sh (b5 w)]:=by
 refine We.CD bE w (fun s=>p (hdF h s.1) s.2) id bE (d:=b5 w) ?_ rfl rfl rfl (by decide) (by unfold SZ;omega) (fun s _=>?_) fun s _ _=>?_
 ·rw [List.map_id]
  exact Wk.new ⟨rfl,rfl⟩
 ·refine Wt.V (We.e2 (We.Ma (We.v rfl ⟨⟨_,_,rfl⟩,We.e2 (We.v rfl (We.c (Wg2.ix ?_ rfl rfl rfl)))⟩)))
  refine ⟨hk h,hv h,s.1,rfl,rfl,We.e2 (We.v rfl (We.c (Wg2.ix ?_ rfl rfl rfl)))⟩
  refine ⟨_,_,_,rfl,rfl,(by rw [jM];exact hg _ _),?_⟩
  exact Wb.mk ⟨rfl,rfl⟩
 ·exact We.v rfl (Wk.val ⟨rfl,rfl⟩)
theorem fD (n:Nat) (hn:n≤1000) (R:Int→List Step) (hR:∀ i:Nat,i<n→(R i).length≤1000) (h:List (Int×Int)):zI [bw n R,aZ h]=some (.new (bw n (qt h R))):=by
 apply Wr.eq
 unfold zI
 (refine Dm.Wr.fn ?_ rfl rfl;dsimp only [List.map,List.replicate,List.cons_append,List.nil_append])
 refine Ws.R ?_
 refine We.sW (fun i:Nat=>b5 (R i)) (List.range n) id (fun i:Nat=>b5 (qt h R i)) (d:=bw n R) ?_ rfl rfl rfl (by decide) (by rw [List.length_range];unfold SZ;omega) fun i hi=>?_
 ·rw [List.map_id];rfl
 ·exact vn gNe (fun o y=>!decide (o=some y)) G3 h _ (R i) (hR i (List.mem_range.mp hi))
theorem oj (n:Nat) (hn:n≤1000) (R:Int→List Step) (hR:∀ i:Nat,i<n→(R i).length≤1000) (h:List (Int×Int)):zJ [bw n R,aZ h]=some (.new (bw n (qu h R))):=by
 apply Wr.eq
 unfold zJ
 (refine Dm.Wr.fn ?_ rfl rfl;dsimp only [List.map,List.replicate,List.cons_append,List.nil_append])
 refine Ws.R ?_
 refine We.sW (fun i:Nat=>b5 (R i)) (List.range n) id (fun i:Nat=>b5 (qu h R i)) (d:=bw n R) ?_ rfl rfl rfl (by decide) (by rw [List.length_range];unfold SZ;omega) fun i hi=>?_
 ·rw [List.map_id];rfl
 ·exact vn gEq (fun o y=>decide (o=some y)) G4 h _ (R i) (hR i (List.mem_range.mp hi))
theorem CI (ks:List Int) (i:Int):(ks.any fun k=>decide (k=i))=decide (i∈ks):=by
 induction ks with
 | nil=>rfl
 | cons k ks ih=>
  rw [List.any_cons,ih]
  by_cases h:k=i
  ·simp [h]
  ·have h':¬ i=k:=fun z=>h z.symm
   simp [h,h']
theorem vo {ks:List Int} {vs:List Dat} {i:Int} {d:Dat} (h:i∉ks):jj ks i=ks++[i]∧jl ks vs i d=vs++[d]:=by
 unfold jj jl
 rw [CI,decide_eq_false h]
 exact ⟨rfl,rfl⟩
theorem xj {α:Type} (key:α→Int) (val:α→Dat) (xs:List α) (i:Int):bu (xs.map key) (xs.map val) i=(xs.find? fun x=>decide (key x=i)).map val:=by
 induction xs with
 | nil=>rfl
 | cons x xs ih=>
  rw [List.map_cons,List.map_cons,bu,List.find?_cons]
  by_cases h:key x=i
  ·simp [h]
  ·simp [h,ih]
theorem cY {α:Type} [DecidableEq α]:∀ (l m:List α),l.Nodup→(∀ x∈l,x∈m)→l.length≤m.length
 | [],_,_,_=>Nat.zero_le _
 | x::l,m,h,k=>by
  obtain ⟨h1,h2⟩:=List.nodup_cons.mp h
  have hx:x∈m:=k x List.mem_cons_self
  have:=cY l (m.erase x) h2 fun y hy=>(List.mem_erase_of_ne (fun e:y=x=>h1 (by rw [← e];exact hy))).mpr (k y (List.mem_cons_of_mem _ hy))
  rw [List.length_erase_of_mem hx] at this
  have:=List.length_pos_of_mem hx
  simp
  omega
noncomputable def places (n:Nat):List Int:=(List.range n).map fun i:Nat=>(i:Int)
theorem places_len (n:Nat):(places n).length=n:=by simp [places]
theorem tH (n:Nat) (x:Int):x∈places n↔0≤x∧x<n:=by
 unfold places
 rw [List.mem_map]
 constructor
 ·rintro ⟨i,hi,rfl⟩
  have:=List.mem_range.mp hi
  omega
 ·rintro ⟨h0,h1⟩
  exact ⟨x.toNat,List.mem_range.mpr (by omega),by omega⟩
noncomputable abbrev Sr:=List (Int×List Step)
noncomputable def sk (s:Sr):List Int:=s.map (·.1)
noncomputable def sv (s:Sr):List Dat:=s.map fun e=>b5 e.2
noncomputable def InR (R:Int→List Step) (p:Int) (s:Step):Prop:=s∈R p
structure zU (R:Int→Step→Prop) (a:Int) (w:List Step) (p:Int):Prop where
 way:Way R a w p
 nd:(a::w.map (·.2)).Nodup
structure Fnd (n:Nat) (R:Int→List Step) (a:Int) (s:Sr):Prop where
 nd:(sk s).Nodup
 pl:∀ x∈sk s,0≤x∧x<n
 st:a∈sk s
 way:∀ e∈s,zU (InR R) a e.2 e.1∧∀ x∈a::e.2.map (·.2),x∈sk s
theorem Fnd.len {n:Nat} {R:Int→List Step} {a:Int} {s:Sr} (h:Fnd n R a s):s.length≤n:=by
 have:=cY (sk s) (places n) h.nd fun x hx=>(tH n x).mpr (h.pl x hx)
 rw [places_len] at this
 simpa [sk] using this
theorem Fnd.CJ {n:Nat} {R:Int→List Step} {a:Int} {s:Sr} (h:Fnd n R a s) {e:Int×List Step} (he:e∈s):e.2.length<s.length:=by
 obtain ⟨h1,h2⟩:=h.way e he
 have:=cY (a::e.2.map (·.2)) (sk s) h1.nd h2
 simp [sk] at this
 omega
theorem cy (s:Sr) (x:Int) (w:List Step):sk (s++[(x,w)])=sk s++[x]:=by simp [sk]
theorem CK (s:Sr) (x:Int) (w:List Step):sv (s++[(x,w)])=sv s++[b5 w]:=by simp [sv]
theorem oq (s:Sr) (x:Int):(∃ w,(x,w)∈s∧bu (sk s) (sv s) x=some (b5 w))∨(x∉sk s∧bu (sk s) (sv s) x=none):=by
 unfold sk sv
 rw [xj (fun e:Int×List Step=>e.1) (fun e=>b5 e.2) s x]
 cases hf:s.find? fun e=>decide (e.1=x) with
 | none=>
  refine Or.inr ⟨fun h=>?_,rfl⟩
  obtain ⟨e,he,hx⟩:=List.mem_map.mp h
  have:=List.find?_eq_none.mp hf e he
  simp [hx] at this
 | some e=>
  have h1:=List.mem_of_find?_eq_some hf
  have h2:=List.find?_some hf
  have h2:e.1=x:=by simpa using h2
  exact Or.inl ⟨e.2,by rw [← h2];exact h1,rfl⟩
theorem jv (s:Sr) (x:Int):(bu (sk s) (sv s) x).isSome=decide (x∈sk s):=by
 rcases oq s x with ⟨ts,h1,h2⟩ | ⟨h1,h2⟩
 ·have:x∈sk s:=List.mem_map.mpr ⟨_,h1,rfl⟩
  rw [h2,decide_eq_true this];rfl
 ·rw [h2,decide_eq_false h1];rfl
theorem Fnd.start {n:Nat} {R:Int→List Step} {a:Int} (a0:0≤a) (a1:a<n):Fnd n R a [(a,[])] where
 nd:=by simp [sk]
 pl:=by intro x hx;simp [sk] at hx;subst hx;exact ⟨a0,a1⟩
 st:=by simp [sk]
 way:=by
  intro e he
  simp at he
  subst he
  exact ⟨⟨rfl,by simp⟩,by simp [sk]⟩
theorem Fnd.step {n:Nat} {R:Int→List Step} {a:Int} {s:Sr} (h:Fnd n R a s) {p:Int} {w:List Step} (hp:(p,w)∈s) {u:Step} (hu:u∈R p) (hn:u.2∉sk s) (u0:0≤u.2) (u1:u.2<n):Fnd n R a (s++[(u.2,w++[u])]) where
 nd:=by
  rw [cy]
  exact List.nodup_append.mpr ⟨h.nd,by simp,fun x hx y hy=>by rw [List.mem_singleton.mp hy];exact fun e=>hn (e▸hx)⟩
 pl:=by
  intro x hx
  rw [cy] at hx
  rcases List.mem_append.mp hx with hx | hx
  ·exact h.pl x hx
  ·rw [List.mem_singleton.mp hx];exact ⟨u0,u1⟩
 st:=by rw [cy];exact List.mem_append_left _ h.st
 way:=by
  intro e he
  rw [cy]
  rcases List.mem_append.mp he with he | he
  ·obtain ⟨k1,k2⟩:=h.way e he
   exact ⟨k1,fun x hx=>List.mem_append_left _ (k2 x hx)⟩
  ·rw [List.mem_singleton.mp he]
   obtain ⟨k1,k2⟩:=h.way _ hp
   refine ⟨⟨k1.way.snoc hu,?_⟩,fun x hx=>?_⟩
   ·dsimp only at k1 k2 ⊢
    rw [List.map_append,← List.cons_append]
    exact List.nodup_append.mpr ⟨k1.nd,by simp,fun x hx y hy=>by rw [List.mem_singleton.mp hy];exact fun e:x=u.2=>hn (by rw [← e];exact k2 x hx)⟩
   ·dsimp only at k1 k2 hx ⊢
    rw [List.map_append,← List.cons_append] at hx
    rcases List.mem_append.mp hx with hx | hx
    ·exact List.mem_append_left _ (k2 x hx)
    ·exact List.mem_append_right _ (by simpa using hx)
noncomputable def Done (R:Int→List Step) (K:List Int) (x:Int):Prop:=∀ u∈R x,u.2∈K
noncomputable def CL (n:Nat) (R:Int→List Step) (a:Int) (s:Sr) (ps:List Int) (c4 c5:Cell):Env:=[.sh (bw n R),.sh (.int a),.ow (.dct (sk s) (sv s)),.ow (.lst (ps.map Dat.int)),c4,c5]
theorem G5 {ps:List Int} {p0:Int} {i:Nat} {e:FE} {ρ ρ2:Env} {Q:Val→Env→Prop} (q:Q (.val (.int p0)) ρ2) (h:ρ[i]?=some (.ow (.lst ((p0::ps).map Dat.int)))) (he:e ρ=some (.val (.int 0),ρ)) (hs:ρ.set i (.ow (.lst (ps.map Dat.int)))=ρ2):We (iW i e) ρ Q:=
 ⟨_,_,by
  unfold iW
  rw [h]
  dsimp only
  rw [he]
  dsimp only
  rw [h]
  dsimp only
  rw [if_pos (by unfold BIG;omega)]
  show some (Val.val (.int p0),ρ.set i (.ow (.lst (ps.map Dat.int))))=_
  rw [hs],q⟩
theorem CM (n:Nat) (R:Int→List Step) (x:Int) (h0:0≤x) (h1:x<n):gIx (bw n R) (.int x)=some (.val (b5 (R x))):=by
 unfold bw gIx
 dsimp only
 rw [ie (fun i:Nat=>b5 (R i)) (List.range n) x h0 (by rw [List.length_range];exact h1)]
 have e:(((List.range n)[x.toNat]'(by rw [List.length_range];omega):Nat):Int)=x:=by rw [List.getElem_range];omega
 rw [e]
 rfl
theorem jx (n:Nat) (hn:n≤40) (R:Int→List Step) (hR:∀ i:Int,0≤i→i<n→∀ u∈R i,0≤u.2∧u.2<n) (a:Int) (a0:0≤a) (a1:a<n) :
  ∃ s:Sr,qc [bw n R,.int a]=some (.new (.dct (sk s) (sv s)))∧Fnd n R a s∧∀ x∈sk s,Done R (sk s) x:=by
 suffices h:Wr (qc [bw n R,.int a]) fun v=>∃ s:Sr,v=.new (.dct (sk s) (sv s))∧Fnd n R a s∧∀ x∈sk s,Done R (sk s) x by
  obtain ⟨v,h1,s,rfl,h2⟩:=h
  exact ⟨s,h1,h2⟩
 unfold qc
 (refine Dm.Wr.fn ?_ rfl rfl;dsimp only [List.map,List.replicate,List.cons_append,List.nil_append])
 repeat array_get_dec
 refine Ws.wh (fun k ρ=>∃ (s:Sr) (ps:List Int) (c4 c5:Cell),ρ=CL n R a s ps c4 c5∧Fnd n R a s∧(∀ x∈ps,x∈sk s)∧(∀ x∈sk s,x∈ps∨Done R (sk s) x)∧k=ps.length+(n-s.length)∧k≤40) ?_ 100 n _ (by omega) ⟨[(a,[])],[a],_,_,rfl,Fnd.start a0 a1,by simp [sk],by simp [sk],by simp;omega,hn⟩
 rintro k ρ ⟨s,ps,c4,c5,rfl,F,hps,hd,hk,MB⟩
 unfold CL
 refine Wt.Tr ?_
 refine We.w rfl ?_
 refine ⟨_,!(ps.map Dat.int).isEmpty,rfl,rfl,?_⟩
 have len:=F.len
 cases ps with
 | nil=>
  refine Wif.no rfl ?_
  refine Ws.R (We.w rfl (WR.slot ?_ rfl))
  exact ⟨s,rfl,F,fun x hx=>(hd x hx).resolve_left (by simp)⟩
 | cons p0 ps0=>
  refine Wif.yes rfl ?_
  unfold Ea
  refine Ws.seq (Ws.A ?_ (by decide))
  refine G5 (ps:=ps0) (p0:=p0) ?_ rfl rfl rfl
  refine WA.val ?_ (by first | (dsimp only [List.set];first | done | rfl) | rfl)
  have hp0:p0∈sk s:=hps p0 (by simp)
  obtain ⟨q0,q1⟩:=F.pl p0 hp0
  refine Ws.For (Wi.S (We.e2 (We.v rfl (We.v rfl (Wg2.ix ?_ rfl rfl (CM n R p0 q0 q1))))))
  refine Wk.val (ig ?_)
  refine Ws.inv bE _ _ (R p0) _ _ _ _ _ (fun p q ρ=>∃ (s:Sr) (ps:List Int) (c5:Cell),ρ=CL n R a s ps (.sh (.int p0)) c5∧Fnd n R a s∧(∀ x∈ps,x∈sk s)∧p0∈sk s∧(∀ x∈sk s,x∈ps∨x=p0∨Done R (sk s) x)∧(∀ u∈p,u.2∈sk s)∧k=ps.length+1+(n-s.length)) ⟨s,ps0,_,rfl,F,fun x hx=>hps x (by simp [hx]),hp0,?_,by simp,by rw [hk];simp⟩ ?_ ?_
  ·intro x hx
   rcases hd x hx with h | h
   ·rcases List.mem_cons.mp h with h | h
    ·exact .inr (.inl h)
    ·exact .inl h
   ·exact .inr (.inr h)
  ·rintro p u q ρ e' ⟨s,ps,c5,rfl,F,hps,hp0,hd,hp,hk⟩
   have len:=F.len
   have hu:u∈R p0:=by rw [e'];simp
   obtain ⟨u0,u1⟩:=hR p0 q0 q1 u hu
   unfold CL
   refine Dm.bI rfl (by first | (dsimp only [List.set];first | done | rfl) | rfl) ?_
   unfold D_
   refine Ws.If (Wt.V (We.e2 (We.e2 (We.v rfl (We.c (Wg2.ix ?_ rfl rfl rfl))))))
   refine We.w rfl (Wg2.Kl ?_ rfl rfl)
   refine Wb.mk ?_
   rw [jv]
   refine ⟨fun h=>?_,fun h=>?_⟩
   ·have hnew:=ndT h
    obtain ⟨w,t1,t2⟩:∃ w,(p0,w)∈s∧bu (sk s) (sv s) p0=some (b5 w):=by
     rcases oq s p0 with h | h
     ·exact h
     ·exact absurd hp0 h.1
    have wl:=F.CJ t1
    refine Ws.seq (Ws.G0 (We.e2 (We.e2 (We.w rfl (We.v rfl (Wg2.dx t2 ?_ rfl rfl))))))
    refine We.L (Was.cons (We.v rfl (Was.nil (WT.mk ?_ rfl rfl (by exact Nat.le_of_ble_eq_true rfl)))))
    refine Wg2.Kh ?_ rfl rfl (by rw [List.length_map];dsimp only at wl;simp;unfold SZ;omega)
    refine Wk.new (sY rfl (We.e2 (We.v rfl (We.c (Wg2.ix ?_ rfl rfl rfl)))))
    refine bS.mk (n8 ?_ rfl (by first | (dsimp only [List.set];first | done | rfl) | rfl) (by simp only [sk,List.length_map];unfold SZ;omega))
    refine Ws.App (We.e2 (We.v rfl (We.c (Wg2.ix ?_ rfl rfl rfl)))) rfl
    refine Wk.val (iY ?_ rfl (by first | (dsimp only [List.set];first | done | rfl) | rfl) (by rw [List.length_map];unfold SZ;omega))
    have F':=F.step t1 hu hnew u0 u1
    have len':=F'.len
    have em:Dat.lst (w.map bE++[bE u])=b5 (w++[u]):=by simp [b5]
    obtain ⟨p1,p2⟩:=vo (ks:=sk s) (vs:=sv s) (i:=u.2) (d:=b5 (w++[u])) hnew
    refine ⟨s++[(u.2,w++[u])],ps++[u.2],.sh (bE u),?_,F',?_,?_,?_,?_,?_⟩
    ·rw [em,p1,p2,cy,CK,List.map_append]
     rfl
    ·intro x hx
     rw [cy]
     rcases List.mem_append.mp hx with hx | hx
     ·exact List.mem_append_left _ (hps x hx)
     ·exact List.mem_append_right _ hx
    ·rw [cy];exact List.mem_append_left _ hp0
    ·intro x hx
     rw [cy] at hx ⊢
     rcases List.mem_append.mp hx with hx | hx
     ·rcases hd x hx with h | h | h
      ·exact .inl (List.mem_append_left _ h)
      ·exact .inr (.inl h)
      ·exact .inr (.inr fun y hy=>List.mem_append_left _ (h y hy))
     ·exact .inl (List.mem_append_right _ hx)
    ·intro v hv
     rw [cy]
     rcases List.mem_append.mp hv with hv | hv
     ·exact List.mem_append_left _ (hp v hv)
     ·rw [List.mem_singleton.mp hv];simp
    ·rw [hk];simp at len' ⊢;omega
   ·have hold:=ndF h
    refine Ws.nx ?_
    refine ⟨s,ps,.sh (bE u),rfl,F,hps,hp0,hd,fun v hv=>?_,hk⟩
    rcases List.mem_append.mp hv with hv | hv
    ·exact hp v hv
    ·rw [List.mem_singleton.mp hv];exact hold
  ·rintro ρ ⟨s,ps,c5,rfl,F,hps,hp0,hd,hp,hk⟩
   refine ⟨ps.length+(n-s.length),by omega,s,ps,_,_,rfl,F,hps,fun x hx=>?_,rfl,by omega⟩
   rcases hd x hx with h | rfl | h
   ·exact .inl h
   ·exact .inr hp
   ·exact .inr h
noncomputable def jy (h:List (Int×Int)) (s:Step):List (Int×Int):=if s.1∈hk h then h.filter fun e=>decide (e.1≠s.1) else h++[s]
theorem kI (h:List (Int×Int)) (m:Int):hdF (h.filter fun e=>decide (e.1≠m))=put (hdF h) m none:=by
 funext x
 unfold put hdF
 rw [List.find?_filter]
 by_cases e:x=m
 ·subst e
  rw [if_pos rfl,List.find?_eq_none.mpr fun y _=>by simp]
  rfl
 ·rw [if_neg e]
  congr 1
  congr 1
  funext y
  by_cases q:y.1=x
  ·have:y.1≠m:=fun z=>e (q.symm.trans z)
   simp [q,e]
  ·simp [q]
theorem CN (h:List (Int×Int)) (s:Step) (hn:s.1∉hk h):hdF (h++[s])=put (hdF h) s.1 (some s.2):=by
 funext x
 unfold put hdF
 rw [List.find?_append]
 by_cases e:x=s.1
 ·subst e
  rw [if_pos rfl]
  have:(h.find? fun e=>decide (e.1=s.1))=none:=List.find?_eq_none.mpr fun y hy=>by
   intro z
   exact hn (List.mem_map.mpr ⟨y,hy,of_decide_eq_true z⟩)
  rw [this]
  simp
 ·rw [if_neg e]
  have e':¬ s.1=x:=fun z=>e z.symm
  cases hf:(h.find? fun e=>decide (e.1=x)) with
  | none=>simp [e']
  | some y=>rfl
theorem zV (h:List (Int×Int)) (s:Step):hdF (jy h s)=eU (hdF h) s.1 s.2:=by
 unfold jy eU
 rw [oh]
 by_cases q:s.1∈hk h
 ·rw [if_pos q,if_pos (decide_eq_true q),kI]
 ·rw [if_neg q,if_neg (by simpa using q),CN h s q]
noncomputable def bB (h:List (Int×Int)):List Step→List (Int×Int)
 | []=>h
 | s::w=>bB (jy h s) w
theorem nv:∀ (w:List Step) (h:List (Int×Int)),hdF (bB h w)=jr (hdF h) w
 | [],_=>rfl
 | s::w,h=>by rw [bB,jr,nv w,zV]
theorem eY:∀ (w:List Step) (h:List (Int×Int)) (s:Step),bB h (w++[s])=jy (bB h w) s
 | [],_,_=>rfl
 | _::w,h,s=>by rw [List.cons_append,bB,bB,eY w]
theorem jN (h:List (Int×Int)) (m:Int):dG (hk h) (hv h) m=hk (h.filter fun e=>decide (e.1≠m))∧dH (hk h) (hv h) m=hv (h.filter fun e=>decide (e.1≠m)):=by
 unfold hk hv
 induction h with
 | nil=>exact ⟨rfl,rfl⟩
 | cons e h ih=>
  rw [List.map_cons,List.map_cons,dG,dH]
  by_cases q:e.1=m
  ·rw [if_pos q,if_pos q,List.filter_cons_of_neg (by simpa using q)];exact ih
  ·rw [if_neg q,if_neg q,List.filter_cons_of_pos (by simpa using q),List.map_cons,List.map_cons,ih.1,ih.2];exact ⟨rfl,rfl⟩
structure Hok (r:List Tie) (h:List (Int×Int)):Prop where
 nd:(hk h).Nodup
 sub:∀ m∈hk h,m∈r.map (·.m)
theorem Hok.len {r:List Tie} {h:List (Int×Int)} (k:Hok r h):h.length≤r.length:=by
 have:=cY (hk h) (r.map (·.m)) k.nd k.sub
 simpa [hk] using this
theorem Hok.nil (r:List Tie):Hok r []:=⟨by simp [hk],by simp [hk]⟩
theorem Hok.drop {r:List Tie} {h:List (Int×Int)} (k:Hok r h) (m:Int):Hok r (h.filter fun e=>decide (e.1≠m)):=by
 refine ⟨(k.nd.sublist (List.Sublist.map _ (List.filter_sublist))),fun x hx=>k.sub x ?_⟩
 obtain ⟨e,he,rfl⟩:=List.mem_map.mp hx
 exact List.mem_map.mpr ⟨e,(List.mem_filter.mp he).1,rfl⟩
theorem Hok.lead {r:List Tie} {h:List (Int×Int)} (k:Hok r h) {s:Step} (hs:s.1∈r.map (·.m)):Hok r (jy h s):=by
 unfold jy
 split
 ·exact k.drop _
 ·rename_i q
  refine ⟨?_,fun x hx=>?_⟩
  ·unfold hk
   rw [List.map_append]
   exact List.nodup_append.mpr ⟨k.nd,by simp,fun x hx y hy=>by
    have:y=s.1:=by simpa using hy
    rw [this];exact fun e=>q (e▸hx)⟩
  ·unfold hk at hx
   rw [List.map_append] at hx
   rcases List.mem_append.mp hx with hx | hx
   ·exact k.sub x hx
   ·have:x=s.1:=by simpa using hx
    rw [this];exact hs
theorem Hok.zW {r:List Tie}:∀ {w:List Step} {h:List (Int×Int)},Hok r h→(∀ s∈w,s.1∈r.map (·.m))→Hok r (bB h w)
 | [],_,k,_=>k
 | s::w,h,k,hs=>by
  rw [bB]
  exact Hok.zW (w:=w) (k.lead (hs s List.mem_cons_self)) fun u hu=>hs u (List.mem_cons_of_mem _ hu)
theorem mP (r:List Tie) (hl:r.length≤1000) (h:List (Int×Int)) (k:Hok r h) (w:List Step) (hw:∀ s∈w,s.1∈r.map (·.m)):zK [aZ h,b5 w]=some (.val .non,aZ (bB h w)):=by
 suffices q:WrM (zK [aZ h,b5 w]) fun z d=>z=.val .non∧d=aZ (bB h w) by
  obtain ⟨z,d,h1,rfl,rfl⟩:=q
  exact h1
 unfold zK
 refine WrM.fn ?_ rfl rfl
 refine Ws.For (Wi.S (We.v rfl (Wk.val (ig ?_))))
 refine Ws.inv bE _ _ w _ _ _ _ _ (fun p q ρ=>∃ c2 c3,ρ=[.ow (aZ (bB h p)),.sh (b5 w),c2,c3]) ⟨_,_,rfl⟩ ?_ ?_
 ·rintro p s q ρ e ⟨c2,c3,rfl⟩
  refine Dm.bI rfl (by first | (dsimp only [List.set];first | done | rfl) | rfl) ?_
  have kp:Hok r (bB h p):=k.zW fun u hu=>hw u (by rw [e];exact List.mem_append_left _ hu)
  have len:=kp.len
  unfold Eb
  refine Ws.If (Wt.V (We.e2 (We.v rfl (We.w rfl (Wg2.din ?_ rfl rfl)))))
  refine Wb.mk ?_
  rw [jM,Option.isSome_map,oh]
  refine Wif.dec (fun hm=>?_) fun hm=>?_
  ·obtain ⟨x,hx⟩:∃ x,hdF (bB h p) s.1=some x:=Option.isSome_iff_exists.mp (by rw [oh];exact decide_eq_true hm)
   refine Ws.E (We.Kp (k:=s.1) (d:=.int x) (by rw [jM,hx];rfl) ?_ rfl rfl rfl)
   refine ⟨.sh (.int s.1),.sh (.int s.2),?_⟩
   rw [eY,jy,if_pos hm,(jN _ _).1,(jN _ _).2]
   rfl
  ·refine Ws.G0 (We.v rfl (Wk.val (sY rfl (We.v rfl (bS.mk (n8 ?_ rfl (by first | (dsimp only [List.set];first | done | rfl) | rfl) ?_))))))
   ·refine ⟨.sh (.int s.1),.sh (.int s.2),?_⟩
    rw [eY,jy,if_neg hm]
    obtain ⟨p1,p2⟩:=vo (ks:=hk (bB h p)) (vs:=hv (bB h p)) (i:=s.1) (d:=.int s.2) hm
    rw [p1,p2]
    unfold aZ hk hv
    rw [List.map_append,List.map_append]
    rfl
   ·unfold hk;rw [List.length_map];unfold SZ;omega
 ·rintro ρ ⟨c2,c3,rfl⟩
  exact ⟨_,rfl,rfl,rfl⟩
theorem jz {r:List Tie} {x:Int} {s:Step}:s∈aG r x↔eW r x s:=by
 unfold aG
 rw [List.mem_filterMap]
 constructor
 ·rintro ⟨t,ht,e⟩
  unfold b7 at e
  split at e
  ·cases e
  rename_i hne
  split at e
  ·rename_i ha
   cases e
   exact ⟨t,ht,rfl,hne,.inl ⟨ha,rfl⟩⟩
  ·split at e
   ·rename_i hb
    cases e
    exact ⟨t,ht,rfl,hne,.inr ⟨hb,rfl⟩⟩
   ·cases e
 ·rintro ⟨t,ht,hm,hne,he⟩
  refine ⟨t,ht,?_⟩
  unfold b7
  rw [if_neg hne]
  rcases he with ⟨h1,h2⟩ | ⟨h1,h2⟩
  ·rw [if_pos h1,hm,h2]
  ·rw [if_neg (fun z=>hne (z.trans h1.symm)),if_pos h1,hm,h2]
theorem qv {n:Nat} {r:List Tie} (hp:Pl n r) {x:Int} {s:Step} (h:eW r x s):(0≤x∧x<n)∧0≤s.2∧s.2<n:=by
 obtain ⟨t,ht,_,_,he⟩:=h
 have:=hp t ht
 omega
theorem CO {r:List Tie} {x:Int} {s:Step} (h:eW r x s):s.1∈r.map (·.m):=by
 obtain ⟨t,ht,hm,_⟩:=h
 exact List.mem_map.mpr ⟨t,ht,hm⟩
theorem zX {r:List Tie} {R:Int→Step→Prop} (hR:∀ p s,R p s→eW r p s) {y:Int}:∀ {w:List Step} {x:Int},Way R x w y→∀ s∈w,s.1∈r.map (·.m)
 | [],_,_,s,hs=>by cases hs
 | u::w,x,h,s,hs=>by
  rcases List.mem_cons.mp hs with rfl | hs
  ·exact CO (hR _ _ h.1)
  ·exact zX hR h.2 s hs
theorem kJ {r:List Tie} {h:List (Int×Int)} {p:Int} {s:Step}:InR (qt h (aG r)) p s↔kC r (hdF h) p s:=by
 unfold InR qt kC
 rw [List.mem_filter,jz]
 simp
theorem ou {r:List Tie} {h:List (Int×Int)} {p:Int} {s:Step}:InR (qu h (aG r)) p s↔Led r (hdF h) p s:=by
 unfold InR qu Led
 rw [List.mem_filter,jz]
 simp
theorem xm (w:List Step):bA (b5 w)=true:=fh _ _ fun s=>by unfold bE bA;exact iZ _ (by intro x hx;simp at hx;rcases hx with rfl | rfl<;>exact nj _)
theorem fN (n:Nat) (R:Int→List Step):bA (bw n R)=true:=fh (fun i:Nat=>b5 (R i)) _ fun i=>xm _
noncomputable def mso (w:List Step):List Int:=w.map (·.1)
noncomputable def msD (w:List Step):Dat:=.lst ((mso w).map Dat.int)
noncomputable def bU (h:List (Int×Int)):List Int→List (Int×Int)
 | []=>h
 | m::ms=>bU (h.filter fun e=>decide (e.1≠m)) ms
theorem jA:∀ (ms:List Int) (h:List (Int×Int)) (m:Int),bU h (ms++[m])=(bU h ms).filter fun e=>decide (e.1≠m)
 | [],_,_=>rfl
 | _::ms,h,m=>by rw [List.cons_append,bU,bU,jA ms]
theorem i7:∀ (w:List Step) (h:List (Int×Int)),hdF (bU h (mso w))=dQ (hdF h) w
 | [],_=>rfl
 | s::w,h=>by
  show hdF (bU _ (mso w))=dQ _ w
  rw [i7 w,kI]
theorem jB:∀ (ms:List Int) (h:List (Int×Int)) (x:Int),x∉ms→hdF (bU h ms) x=hdF h x
 | [],_,_,_=>rfl
 | m::ms,h,x,hx=>by
  rw [bU,jB ms _ x fun z=>hx (List.mem_cons_of_mem _ z),kI]
  unfold put
  rw [if_neg fun z=>hx (by rw [z];exact List.mem_cons_self)]
theorem Hok.drops {r:List Tie}:∀ {ms:List Int} {h:List (Int×Int)},Hok r h→Hok r (bU h ms)
 | [],_,k=>k
 | m::ms,h,k=>by rw [bU];exact Hok.drops (ms:=ms) (k.drop m)
theorem tK {r:List Tie} {H:Hd} {y:Int}:∀ {w:List Step} {x:Int},Way (Led r H) x w y→∀ s∈w,H s.1=some s.2
 | [],_,_,s,hs=>by cases hs
 | u::w,x,h,s,hs=>by
  rcases List.mem_cons.mp hs with rfl | hs
  ·exact h.1.2
  ·exact tK h.2 s hs
structure zY (r:List Tie) (a b:Int) (ws:List (List Step)):Prop where
 way:∀ w∈ws,zU (eW r) a w b
 nd:(ws.map mso).flatten.Nodup
noncomputable def xo (n:Nat) (r:List Tie) (h0 h:List (Int×Int)) (a b:Int) (c:Nat) (ws:List (List Step)) (c7 c8 c9:Cell):Env:=
 [.sh (bw n (aG r)),.sh (aZ h0),.sh (.int a),.sh (.int b),.sh (.int c),.ow (aZ h),.ow (.lst (ws.map msD)),c7,c8,c9]
theorem xq (n:Nat) (hn:n≤40) (r:List Tie) (hp:Pl n r) (nd:(r.map (·.m)).Nodup) (hl:r.length≤1000) (h:List (Int×Int)) (k:Hok r h) (a b:Int) (a0:0≤a) (a1:a<n) (c:Nat) (hc:c≤1000) (fl:Flow r (hdF h) a b c) :
  ∃ ws:List (List Step),xg [bw n (aG r),aZ h,.int a,.int b,.int c]=some (.new (.lst (ws.map msD)))∧ws.length=c∧zY r a b ws:=by
 suffices q:Wr (xg [bw n (aG r),aZ h,.int a,.int b,.int c]) fun v=>∃ ws:List (List Step),v=.new (.lst (ws.map msD))∧ws.length=c∧zY r a b ws by
  obtain ⟨v,h1,ws,rfl,h2⟩:=q
  exact ⟨ws,h1,h2⟩
 unfold xg
 (refine Dm.Wr.fn ?_ rfl rfl;dsimp only [List.map,List.replicate,List.cons_append,List.nil_append])
 refine Ws.seq (Ws.A (We.B (Was.cons (We.v rfl (Was.nil (WB.dict (ks:=hk h) (vs:=hv h) ?_ rfl))))) (by decide))
 refine WA.new ?_ (by first | (dsimp only [List.set];first | done | rfl) | rfl)
 refine Ws.seq (Ws.A (We.L (Was.nil (WT.mk ?_ rfl rfl (by decide)))) (by decide))
 refine WA.new ?_ (by first | (dsimp only [List.set];first | done | rfl) | rfl)
 refine Ws.seq (Ws.For (Wi.R1 (We.v rfl (bS.mk ⟨?_,by unfold BIG;omega,by unfold BIG;omega⟩))))
 refine Ws.inv (fun i:Nat=>Dat.int (0+(i:Nat))) _ _ (List.range c) _ _ _ _ _ (fun p q ρ=>∃ (h':List (Int×Int)) (ws:List (List Step)) (c7 c8 c9:Cell),ρ=xo n r h h' a b c ws c7 c8 c9∧Hok r h'∧ws.length=p.length∧Flow r (hdF h') a b q.length∧zY r a b ws∧∀ m∈(ws.map mso).flatten,hdF h' m=none)
  ⟨h,[],_,_,_,rfl,k,rfl,by rw [List.length_range];exact fl,⟨by simp,by simp⟩,by simp⟩ ?_ ?_
 ·rintro p x q ρ e ⟨h',ws,c7,c8,c9,rfl,k',wl,fl',W,hno⟩
  rw [List.length_cons] at fl'
  unfold xo
  refine Dm.bI rfl (by first | (dsimp only [List.set];first | done | rfl) | rfl) ?_
  unfold Ed
  have hR:∀ i:Nat,i<n→(aG r i).length≤1000:=fun i _=>Nat.le_trans (cP r i) hl
  obtain ⟨s,es,F,hd⟩:=jx n hn (qu h' (aG r)) (fun i _ _ u hu=>(qv hp ((ou (h:=h')).mp hu).1).2) a a0 a1
  have hb:b∈sk s:=by
   have:=fl'.reach (S:=fun y=>decide (y∈sk s)) (decide_eq_true F.st) fun y u hy hu=>decide_eq_true (hd y (of_decide_eq_true hy) u (ou.mpr hu))
   exact of_decide_eq_true this
  obtain ⟨w,t1,t2⟩:∃ w,(b,w)∈s∧bu (sk s) (sv s) b=some (b5 w):=by
   rcases oq s b with h | h
   ·exact h
   ·exact absurd hb h.1
  obtain ⟨⟨w1,w2⟩,_⟩:=F.way _ t1
  have CJ:=F.CJ t1
  have Mf:=F.len
  dsimp only at w1 w2 CJ
  have w1':Way (Led r (hdF h')) a w b:=w1.mono fun _ _ z=>ou.mp z
  have wm:=jq nd (fun p s h=>h.1) w1' w2
  have hit:iS (e2 gDx (eF qc [(eFd zJ [(eV 0),(eV 5)]),(eV 2)]) (eV 3)) [.sh (bw n (aG r)),.sh (aZ h),.sh (.int a),.sh (.int b),.sh (.int c),.ow (aZ h'),.ow (.lst (ws.map msD)),.sh (.int (0+(x:Nat))),c8,c9]
    = some (w.map bE,[.sh (bw n (aG r)),.sh (aZ h),.sh (.int a),.sh (.int b),.sh (.int c),.ow (aZ h'),.ow (.lst (ws.map msD)),.sh (.int (0+(x:Nat))),c8,c9]):=by
   apply Wi.get
   refine Wi.S (We.e2 (We.F (Was.cons (We.Fd (Was.cons (We.v rfl (Was.cons (We.w rfl (Was.nil ?_)))))))))
   refine ⟨_,_,_,rfl,oj n (by omega) (aG r) hR h',fN _ _,?_⟩
   refine Was.cons (We.v rfl (Was.nil (WF.box es ?_ rfl rfl rfl rfl)))
   refine We.v rfl (Wg2.dx t2 ?_ rfl rfl)
   exact Wk.val (ig ⟨rfl,rfl⟩)
  refine Ws.seq (Ws.A (We.Map bE w (fun s=>s.1) Dat.int ?_ hit rfl (by decide) (by unfold SZ;omega) fun s _=>We.e2 (We.v rfl (We.c (Wg2.ix (Wk.val ⟨rfl,rfl⟩) rfl rfl rfl)))) (by decide))
  refine WA.new ?_ (by first | (dsimp only [List.set];first | done | rfl) | rfl)
  refine Ws.seq (Ws.For (Wi.S (We.w rfl (Wk.slot (ig ?_) rfl (by first | (dsimp only [List.set];first | done | rfl) | rfl)))))
  refine Ws.inv Dat.int _ _ (mso w) _ _ _ _ _ (fun pm qm ρ=>∃ c9,ρ=xo n r h (bU h' pm) a b c ws (.sh (.int (0+(x:Nat)))) (.sh (msD w)) c9) ⟨_,rfl⟩ ?_ ?_
  ·rintro pm m qm ρ em ⟨c9,rfl⟩
   unfold xo
   refine Dm.bI rfl (by first | (dsimp only [List.set];first | done | rfl) | rfl) ?_
   unfold Ec
   have hm:m∉pm:=by
    have:(mso w).Nodup:=wm
    rw [em] at this
    exact fun z=>(List.nodup_append.mp this).2.2 m z m List.mem_cons_self rfl
   have hmw:m∈mso w:=by rw [em];simp
   obtain ⟨st,hst,rfl⟩:=List.mem_map.mp hmw
   have hx:hdF (bU h' pm) st.1=some st.2:=by rw [jB pm h' st.1 hm];exact tK w1' st hst
   refine Ws.E (We.Kp (k:=st.1) (d:=.int st.2) (by rw [jM,hx];rfl) ?_ rfl rfl rfl)
   refine ⟨.sh (.int st.1),?_⟩
   rw [jA,(jN _ _).1,(jN _ _).2]
   rfl
  ·rintro ρ ⟨c9,rfl⟩
   unfold xo
   refine Ws.App (We.v rfl (Wk.val (iY ?_ rfl (by first | (dsimp only [List.set];first | done | rfl) | rfl) ?_))) rfl
   ·have fl2:=fl'.less nd w1' w2
    rw [← i7] at fl2
    refine ⟨bU h' (mso w),ws++[w],.sh (.int (0+(x:Nat))),.sh (msD w),c9,?_,k'.drops,by simp [wl],fl2,⟨fun v hv=>?_,?_⟩,fun m hm=>?_⟩
    ·rw [List.map_append];rfl
    ·rcases List.mem_append.mp hv with hv | hv
     ·exact W.way v hv
     ·rw [List.mem_singleton.mp hv];exact ⟨w1'.mono fun _ _ z=>z.1,w2⟩
    ·rw [List.map_append,List.flatten_append]
     refine List.nodup_append.mpr ⟨W.nd,by rw [List.map_cons,List.map_nil,List.flatten_cons,List.flatten_nil,List.append_nil];exact wm,fun m hm z hz=>?_⟩
     intro e
     subst e
     have:m∈mso w:=by simpa using hz
     obtain ⟨st,hst,rfl⟩:=List.mem_map.mp this
     have h1:=tK w1' st hst
     rw [hno _ hm] at h1
     cases h1
    ·rw [List.map_append,List.flatten_append] at hm
     rw [i7]
     rcases List.mem_append.mp hm with hm | hm
     ·by_cases z:m∈mso w
      ·exact fL z
      ·rw [eX fun u hu e=>z (List.mem_map.mpr ⟨u,hu,e⟩)];exact hno m hm
     ·rw [List.map_cons,List.map_nil,List.flatten_cons,List.flatten_nil,List.append_nil] at hm
      exact fL hm
   ·rw [List.length_map,wl]
    have:=congrArg List.length e
    rw [List.length_range,List.length_append] at this
    unfold SZ;omega
 ·rintro ρ ⟨h',ws,c7,c8,c9,rfl,k',wl,fl',W,hno⟩
  unfold xo
  refine Ws.R (We.w rfl (WR.slot ?_ rfl))
  exact ⟨ws,rfl,by rw [wl,List.length_range],W⟩
noncomputable def tupI (S:List Int):Dat:=.tup (S.map Dat.int)
noncomputable def ovr (S:List Int) (t:Tie):Bool:=decide (t.a∈S) != decide (t.b∈S)
noncomputable def dW (r:List Tie) (S:List Int):List Int:=(r.filter (ovr S)).map (·.m)
noncomputable def Kq (n:Nat) (a b:Int) (S:List Int):Prop:=S.Pairwise (· < ·)∧(∀ x∈S,0≤x∧x<n)∧a∈S∧b∉S
noncomputable def dR:Option (List Int)→Dat
 | none=>.non
 | some S=>tupI S
theorem zZ {l:List Int} (h:l.Nodup):(dP ltI l).Pairwise (· < ·):=by
 have h1:=mO l
 have h2:(dP ltI l).Nodup:=(dD ltI l).nodup_iff.mpr h
 refine (List.Pairwise.and h1 h2).imp fun {x y} q=>?_
 obtain ⟨q1,q2⟩:=q
 simp [ltI] at q1
 omega
structure Apart (n:Nat) (r:List Tie) (a b:Int) (most:Int) (ws:List (List Step)) (o:Option (List Int)):Prop where
 ways:zY r a b ws
 le:(ws.length:Int)≤most
 all:o=none→(ws.length:Int)=most
 side:∀ S,o=some S→Kq n a b S∧(dW r S).length=ws.length∧(ws.length:Int)<most
noncomputable def Kr (n:Nat) (r:List Tie) (a b most:Int) (c5:Cell) (h:List (Int×Int)) (o:Option (List Int)) (k:Nat) (c9:Cell):Env:=
 [.sh (.int n),.sh (aB r),.sh (.int a),.sh (.int b),.sh (.int most),c5,.ow (aZ h),.sh (dR o),.sh (.int k),c9]
noncomputable def z4 (n:Nat) (r:List Tie) (c:Cell):Prop:=c=.ow (bw n (aG r))∨c=.sh (bw n (aG r))
theorem vp (ws:List (List Step)):bA (.lst (ws.map msD))=true:=fh _ _ fun w=>s_ _
theorem Eg {n:Nat} {r:List Tie} {c5:Cell} (h5:z4 n r c5) (A B C D E G H I J:Cell) {Q:Val→Env→Prop} (rest:List FE) {Q':List Val→Env→Prop}
  (k:∀ x,(x=.slot 5∧c5=.ow (bw n (aG r)))∨(x=.val (bw n (aG r))∧c5=.sh (bw n (aG r)))→Was rest [A,B,C,D,E,c5,G,H,I,J] fun xs ρ2=>Q' (x::xs) ρ2):Was (eV 5::rest) [A,B,C,D,E,c5,G,H,I,J] Q':=by
 rcases h5 with rfl | rfl
 ·exact Was.cons (We.w rfl (k _ (.inl ⟨rfl,rfl⟩)))
 ·exact Was.cons (We.v rfl (k _ (.inr ⟨rfl,rfl⟩)))
theorem b9 (n:Nat) (hn:n≤40) (r:List Tie) (hp:Pl n r) (nd:(r.map (·.m)).Nodup) (hl:r.length≤1000) (a b:Int) (a0:0≤a) (a1:a<n) (b0:0≤b) (b1:b<n) (most:Int) (m0:0≤most) (m1:most≤90) :
  ∃ ws o,qd [.int n,aB r,.int a,.int b,.int most]=some (.val (.tup [.lst (ws.map msD),dR o]))∧Apart n r a b most ws o:=by
 suffices q:Wr (qd [.int n,aB r,.int a,.int b,.int most]) fun v=>∃ ws o,v=.val (.tup [.lst (ws.map msD),dR o])∧Apart n r a b most ws o by
  obtain ⟨v,h1,ws,o,rfl,h2⟩:=q
  exact ⟨ws,o,h1,h2⟩
 unfold qd
 (refine Dm.Wr.fn ?_ rfl rfl;dsimp only [List.map,List.replicate,List.cons_append,List.nil_append])
 refine Ws.seq (Ws.A (We.F (Was.cons (We.v rfl (Was.cons (We.v rfl (Was.nil (WF.box (qq n (by omega) r hp hl) ?_ rfl rfl rfl rfl))))))) (by decide))
 refine WA.new ?_ (by first | (dsimp only [List.set];first | done | rfl) | rfl)
 refine Ws.seq (Ws.A (We.Dn (WA.new ?_ (by first | (dsimp only [List.set];first | done | rfl) | rfl))) (by decide))
 refine Ws.seq (Ws.A (We.c (WA.val ?_ (by first | (dsimp only [List.set];first | done | rfl) | rfl))) (by decide))
 refine Ws.seq (Ws.A (We.c (WA.val ?_ (by first | (dsimp only [List.set];first | done | rfl) | rfl))) (by decide))
 have hR:∀ i:Nat,i<n→(aG r i).length≤1000:=fun i _=>Nat.le_trans (cP r i) hl
 refine Ws.seq ?_
 refine Ws.wh (fun k ρ=>∃ (c5:Cell) (h:List (Int×Int)) (o:Option (List Int)) (cnt:Nat) (c9:Cell),ρ=Kr n r a b most c5 h o cnt c9∧z4 n r c5∧Hok r h∧Flow r (hdF h) a b cnt∧(cnt:Int)≤most∧(∀ S,o=some S→Kq n a b S∧(dW r S).length=cnt∧(cnt:Int)<most) ∧
   k=(most-cnt).toNat+(if o=none then 1 else 0)) ?_ 100 (most.toNat+1) _ (by omega) ⟨_,[],none,0,_,rfl,.inl rfl,Hok.nil r,Flow.zero r a b,m0,by simp,by simp⟩
 rintro k ρ ⟨c5,h,o,cnt,c9,rfl,h5,hok,fl,hle,hs,hk⟩
 unfold Kr
 have fin:o≠none∨¬ (cnt:Int)<most→Ws (sR (iJ [(eFd xg [(eV 5),(eV 6),(eV 2),(eV 3),(eV 8)]),(eV 7)])) [.sh (.int n),.sh (aB r),.sh (.int a),.sh (.int b),.sh (.int most),c5,.ow (aZ h),.sh (dR o),.sh (.int cnt),c9]
   (fun _=>∃ ws o,RV.val .non=.val (.tup [.lst (ws.map msD),dR o])∧Apart n r a b most ws o) (fun v _=>∃ ws o,v=.val (.tup [.lst (ws.map msD),dR o])∧Apart n r a b most ws o) (fun _=>False) (fun _=>False):=fun hend=>by
  obtain ⟨ws,ep,wl,W⟩:=xq n hn r hp nd hl h hok a b a0 a1 cnt (by omega) fl
  refine Ws.R (We.T (Was.cons (We.Fd (Eg (Q:=fun _ _=>True) h5 _ _ _ _ _ _ _ _ _ _ fun x hx=>?_))))
  refine Was.cons (We.w rfl (Was.cons (We.v rfl (Was.cons (We.v rfl (Was.cons (We.v rfl (Was.nil ?_))))))))
  have fin2:Apart n r a b most ws o:=⟨W,by rw [wl];exact hle,fun z=>by rw [wl];have:=hend.resolve_left (fun y=>y z);omega,fun S z=>by rw [wl];exact hs S z⟩
  rcases hx with ⟨rfl,rfl⟩ | ⟨rfl,rfl⟩
  ·refine ⟨_,_,_,rfl,ep,vp ws,?_⟩
   refine Was.cons (We.v rfl (Was.nil (WT.mk ?_ rfl rfl (by exact Nat.le_of_ble_eq_true rfl))))
   exact ⟨ws,o,rfl,fin2⟩
  ·refine ⟨_,_,_,rfl,ep,vp ws,?_⟩
   refine Was.cons (We.v rfl (Was.nil (WT.mk ?_ rfl rfl (by exact Nat.le_of_ble_eq_true rfl))))
   exact ⟨ws,o,rfl,fin2⟩
 refine Wt.And (Wt.V (We.e2 (We.v rfl (We.v rfl (Wg2.lt (Wb.mk ?_) rfl rfl)))))
 refine Wif.dec (fun hlt=>?_) fun hge=>?_
 ·refine Wt.V (We.e2 (We.v rfl (We.c (Wg2.isN (Wb.mk ?_) rfl rfl))))
  cases o with
  | some S=>
   refine Wif.no rfl ?_
   exact fin (.inl (by simp))
  | none=>
   refine Wif.yes rfl ?_
   unfold Ef
   obtain ⟨s,es,F,hd⟩:=jx n hn (qt h (aG r)) (fun i _ _ u hu=>(qv hp ((kJ (h:=h)).mp hu).1).2) a a0 a1
   have Mf:=F.len
   have search:∀ {N:Env→Prop} {R:RV→Env→Prop} {B C:Env→Prop},(∀ c5',z4 n r c5'→N [.sh (.int n),.sh (aB r),.sh (.int a),.sh (.int b),.sh (.int most),c5',.ow (aZ h),.sh (dR none),.sh (.int cnt),.ow (.dct (sk s) (sv s))]) →
     Ws (sA 9 (eF qc [(eFd zI [(eV 5),(eV 6)]),(eV 2)])) [.sh (.int n),.sh (aB r),.sh (.int a),.sh (.int b),.sh (.int most),c5,.ow (aZ h),.sh (dR none),.sh (.int cnt),c9] N R B C:=fun {N R B C} kN=>by
    refine Ws.A (We.F (Was.cons (We.Fd (Eg (Q:=fun _ _=>True) h5 _ _ _ _ _ _ _ _ _ _ fun x hx=>?_)))) (by decide)
    refine Was.cons (We.w rfl (Was.nil ?_))
    rcases hx with ⟨rfl,rfl⟩ | ⟨rfl,rfl⟩
    ·refine ⟨_,_,_,rfl,fD n (by omega) (aG r) hR h,fN _ _,?_⟩
     refine Was.cons (We.v rfl (Was.nil (WF.box es ?_ rfl rfl rfl rfl)))
     exact WA.new (kN _ (.inr rfl)) (by first | (dsimp only [List.set];first | done | rfl) | rfl)
    ·refine ⟨_,_,_,rfl,fD n (by omega) (aG r) hR h,fN _ _,?_⟩
     refine Was.cons (We.v rfl (Was.nil (WF.box es ?_ rfl rfl rfl rfl)))
     exact WA.new (kN _ (.inr rfl)) (by first | (dsimp only [List.set];first | done | rfl) | rfl)
   refine Ws.seq (search fun c5' h5'=>?_)
   refine Ws.If (Wt.V (We.e2 (We.v rfl (We.w rfl (Wg2.din (Wb.mk ?_) rfl rfl)))))
   rw [jv]
   refine Wif.dec (fun hb=>?_) fun hb=>?_
   ·obtain ⟨w,t1,t2⟩:∃ w,(b,w)∈s∧bu (sk s) (sv s) b=some (b5 w):=by
     rcases oq s b with h | h
     ·exact h
     ·exact absurd hb h.1
    obtain ⟨⟨w1,w2⟩,_⟩:=F.way _ t1
    dsimp only at w1 w2
    have w1':Way (kC r (hdF h)) a w b:=w1.mono fun _ _ z=>kJ.mp z
    have wms:=zX (fun p s (z:kC r (hdF h) p s)=>z.1) w1'
    have el:=mP r hl h hok w wms
    refine Ws.seq (Ws.E (We.Fm (Was.cons (We.e2 (We.w rfl (We.v rfl (Wg2.dx t2 (Was.nil (WFm.any el ?_ rfl rfl rfl)) rfl rfl))))) rfl))
    refine Ws.A (We.e2 (We.v rfl (We.c (Wg2.add (WA.val ?_ (by first | (dsimp only [List.set];first | done | rfl) | rfl)) rfl rfl)))) (by decide)
    have fl2:=fl.more nd w1' w2
    rw [← nv] at fl2
    refine ⟨(most-(cnt+1:Nat)).toNat+1,by rw [hk];simp;omega,c5',bB h w,none,cnt+1,.ow (.dct (sk s) (sv s)),?_,h5',hok.zW wms,fl2,by omega,by simp,by simp⟩
    have:((cnt:Int)+1)=((cnt+1:Nat):Int):=by omega
    rw [this]
   ·refine Ws.A (We.B (Was.cons (We.B (Was.cons (We.w rfl (Was.nil (WB.Ko (ks:=sk s) (vs:=sv s) ?_ rfl (by simp only [sk,List.length_map];omega)))))))) (by decide)
    refine Was.nil (WB.tuple ?_ rfl)
    refine WA.val ?_ (by first | (dsimp only [List.set];first | done | rfl) | rfl)
    have pm:=dD ltI (sk s)
    have hS:∀ x,x∈dP ltI (sk s)↔x∈sk s:=fun x=>pm.mem_iff
    refine ⟨(most-cnt).toNat,by rw [hk];simp,c5',h,some (dP ltI (sk s)),cnt,.ow (.dct (sk s) (sv s)),rfl,h5',hok,fl,hle,fun S z=>?_,by simp⟩
    cases z
    refine ⟨⟨zZ F.nd,fun x hx=>F.pl x ((hS x).mp hx),(hS a).mpr F.st,fun z=>hb ((hS b).mp z)⟩,?_,hlt⟩
    have:=fl.cut (S:=fun y=>decide (y∈dP ltI (sk s))) (decide_eq_true ((hS a).mpr F.st)) (decide_eq_false fun z=>hb ((hS b).mp z)) fun y u hy hu=>decide_eq_true ((hS _).mpr (hd y ((hS y).mp (of_decide_eq_true hy)) u (kJ.mpr hu)))
    unfold dW
    rw [List.length_map]
    exact this
 ·refine Wif.no rfl ?_
  exact fin (.inr hge)
theorem bV (x n:Int) (h:1≤n):0≤x % n∧x % n<n:=⟨Int.emod_nonneg x (by omega),Int.emod_lt_of_pos x (by omega)⟩
noncomputable def at' (ns:List Int) (i:Int):Int:=ns.getD i.toNat 0
theorem G6 (ns:List Int) (i:Int) (h0:0≤i) (h1:i<ns.length):gIx (.lst (ns.map Dat.int)) (.int i)=some (.val (.int (at' ns i))):=by
 show (atI (ns.map Dat.int) i).map RV.val=_
 rw [Dm.ie Dat.int ns i h0 h1]
 unfold at'
 rw [List.getD_eq_getElem?_getD,List.getElem?_eq_getElem (by omega)]
 rfl
theorem Eh {ns:List Int} {i:Int} {o p:Option Dat} {K:RV→Prop} (h0:0≤i) (h1:i<ns.length) (k:K (.val (.int (at' ns i)))) (ho:o=some (.lst (ns.map Dat.int))) (hp:p=some (.int i)):Wg2 gIx o p K:=⟨_,_,_,ho,hp,G6 ns i h0 h1,k⟩
noncomputable def bx (x:Int):Dat:=.lst [.int x]
theorem CP (ns:List Int) (k:Int) (h0:0≤k):∃ x,qk [.lst (ns.map Dat.int),.int k]=some (.val (.int x)):=by
 suffices h:Wr (qk [.lst (ns.map Dat.int),.int k]) fun v=>∃ x,v=.val (.int x) by
  obtain ⟨v,h1,c,rfl⟩:=h
  exact ⟨c,h1⟩
 unfold qk
 (refine Dm.Wr.fn ?_ rfl rfl;dsimp only [List.map,List.replicate,List.cons_append,List.nil_append])
 repeat array_get_dec
 refine ⟨fun h=>?_,fun h=>?_⟩
 ·have h:=of_decide_eq_true h
  repeat array_get_dec
  refine Eh h0 (by simpa using h) ?_ rfl rfl
  exact ⟨_,rfl⟩
 ·repeat array_get_dec
  exact ⟨_,rfl⟩
theorem vq (ns:List Int) (k:Int) (h0:0≤k) (h1:k<1000):∃ x,nu [.lst (ns.map Dat.int),.int k]=some (.new (bx x)):=by
 suffices h:Wr (nu [.lst (ns.map Dat.int),.int k]) fun v=>∃ x,v=.new (bx x) by
  obtain ⟨v,h1,c,rfl⟩:=h
  exact ⟨c,h1⟩
 obtain ⟨c,ec⟩:=CP ns k h0
 unfold nu
 (refine Dm.Wr.fn ?_ rfl rfl;dsimp only [List.map,List.replicate,List.cons_append,List.nil_append])
 refine Ws.seq (Ws.A (We.F (Was.cons (We.v rfl (Was.cons (We.v rfl (Was.nil (WF.val ec ?_ rfl rfl))))))) (by decide))
 refine WA.val ?_ (by first | (dsimp only [List.set];first | done | rfl) | rfl)
 refine Ws.seq (Ws.If (Wt.V (We.e2 (We.v rfl (We.e2 (We.c (We.c (Wg2.pow (z:=1000000000000000000) ?_ rfl rfl (by decide) (by decide)))))))))
 refine Wg2.ge (Wb.mk ?_) rfl rfl
 refine ⟨fun h=>?_,fun h=>?_⟩
 ·repeat array_get_dec
  exact ⟨_,rfl⟩
 ·refine Ws.nx ?_
  refine Ws.seq (Ws.A (We.c (WA.val ?_ (by first | (dsimp only [List.set];first | done | rfl) | rfl))) (by decide))
  refine Ws.seq (Ws.For (Wi.R1 (We.c (bS.mk ⟨?_,by decide,by decide⟩))))
  refine Ws.inv (fun i:Nat=>Dat.int (0+(i:Nat))) _ _ (List.range 48) _ _ _ _ _ (fun p q ρ=>∃ (x:Int) (c4 c5:Cell),ρ=[.sh (.lst (ns.map Dat.int)),.sh (.int k),.sh (.int c),.sh (.int x),c4,c5]) ⟨_,_,_,rfl⟩ ?_ ?_
  ·rintro p i q ρ e ⟨x,c4,c5,rfl⟩
   have hi:i<48:=List.mem_range.mp (by rw [e];simp)
   refine Dm.bI rfl (by first | (dsimp only [List.set];first | done | rfl) | rfl) ?_
   unfold zO
   refine Ws.cut (fun ρ=>∃ y:Int,(0≤y∧y<2147483647)∧ρ=[.sh (.lst (ns.map Dat.int)),.sh (.int k),.sh (.int c),.sh (.int x),.sh (.int (0+(i:Nat))),.sh (.int y)]) ?_ ?_
   ·repeat array_get_dec
    ·exact ⟨_,bV _ _ (by decide),rfl⟩
    all_goals unfold B64
    all_goals omega
   rintro ρ ⟨y,hy,rfl⟩
   refine Ws.cut (fun ρ=>∃ y:Int,(0≤y∧y<2147483647)∧ρ=[.sh (.lst (ns.map Dat.int)),.sh (.int k),.sh (.int c),.sh (.int x),.sh (.int (0+(i:Nat))),.sh (.int y)]) ?_ ?_
   ·repeat array_get_dec
    ·exact ⟨_,by have:=bV (y*y) 1000000007 (by decide);omega,rfl⟩
    ·exact .inl (by unfold B64;omega)
   rintro ρ ⟨z,hz,rfl⟩
   refine Ws.cut (fun ρ=>∃ y:Int,(0≤y∧y<2147483647)∧ρ=[.sh (.lst (ns.map Dat.int)),.sh (.int k),.sh (.int c),.sh (.int x),.sh (.int (0+(i:Nat))),.sh (.int y)]) ?_ ?_
   ·repeat array_get_dec
    ·exact ⟨_,by have:=bV ((z+7919*(0+((i:Nat):Int)))*69621) 2147483587 (by decide);omega,rfl⟩
   rintro ρ ⟨u,hu,rfl⟩
   repeat array_get_dec
   exact ⟨_,_,_,rfl⟩
  ·rintro ρ ⟨x,c4,c5,rfl⟩
   repeat array_get_dec
   exact ⟨_,rfl⟩
theorem CQ (x m:Int) (h0:0<m) (h1:m<fG):bX [bx x,.int m]=some (.val (.int (x % m)),bx (x / m)):=by
 suffices h:WrM (bX [bx x,.int m]) fun v d=>v=.val (.int (x % m))∧d=bx (x / m) by
  obtain ⟨v,d,h1,rfl,rfl⟩:=h
  exact h1
 unfold bX
 refine WrM.fn ?_ rfl rfl
 dsimp only [List.map,List.replicate,List.cons_append,List.nil_append]
 unfold bx
 repeat array_get_dec
 ·refine Ws.Set ?_
  repeat array_get_dec
  ·refine ⟨_,0,_,rfl,rfl,rfl,?_⟩
   repeat array_get_dec
   exact ⟨_,rfl,rfl,rfl⟩
  ·exact ⟨h0,h1⟩
 ·exact h0
noncomputable def Wtk (j:Nat) (m:Int) (ρ1:Env) (Q:Val→Env→Prop):Prop:=∃ x ρ3,Q (.val (.int (x % m))) ρ3∧ρ1[j]?=some (.ow (bx x))∧ρ1.set j (.ow (bx (x / m)))=ρ3∧0<m∧m<fG
theorem iw {j:Nat} {x m:Int} {ρ1 ρ3:Env} {Q:Val→Env→Prop} (q:Q (.val (.int (x % m))) ρ3) (h2:ρ1[j]?=some (.ow (bx x))) (hn:ρ1.set j (.ow (bx (x / m)))=ρ3) (h0:0<m) (h1:m<fG):Wtk j m ρ1 Q:=⟨_,_,q,h2,hn,h0,h1⟩
theorem We.take {j:Nat} {a:FE} {ρ:Env} {d0:Dat} {Q:Val→Env→Prop} (h:We a ρ fun v ρ1=>bS v fun m=>Wtk j m ρ1 Q) (h0:ρ[j]?=some (.ow d0)):We (eFm bX j [a]) ρ Q:=by
 refine We.Fm (Was.cons ?_) h0
 obtain ⟨v,ρ1,e1,m,rfl,x,ρ3,q,e2,e3,m0,m1⟩:=h
 exact ⟨_,_,e1,Was.nil (WFm.any (CQ x m m0 m1) q e2 rfl e3)⟩
theorem We.drw {j:Nat} {a:FE} {ρ:Env} {x m:Int} {Q:Val→Env→Prop} (ha:a ρ=some (.val (.int m),ρ)) (h0:0<m) (h1:m<fG) (hj:ρ[j]?=some (.ow (bx x))) (k:∀ t x':Int,0≤t→t<m→∀ ρ3,ρ.set j (.ow (bx x'))=ρ3→Q (.val (.int t)) ρ3):We (eFm bX j [a]) ρ Q:=
 We.take ⟨_,_,ha,m,rfl,iw (k _ _ (bV x m (by omega)).1 (bV x m (by omega)).2 _ rfl) hj rfl h0 h1⟩ hj
noncomputable def Good (n:Int):Int→List Tie→Prop
 | _,[]=>True
 | lo,t::r=>lo≤t.m∧0≤t.a∧t.a≤t.b∧t.b<n∧Good n (t.m+1) r
theorem Good.pl {n:Nat}:∀ {r:List Tie} {lo:Int},Good n lo r→Pl n r
 | [],_,_,t,ht=>by cases ht
 | u::r,lo,h,t,ht=>by
  obtain ⟨h1,h2,h3,h4,h5⟩:=h
  rcases List.mem_cons.mp ht with rfl | ht
  ·omega
  ·exact Good.pl h5 t ht
theorem Good.lo {n:Int}:∀ {r:List Tie} {lo:Int},Good n lo r→∀ t∈r,lo≤t.m
 | [],_,_,t,ht=>by cases ht
 | u::r,lo,h,t,ht=>by
  obtain ⟨h1,h2,h3,h4,h5⟩:=h
  rcases List.mem_cons.mp ht with rfl | ht
  ·exact h1
  ·have:=Good.lo h5 t ht;omega
theorem Good.nd {n:Int}:∀ {r:List Tie} {lo:Int},Good n lo r→(r.map (·.m)).Nodup
 | [],_,_=>by simp
 | u::r,lo,h=>by
  obtain ⟨h1,h2,h3,h4,h5⟩:=h
  rw [List.map_cons,List.nodup_cons]
  refine ⟨fun z=>?_,Good.nd h5⟩
  obtain ⟨t,ht,e⟩:=List.mem_map.mp z
  have:=Good.lo h5 t ht
  omega
theorem Good.weak {n:Int}:∀ {r:List Tie} {lo lo':Int},lo'≤lo→Good n lo r→Good n lo' r
 | [],_,_,_,_=>trivial
 | _::_,_,_,h,k=>⟨by have:=k.1;omega,k.2⟩
theorem Good.filter {n:Int} (p:Tie→Bool):∀ {r:List Tie} {lo:Int},Good n lo r→Good n lo (r.filter p)
 | [],_,_=>trivial
 | u::r,lo,h=>by
  obtain ⟨h1,h2,h3,h4,h5⟩:=h
  by_cases q:p u=true
  ·rw [List.filter_cons_of_pos q];exact ⟨h1,h2,h3,h4,Good.filter p h5⟩
  ·rw [List.filter_cons_of_neg q];exact Good.weak (by omega) (Good.filter p h5)
theorem Good.snoc {n:Int}:∀ {r:List Tie} {lo hi:Int} {t:Tie},Good n lo r→(∀ u∈r,u.m<hi)→lo≤hi→hi=t.m→0≤t.a→t.a≤t.b→t.b<n→Good n lo (r++[t])
 | [],_,_,_,_,_,h,e,h1,h2,h3=>⟨by omega,h1,h2,h3,trivial⟩
 | u::r,lo,hi,t,h,hu,hl,e,h1,h2,h3=>by
  obtain ⟨k1,k2,k3,k4,k5⟩:=h
  exact ⟨k1,k2,k3,k4,Good.snoc k5 (fun v hv=>hu v (List.mem_cons_of_mem _ hv)) (by have:=hu u List.mem_cons_self;omega) e h1 h2 h3⟩
theorem Good.pl' {n:Int}:∀ {r:List Tie} {lo:Int},Good n lo r→∀ t∈r,0≤t.a∧t.a<n∧0≤t.b∧t.b<n
 | [],_,_,t,ht=>by cases ht
 | u::r,lo,h,t,ht=>by
  obtain ⟨h1,h2,h3,h4,h5⟩:=h
  rcases List.mem_cons.mp ht with rfl | ht
  ·omega
  ·exact Good.pl' h5 t ht
theorem ix3 (a b c:Int) (x:Int) (h0:0≤x) (h:x<3):gIx (.lst [.int a,.int b,.int c]) (.int x)=some (.val (.int (if x=0 then a else if x=1 then b else c))):=by
 have:x=0∨x=1∨x=2:=by omega
 rcases this with rfl | rfl | rfl<;>rfl
theorem z5 (r:List Tie) (i:Int) (h0:0≤i) (h1:i<r.length):gIx (aB r) (.int i)=some (.val (aO (r[i.toNat]'(by omega)))):=by
 unfold aB gIx
 dsimp only
 rw [ie aO r i h0 h1]
 rfl
noncomputable abbrev Z28:Int:=10000000000000000000000000000
noncomputable abbrev Z30:Int:=1000000000000000000000000000000
noncomputable def RE (pool:Int) (n most many wide G7:Int) (r:List Tie) (c7 c8 c9:Cell):Env:=
 [.ow (bx pool),.sh (.int n),.sh (.int most),.sh (.int many),.sh (.int wide),.sh (.int G7),.ow (aB r),c7,c8,c9]
theorem CS (a b:Int):(if b<a then b else a)≤(if b>a then b else a):=by split<;>split<;>omega
theorem xr (x n most:Int) (n1:1≤n) (n10:n≤10) (m0:0≤most) (m60:most≤60) :
  ∃ (r:List Tie) (x':Int),ql [bx x,.int n,.int most]=some (.new (aB r),bx x')∧Good n 0 r∧(r.length:Int)≤most∧∀ t∈r,t.m≤Z30:=by
 suffices hh:WrM (ql [bx x,.int n,.int most]) fun v d=>∃ (r:List Tie) (x':Int),v=.new (aB r)∧d=bx x'∧Good n 0 r∧(r.length:Int)≤most∧∀ t∈r,t.m≤Z30 by
  obtain ⟨v,d,h1,h,x',rfl,rfl,h2⟩:=hh
  exact ⟨h,x',h1,h2⟩
 unfold ql
 refine WrM.fn ?_ rfl rfl
 dsimp only [List.map,List.replicate,List.cons_append,List.nil_append]
 refine Ws.seq (Ws.A ?_ (by decide))
 refine We.drw (m:=most+1) rfl (by omega) (by unfold fG;omega) rfl fun many x1 h1 h2 ρ3 e=>?_
 subst e
 refine WA.val ?_ (by first | (dsimp only [List.set];first | done | rfl) | rfl)
 refine Ws.seq (Ws.A ?_ (by decide))
 refine We.drw (m:=3) rfl (by decide) (by decide) rfl fun wide x2 k1 k2 ρ3 e=>?_
 subst e
 refine WA.val ?_ (by first | (dsimp only [List.set];first | done | rfl) | rfl)
 refine Ws.seq (Ws.A ?_ (by decide))
 refine We.drw (m:=4) rfl (by decide) (by decide) rfl fun mo x3 w1 w2 ρ3 e=>?_
 subst e
 refine WA.val ?_ (by first | (dsimp only [List.set];first | done | rfl) | rfl)
 refine Ws.seq (Ws.A (We.L (Was.nil (WT.mk ?_ rfl rfl (by decide)))) (by decide))
 refine WA.new ?_ (by first | (dsimp only [List.set];first | done | rfl) | rfl)
 refine Ws.seq (Ws.For (Wi.R1 (We.v rfl (bS.mk ⟨?_,by unfold BIG;omega⟩))))
 refine Ws.inv (fun i:Nat=>Dat.int (0+(i:Nat))) _ _ (List.range many.toNat) _ _ _ _ _ (fun p q ρ=>∃ (x mo:Int) (r:List Tie) (c7 c8 c9:Cell),ρ=RE x n most many wide mo r c7 c8 c9∧p=List.range p.length∧Good n 0 r∧r.length=p.length∧(∀ u∈r,u.m<mo)∧0≤mo∧mo≤4+(p.length:Int)*Z28)
  ⟨_,_,[],_,_,_,rfl,rfl,trivial,rfl,(fun u hu=>by cases hu),w1,by show mo≤4+((0:Nat):Int)*Z28;omega⟩ ?_ ?_
 ·rintro p i q ρ e ⟨x,mo,r,c7,c8,c9,rfl,hpp,hg,hl,hu,hm,hb⟩
  have lp:(List.range many.toNat).length=p.length+(q.length+1):=by rw [e];simp
  rw [List.length_range] at lp
  have hi:i=p.length:=by
   have h1:(List.range many.toNat)[p.length]?=some i:=by rw [e];simp
   rw [List.getElem?_range (by omega)] at h1
   exact (Option.some.inj h1).symm
  unfold RE
  refine Dm.bI rfl (by first | (dsimp only [List.set];first | done | rfl) | rfl) ?_
  unfold zP
  refine Ws.seq (Ws.A ?_ (by decide))
  refine We.drw (m:=n) rfl (by omega) (by unfold fG;omega) rfl fun one y1 o1 o2 ρ3 e1=>?_
  subst e1
  refine WA.val ?_ (by first | (dsimp only [List.set];first | done | rfl) | rfl)
  refine Ws.seq (Ws.A ?_ (by decide))
  refine We.drw (m:=n) rfl (by omega) (by unfold fG;omega) rfl fun oth y2 u1 u2 ρ3 e1=>?_
  subst e1
  refine WA.val ?_ (by first | (dsimp only [List.set];first | done | rfl) | rfl)
  refine Ws.cut (fun ρ=>∃ o:Int,(0≤o∧o<n)∧ρ=RE y2 n most many wide mo r (.sh (.int (0+(i:Nat)))) (.sh (.int one)) (.sh (.int o))) ?_ ?_
  ·refine Ws.If (Wt.And (Wt.V (We.e2 (We.v rfl (We.c (Wg2.gt (Wb.mk ?_) rfl rfl))))))
   refine Wif.dec (fun _=>?_) fun _=>?_
   ·refine Wt.V (We.e2 (We.v rfl (We.v rfl (Wg2.eq (Wb.mk ?_) rfl rfl))))
    refine Wif.dec (fun _=>?_) fun _=>?_
    ·refine Ws.A (We.e2 (We.e2 (We.v rfl (We.c (Wg2.add (We.v rfl (Wg2.mod ?_ rfl rfl (by omega))) rfl rfl))))) (by decide)
     exact WA.val ⟨_,bV _ n n1,rfl⟩ (by first | (dsimp only [List.set];first | done | rfl) | rfl)
    ·exact Ws.nx ⟨oth,⟨u1,u2⟩,rfl⟩
   ·exact Wif.no rfl (Ws.nx ⟨oth,⟨u1,u2⟩,rfl⟩)
  rintro ρ ⟨o,⟨q1,q2⟩,rfl⟩
  refine Ws.cut (fun ρ=>∃ y v o:Int,(0≤v∧v<n)∧(0≤o∧o<n)∧ρ=RE y n most many wide mo r (.sh (.int (0+(i:Nat)))) (.sh (.int v)) (.sh (.int o))) ?_ ?_
  ·unfold RE
   refine Ws.If (Wt.And (Wt.V (We.e2 (We.v rfl (We.c (Wg2.gt (Wb.mk ?_) rfl rfl))))))
   refine Wif.dec (fun hk=>?_) fun _=>?_
   ·refine Wt.V (We.e2 ?_)
    refine We.drw (m:=4) rfl (by decide) (by decide) rfl fun t y3 t1 t2 ρ3 e1=>?_
    subst e1
    refine We.c (Wg2.eq (Wb.mk ?_) rfl rfl)
    refine Wif.dec (fun _=>?_) fun _=>?_
    ·have hj:(0:Int)≤0+((i:Nat):Int)-1:=by omega
     have hj2:0+((i:Nat):Int)-1<r.length:=by rw [hl];omega
     have pt:=hg.pl' (r[(0+((i:Nat):Int)-1).toNat]'(by omega)) (List.getElem_mem _)
     refine Ws.seq (Ws.A (We.e2 (We.e2 (We.w rfl (We.e2 (We.v rfl (We.c (Wg2.sub ?_ rfl rfl))))))) (by decide))
     refine Wg2.ix ?_ rfl rfl (z5 r _ hj hj2)
     refine We.c (Wg2.ix ?_ rfl rfl rfl)
     refine WA.val ?_ (by first | (dsimp only [List.set];first | done | rfl) | rfl)
     refine Ws.A (We.e2 (We.e2 (We.w rfl (We.e2 (We.v rfl (We.c (Wg2.sub ?_ rfl rfl))))))) (by decide)
     refine Wg2.ix ?_ rfl rfl (z5 r _ hj hj2)
     refine We.c (Wg2.ix ?_ rfl rfl rfl)
     exact WA.val ⟨_,_,_,⟨pt.1,pt.2.1⟩,⟨pt.2.2.1,pt.2.2.2⟩,rfl⟩ (by first | (dsimp only [List.set];first | done | rfl) | rfl)
    ·exact Ws.nx ⟨_,_,_,⟨o1,o2⟩,⟨q1,q2⟩,rfl⟩
   ·exact Wif.no rfl (Ws.nx ⟨_,_,_,⟨o1,o2⟩,⟨q1,q2⟩,rfl⟩)
  rintro ρ ⟨y4,v,o,⟨v1,v2⟩,⟨q1,q2⟩,rfl⟩
  unfold RE
  refine Ws.seq (Ws.App (We.T (Was.cons (We.v rfl (Was.cons (We.B (Was.cons (We.v rfl (Was.cons (We.v rfl (Was.nil (WB.min2 ?_ rfl))))))))))) rfl)
  refine Was.cons (We.B (Was.cons (We.v rfl (Was.cons (We.v rfl (Was.nil (WB.max2 ?_ rfl)))))))
  refine Was.nil (WT.mk ?_ rfl rfl (by exact Nat.le_of_ble_eq_true rfl))
  refine Wk.val (iY ?_ rfl (by first | (dsimp only [List.set];first | done | rfl) | rfl) (by rw [List.length_map];unfold SZ;omega))
  refine Ws.A (We.e2 (We.e2 (We.v rfl (We.c (Wg2.add ?_ rfl rfl))))) (by decide)
  have w1':(0:Int)<(if wide=0 then 1 else if wide=1 then 3 else 1000)∧(if wide=0 then 1 else if wide=1 then 3 else 1000:Int)≤1000:=by split;decide;split<;>decide
  refine We.e2 ?_
  refine We.take (We.e2 (We.L (Was.cons (We.c (Was.cons (We.c (Was.cons (We.c (Was.nil (WT.mk ?_ rfl rfl (by exact Nat.le_of_ble_eq_true rfl))))))))))) rfl
  refine We.v rfl (Wg2.ix ?_ rfl rfl (ix3 1 3 1000 wide k1 k2))
  refine bS.mk (iw ?_ rfl rfl w1'.1 (by unfold fG;omega))
  have hm0:=bV y4 (if wide=0 then 1 else if wide=1 then 3 else 1000) (by omega)
  refine We.e2 (We.L (Was.cons (We.c (Was.cons (We.c (Was.cons (We.e2 (We.c (We.c (Wg2.pow (z:=10000000000000000000000000) ?_ rfl rfl (by decide) (by decide)))))))))))
  refine Was.nil (WT.mk ?_ rfl rfl (by exact Nat.le_of_ble_eq_true rfl))
  refine We.v rfl (Wg2.ix ?_ rfl rfl (ix3 1 1 10000000000000000000000000 wide k1 k2))
  refine Wg2.mul ?_ rfl rfl (.inl (by unfold B64;omega))
  refine Wg2.add ?_ rfl rfl
  refine WA.val ?_ (by first | (dsimp only [List.set];first | done | rfl) | rfl)
  generalize hf:(if wide=0 then 1 else if wide=1 then 1 else 10000000000000000000000000:Int)=f
  have hf0:0≤f∧f≤10000000000000000000000000:=by rw [← hf];split;decide;split<;>decide
  generalize (y4 % if wide=0 then 1 else if wide=1 then 3 else 1000:Int)=t at hm0 ⊢
  have tn:=Int.mul_nonneg hm0.1 hf0.1
  have t9:t≤999:=by omega
  have tm:t*f≤999*10000000000000000000000000:=Int.mul_le_mul t9 hf0.2 hf0.1 (by decide)
  refine ⟨y4 / (if wide=0 then 1 else if wide=1 then 3 else 1000),mo+1+t*f,r++[⟨mo,(if o<v then o else v),(if o>v then o else v)⟩],.sh (.int (0+(i:Nat))),.sh (.int v),.sh (.int o),?_,?_,?_,by simp [hl],?_,by omega,?_⟩
  ·unfold aB
   rw [List.map_append]
   rfl
  ·rw [List.length_append,List.length_singleton,List.range_succ,← hpp,hi]
  ·refine Good.snoc (hi:=mo) hg hu hm rfl ?_ (CS v o) ?_
   ·show 0≤(if o<v then o else v);split<;>omega
   ·show (if o>v then o else v)<n;split<;>omega
  ·intro u hu'
   rcases List.mem_append.mp hu' with h | h
   ·have:=hu u h;omega
   ·rw [List.mem_singleton.mp h];show mo<_;omega
  ·rw [List.length_append,List.length_singleton]
   have:((p.length+1:Nat):Int)*Z28=(p.length:Int)*Z28+Z28:=by unfold Z28;omega
   rw [this]
   unfold Z28 at *
   omega
 ·rintro ρ ⟨x,mo,r,c7,c8,c9,rfl,hpp,hg,hl,hu,hm,hb⟩
  unfold RE
  refine Ws.R (We.w rfl (WR.slot ?_ rfl))
  rw [List.length_range] at hl hb
  refine ⟨_,rfl,r,x,rfl,rfl,hg,by omega,fun t ht=>?_⟩
  have:=hu t ht
  unfold Z28 at hb
  unfold Z30
  omega
noncomputable def aR (r:List Tie) (S:Int→Bool):Nat:=(r.filter (over S)).length
theorem vt {r:List Tie} (S:Int→Bool):∀ {w:List Step} {x y:Int},Way (eW r) x w y→S x=true→S y=false→∃ s∈w,s.1∈(r.filter (over S)).map (·.m)
 | [],x,y,h,h1,h2=>by
  cases h
  rw [h1] at h2;cases h2
 | s::w,x,y,h,h1,h2=>by
  cases hs:S s.2 with
  | true=>
   obtain ⟨u,hu,k⟩:=vt S h.2 hs h2
   exact ⟨u,List.mem_cons_of_mem _ hu,k⟩
  | false=>
   obtain ⟨t,ht,hm,_,he⟩:=h.1
   refine ⟨s,List.mem_cons_self,List.mem_map.mpr ⟨t,List.mem_filter.mpr ⟨ht,?_⟩,hm⟩⟩
   unfold over
   rcases he with ⟨e1,e2⟩ | ⟨e1,e2⟩
   ·rw [e1,e2,h1,hs];rfl
   ·rw [e1,e2,h1,hs];rfl
theorem picks {r:List Tie} {a b:Int} (S:Int→Bool) (ha:S a=true) (hb:S b=false):∀ (ws:List (List Step)),(∀ w∈ws,Way (eW r) a w b)→(ws.map mso).flatten.Nodup →
  ∃ ps:List Int,ps.length=ws.length∧ps.Nodup∧∀ m∈ps,m∈(ws.map mso).flatten∧m∈(r.filter (over S)).map (·.m)
 | [],_,_=>⟨[],rfl,by simp,by simp⟩
 | w::ws,h,nd=>by
  rw [List.map_cons,List.flatten_cons] at nd
  obtain ⟨n1,n2,n3⟩:=List.nodup_append.mp nd
  obtain ⟨ps,p1,p2,p3⟩:=picks S ha hb ws (fun v hv=>h v (List.mem_cons_of_mem _ hv)) n2
  obtain ⟨s,hs,k⟩:=vt S (h w List.mem_cons_self) ha hb
  have hsm:s.1∈mso w:=List.mem_map.mpr ⟨s,hs,rfl⟩
  refine ⟨s.1::ps,by simp [p1],List.nodup_cons.mpr ⟨fun z=>n3 _ hsm _ (p3 _ z).1 rfl,p2⟩,fun m hm=>?_⟩
  rw [List.map_cons,List.flatten_cons]
  rcases List.mem_cons.mp hm with rfl | hm
  ·exact ⟨List.mem_append_left _ hsm,k⟩
  ·exact ⟨List.mem_append_right _ (p3 m hm).1,(p3 m hm).2⟩
theorem Ks {r:List Tie} {a b:Int} {ws:List (List Step)} (W:zY r a b ws) {S:Int→Bool} (ha:S a=true) (hb:S b=false):ws.length≤aR r S:=by
 obtain ⟨ps,p1,p2,p3⟩:=picks S ha hb ws (fun w hw=>(W.way w hw).way) W.nd
 have:=cY ps _ p2 fun m hm=>(p3 m hm).2
 rw [List.length_map] at this
 unfold aR
 omega
theorem cZ (r:List Tie) (S:Int→Bool):aR r (fun x=>!S x)=aR r S:=by
 unfold aR
 congr 1
 apply List.filter_congr
 intro t _
 unfold over
 dsimp only
 cases S t.a<;>cases S t.b<;>rfl
theorem xu {r:List Tie} (p:Tie→Bool) (S:Int→Bool):aR (r.filter p) S≤aR r S:=by
 unfold aR
 rw [List.filter_filter]
 have:(r.filter fun t=>over S t&&p t)=(r.filter (over S)).filter p:=by
  rw [List.filter_filter]
  apply List.filter_congr
  intro t _
  cases over S t<;>cases p t<;>rfl
 rw [this]
 exact List.length_filter_le _ _
theorem vv {x y:Tie} (h:x.m=y.m∧x.a=y.a∧x.b=y.b):x=y:=by
 cases x;cases y;obtain ⟨h1,h2,h3⟩:=h;dsimp only at h1 h2 h3;rw [h1,h2,h3]
instance Mg:DecidableEq Tie:=fun x y=>decidable_of_iff (x.m=y.m∧x.a=y.a∧x.b=y.b) ⟨vv,fun h=>by rw [h];exact ⟨rfl,rfl,rfl⟩⟩
noncomputable def outF (r:List Tie) (t:Tie):List Tie:=r.filter fun u=>decide (u≠t)
structure Kept (r:List Tie) (k:Nat) (p K:List Tie):Prop where
 sub:K.Sublist r
 low:∀ S:Int→Bool,min k (aR r S)≤aR K S
 cut:∀ t∈p,t∈K→∃ S:Int→Bool,S t.a=true∧S t.b=false∧aR (outF K t) S<k
theorem Kept.start (r:List Tie) (k:Nat):Kept r k [] r:=⟨List.Sublist.refl _,fun S=>Nat.min_le_right _ _,fun t ht=>by cases ht⟩
theorem kK {K:List Tie} {t:Tie} {S:Int→Bool} (h:over S t=false):aR (outF K t) S=aR K S:=by
 unfold aR outF
 rw [List.filter_filter]
 congr 1
 apply List.filter_congr
 intro u _
 by_cases e:u=t
 ·subst e;simp [h]
 ·simp [e]
theorem Kept.drop {r:List Tie} {k:Nat} {p K:List Tie} (h:Kept r k p K) (t:Tie) (hh:t.a=t.b∨∀ S:Int→Bool,S t.a=true→S t.b=false→k≤aR (outF K t) S):Kept r k (p++[t]) (outF K t):=by
 refine ⟨List.Sublist.trans List.filter_sublist h.sub,fun S=>?_,fun u hu hK=>?_⟩
 ·cases ho:over S t with
  | false=>rw [kK ho];exact h.low S
  | true=>
   unfold over at ho
   rcases hh with hh | hh
   ·rw [hh] at ho;simp at ho
   ·cases ha:S t.a with
    | true=>
     have hb:S t.b=false:=by rw [ha] at ho;cases hb:S t.b<;>simp_all
     have:=hh S ha hb;omega
    | false=>
     have hb:S t.b=true:=by rw [ha] at ho;cases hb:S t.b<;>simp_all
     have:=hh (fun x=>!S x) (by simp [ha]) (by simp [hb])
     rw [cZ] at this
     omega
 ·obtain ⟨k1,k2⟩:=List.mem_filter.mp hK
  have k2:=of_decide_eq_true k2
  rcases List.mem_append.mp hu with hu | hu
  ·obtain ⟨S,s1,s2,s3⟩:=h.cut u hu k1
   refine ⟨S,s1,s2,Nat.lt_of_le_of_lt ?_ s3⟩
   have:outF (outF K t) u=(outF K u).filter fun x=>decide (x≠t):=by
    unfold outF
    rw [List.filter_filter,List.filter_filter]
    apply List.filter_congr
    intro x _
    rw [Bool.and_comm]
   rw [this]
   exact xu _ S
  ·exact absurd (List.mem_singleton.mp hu) k2
theorem Kept.keep {r:List Tie} {k:Nat} {p K:List Tie} (h:Kept r k p K) (t:Tie) (hh:∃ S:Int→Bool,S t.a=true∧S t.b=false∧aR (outF K t) S<k):Kept r k (p++[t]) K:=
 ⟨h.sub,h.low,fun u hu hK=>by
  rcases List.mem_append.mp hu with hu | hu
  ·exact h.cut u hu hK
  ·rw [List.mem_singleton.mp hu];exact hh⟩
theorem tL (u t:Tie):eqD (aO u) (aO t)=decide (u=t):=by
 rw [Bool.eq_iff_iff,decide_eq_true_iff]
 unfold aO
 simp [eqD,mH]
 exact ⟨vv,fun h=>by rw [h];exact ⟨rfl,rfl,rfl⟩⟩
theorem G8 (t:Tie) (K:List Tie):inD (aO t) (K.map aO)=decide (t∈K):=by
 induction K with
 | nil=>rfl
 | cons u K ih=>
  unfold inD at ih ⊢
  rw [List.map_cons,List.any_cons,ih]
  by_cases h:t=u
  ·subst h;simp [tL]
  ·have h':¬ u=t:=fun z=>h z.symm
   simp [tL,h,h']
theorem CT (K:List Tie):(K.map aO).all (okD 7)=true:=by
 rw [List.all_map]
 exact List.all_eq_true.mpr fun t _=>rfl
theorem Wg2.Ku {u t:Tie} {o p:Option Dat} {Q:RV→Prop} (k:Q (.val (.bl (decide (u≠t))))) (ho:o=some (aO u)) (hp:p=some (aO t)):Wg2 gNe o p Q:=
 ⟨_,_,_,ho,hp,rfl,by rw [tL,← decide_not];exact k⟩
theorem Wg2.G9 {t:Tie} {K:List Tie} {o p:Option Dat} {Q:RV→Prop} (k:Q (.val (.bl (!decide (t∈K))))) (ho:o=some (aO t)) (hp:p=some (aB K)):Wg2 cR o p Q:=
 ⟨_,_,_,ho,hp,by unfold aB cR;dsimp only;rw [CT,G8];rfl,k⟩
theorem kL (r:List Tie) (hl:r.length≤1000) (t:Tie):nk [aB r,aO t]=some (.new (aB (outF r t))):=by
 apply Wr.eq
 unfold nk
 (refine Dm.Wr.fn ?_ rfl rfl;dsimp only [List.map,List.replicate,List.cons_append,List.nil_append])
 refine Ws.R ?_
 refine We.CD aO r (fun u=>decide (u≠t)) id aO (d:=aB r) ?_ rfl rfl rfl (by decide) (by unfold SZ;omega) (fun u _=>?_) fun u _ _=>?_
 ·rw [List.map_id];rfl
 ·exact Wt.V (We.e2 (We.v rfl (We.v rfl (Wg2.Ku (Wb.mk ⟨rfl,rfl⟩) rfl rfl))))
 ·exact We.v rfl (Wk.val ⟨rfl,rfl⟩)
structure Fit (n:Nat) (r:List Tie):Prop where
 n40:n≤40
 pl:Pl n r
 nd:(r.map (·.m)).Nodup
 len:r.length≤1000
theorem Fit.sub {n:Nat} {r K:List Tie} (h:Fit n r) (s:K.Sublist r):Fit n K:=⟨h.n40,fun t ht=>h.pl t (s.subset ht),h.nd.sublist (s.map _),Nat.le_trans s.length_le h.len⟩
theorem Fit.out {n:Nat} {r:List Tie} (h:Fit n r) (t:Tie):Fit n (outF r t):=h.sub List.filter_sublist
theorem mQ {n:Nat} {r:List Tie} (h:Fit n r) {a b:Int} (a0:0≤a) (a1:a<n) (b0:0≤b) (b1:b<n) {k:Nat} (k6:k≤6) :
  ∃ c:Bool,CG [.int n,aB r,.int a,.int b,.int k]=some (.val (.bl c))∧(c=true→∀ S:Int→Bool,S a=true→S b=false→k≤aR r S)∧(c=false→∃ S:Int→Bool,S a=true∧S b=false∧aR r S<k):=by
 obtain ⟨ws,o,e,A⟩:=b9 n h.n40 r h.pl h.nd h.len a b a0 a1 b0 b1 k (by omega) (by omega)
 refine ⟨isN (dR o),?_,fun z S s1 s2=>?_,fun z=>?_⟩
 ·apply Wr.eq
  unfold CG
  (refine Dm.Wr.fn ?_ rfl rfl;dsimp only [List.map,List.replicate,List.cons_append,List.nil_append])
  refine Ws.R (We.e2 (We.e2 (We.F (Was.cons (We.v rfl (Was.cons (We.v rfl (Was.cons (We.v rfl (Was.cons (We.v rfl (Was.cons (We.v rfl (Was.nil (WF.box e ?_ rfl rfl rfl rfl)))))))))))))))
  refine We.c (Wg2.ix ?_ rfl rfl rfl)
  exact We.c (Wg2.isN rfl rfl rfl)
 ·cases o with
  | none=>
   have:=A.all rfl
   have:=Ks A.ways s1 s2
   omega
  | some S=>cases z
 ·cases o with
  | none=>cases z
  | some S=>
   obtain ⟨⟨_,_,h1,h2⟩,h3,h4⟩:=A.side S rfl
   refine ⟨fun x=>decide (x∈S),decide_eq_true h1,decide_eq_false h2,?_⟩
   have:aR r (fun x=>decide (x∈S))=(dW r S).length:=by
    unfold dW
    rw [List.length_map]
    rfl
   omega
noncomputable def ny (r K:List Tie):RV:=if r=[] then .new (aB K) else .val (aB K)
theorem oz (aH aW:Nat) {n:Nat} {r:List Tie} (h:Fit n r) {k:Nat} (k6:k≤6) :
  ∃ K,qf aH aW [.int n,aB r,.int k,.fn aH]=some (ny r K)∧Kept r k r K:=by
 suffices q:Wr (qf aH aW [.int n,aB r,.int k,.fn aH]) fun v=>∃ K,v=ny r K∧Kept r k r K by
  obtain ⟨v,h1,K,rfl,h2⟩:=q
  exact ⟨K,h1,h2⟩
 unfold qf
 (refine Dm.Wr.fn ?_ rfl rfl;dsimp only [List.map,List.replicate,List.cons_append,List.nil_append])
 refine Ws.seq (Ws.A (We.B (Was.cons (We.v rfl (Was.nil (WB.list (xs:=r.map aO) ?_ rfl))))) (by decide))
 refine WA.new ?_ (by first | (dsimp only [List.set];first | done | rfl) | rfl)
 refine Ws.seq (Ws.For (Wi.S (We.v rfl (Wk.val ⟨r.map aO,rfl,?_⟩))))
 refine Ws.inv aO _ _ r _ _ _ _ _ (fun p q ρ=>∃ (K:List Tie) (c4 c5 c6:Cell),ρ=[.sh (.int n),.sh (aB r),.sh (.int k),.sh (.fn aH),c4,c5,c6]∧Kept r k p K∧((p=[]∧c4=.ow (aB K))∨(p≠[]∧c4=.sh (aB K))))
  ⟨r,_,_,_,rfl,Kept.start r k,.inl ⟨rfl,rfl⟩⟩ ?_ ?_
 ·rintro p t q ρ e ⟨K,c4,c5,c6,rfl,hK,hc⟩
  have ht:t∈r:=by rw [e];simp
  have hp:=h.pl t ht
  have fK:=h.sub hK.sub
  refine Dm.bI rfl (by first | (dsimp only [List.set];first | done | rfl) | rfl) ?_
  unfold zL
  have ew:=kL K fK.len t
  have first:∀ {N:Env→Prop} {R:RV→Env→Prop} {B C:Env→Prop},N [.sh (.int n),.sh (aB r),.sh (.int k),.sh (.fn aH),.sh (aB K),.sh (aO t),.ow (aB (outF K t))] →
    Ws (sA 6 (eF nk [(eV 4),(eV 5)])) [.sh (.int n),.sh (aB r),.sh (.int k),.sh (.fn aH),c4,.sh (aO t),c6] N R B C:=fun kN=>by
   rcases hc with ⟨_,rfl⟩ | ⟨_,rfl⟩
   ·refine Ws.A (We.F (Was.cons (We.w rfl (Was.cons (We.v rfl (Was.nil (WF.box ew ?_ rfl rfl rfl rfl))))))) (by decide)
    exact WA.new kN (by first | (dsimp only [List.set];first | done | rfl) | rfl)
   ·refine Ws.A (We.F (Was.cons (We.v rfl (Was.cons (We.v rfl (Was.nil (WF.box ew ?_ rfl rfl rfl rfl))))))) (by decide)
    exact WA.new kN (by first | (dsimp only [List.set];first | done | rfl) | rfl)
  refine Ws.seq (first ?_)
  have gone:(t.a=t.b∨∀ S:Int→Bool,S t.a=true→S t.b=false→k≤aR (outF K t) S)→∀ {R:RV→Env→Prop} {B C:Env→Prop},
    Ws (sA 4 (eV 6)) [.sh (.int n),.sh (aB r),.sh (.int k),.sh (.fn aH),.sh (aB K),.sh (aO t),.ow (aB (outF K t))]
     (fun ρ=>∃ (K:List Tie) (c4 c5 c6:Cell),ρ=[.sh (.int n),.sh (aB r),.sh (.int k),.sh (.fn aH),c4,c5,c6]∧Kept r k (p++[t]) K∧((p++[t]=[]∧c4=.ow (aB K))∨(p++[t]≠[]∧c4=.sh (aB K)))) R B C:=fun hh=>by
   refine Ws.A (We.w rfl (WA.slot ?_ rfl (by first | (dsimp only [List.set];first | done | rfl) | rfl))) (by decide)
   exact ⟨outF K t,_,_,_,rfl,hK.drop t hh,.inr ⟨by simp,rfl⟩⟩
  refine Ws.If (Wt.Or (Wt.V (We.e2 (We.e2 (We.v rfl (We.c (Wg2.ix ?_ rfl rfl rfl)))))))
  refine We.e2 (We.v rfl (We.c (Wg2.ix ?_ rfl rfl rfl)))
  refine Wg2.eq (Wb.mk ?_) rfl rfl
  refine Wif.dec (fun hab=>?_) fun hab=>?_
  ·refine Wif.yes rfl ?_
   exact gone (.inl hab)
  ·obtain ⟨c,eh,h1,h2⟩:=mQ (h.sub (List.Sublist.trans (List.filter_sublist (p:=fun u=>decide (u≠t))) hK.sub)) hp.1 hp.2.1 hp.2.2.1 hp.2.2.2 k6
   refine Wt.V (We.Fp rfl (We.F (Was.cons (We.v rfl (Was.cons (We.w rfl (Was.cons (We.e2 (We.v rfl (We.c (Wg2.ix ?_ rfl rfl rfl)))))))))))
   refine Was.cons (We.e2 (We.v rfl (We.c (Wg2.ix ?_ rfl rfl rfl))))
   refine Was.cons (We.v rfl (Was.nil (WF.val eh ?_ rfl rfl)))
   refine Wb.mk ?_
   cases c with
   | true=>exact Wif.yes rfl (gone (.inr (h1 rfl)))
   | false=>exact Wif.no rfl (Ws.nx ⟨K,_,_,_,rfl,hK.keep t (h2 rfl),.inr ⟨by simp,rfl⟩⟩)
 ·rintro ρ ⟨K,c4,c5,c6,rfl,hK,hc⟩
  rcases hc with ⟨z,rfl⟩ | ⟨z,rfl⟩
  ·refine Ws.R (We.w rfl (WR.slot ⟨K,?_,hK⟩ rfl))
   unfold ny;rw [if_pos z]
  ·refine Ws.R (We.v rfl ⟨K,?_,hK⟩)
   unfold ny;rw [if_neg z]
theorem z6 (i:Int):CH [.int i]=some (.val (.bl true)):=by
 apply Wr.eq
 unfold CH
 (refine Dm.Wr.fn ?_ rfl rfl;dsimp only [List.map,List.replicate,List.cons_append,List.nil_append])
 refine Ws.R (We.And (We.e1 (We.v rfl (Wg1.mk ?_ rfl rfl))))
 refine Wb.mk (Wif.t (We.Not (We.e1 (We.v rfl (Wg1.mk ?_ rfl rfl)))))
 exact Wb.mk rfl
theorem c_ (i lo hi:Int) (h0:lo≤i) (h1:i≤hi):tw [.int i,.int lo,.int hi]=some (.val (.bl true)):=by
 unfold tw
 simp [fn,sR,gU,eF,eAs,eV,pks,pk,z6,RV.bq,RV.dat,cD,jW,gLe,h0,h1]
theorem eZ (k:Int) (h0:1≤k) (h1:k≤6):qe [.int k]=some (.val .non):=by
 have e:kE [.int k]=some (.val (.bl true)):=by
  apply Wr.eq
  unfold kE
  (refine Dm.Wr.fn ?_ rfl rfl;dsimp only [List.map,List.replicate,List.cons_append,List.nil_append])
  refine Ws.R (We.F (Was.cons (We.v rfl (Was.cons (We.c (Was.cons (We.c (Was.nil (WF.val (c_ k 1 6 h0 h1) ?_ rfl rfl)))))))))
  rfl
 apply Wr.eq
 unfold qe
 (refine Dm.Wr.fn ?_ rfl rfl;dsimp only [List.map,List.replicate,List.cons_append,List.nil_append])
 refine Ws.If (Wt.Not (Wt.V (We.F (Was.cons (We.v rfl (Was.nil (WF.val e ?_ rfl rfl)))))))
 exact Wb.mk (Wif.f (Ws.nx rfl))
theorem tM (k:Nat) (k6:k≤6):∃ d,nq [.int k]=some (.new (.lst d)):=by
 suffices q:Wr (nq [.int k]) fun v=>∃ d,v=.new (.lst d) by
  obtain ⟨v,h1,d,rfl⟩:=q
  exact ⟨d,h1⟩
 unfold nq
 (refine Dm.Wr.fn ?_ rfl rfl;dsimp only [List.map,List.replicate,List.cons_append,List.nil_append])
 refine Ws.R ?_
 refine We.Map (fun i:Nat=>Dat.int (0+(i:Nat))) (List.range k) (fun _=>Dat.lst []) id (ρ1:=[.sh (.int k)]) ?_ ?_ rfl (by decide) (by rw [List.length_range];unfold SZ;omega) fun i _=>?_
 ·exact ⟨_,rfl⟩
 ·apply Wi.get
  refine Wi.R1 (We.v rfl (bS.mk ⟨⟨?_,rfl⟩,by unfold BIG;omega,by unfold BIG;omega⟩))
  rw [Int.toNat_natCast]
  rfl
 ·exact We.L (Was.nil (WT.mk (Wk.new ⟨rfl,rfl⟩) rfl rfl (by decide)))
theorem jG {n:Nat} {r:List Tie} (h:Fit n r) {a b:Int} (a0:0≤a) (a1:a<n) (b0:0≤b) (b1:b<n) {k:Nat} (k6:k≤6) :
  ∃ d,qg [.int n,aB r,.int a,.int b,.int k]=some (.val d)∧cD d=true:=by
 obtain ⟨ws,o,e,A⟩:=b9 n h.n40 r h.pl h.nd h.len a b a0 a1 b0 b1 k (by omega) (by omega)
 refine ⟨.lst (ws.map msD),?_,rfl⟩
 apply Wr.eq
 unfold qg
 (refine Dm.Wr.fn ?_ rfl rfl;dsimp only [List.map,List.replicate,List.cons_append,List.nil_append])
 refine Ws.R (We.e2 (We.F (Was.cons (We.v rfl (Was.cons (We.v rfl (Was.cons (We.v rfl (Was.cons (We.v rfl (Was.cons (We.v rfl (Was.nil (WF.box e ?_ rfl rfl rfl rfl))))))))))))))
 exact We.c (Wg2.ix rfl rfl rfl rfl)
theorem qw {n:Nat} {r:List Tie} (h:Fit n r) {t:Tie} (ht:t∈r) {k:Nat} (k6:k≤6) :
  ∃ d,jt [.int n,aB r,aO t,.int k]=some (.val d):=by
 have hp:=h.pl t ht
 have h':=h.out t
 obtain ⟨ws,o,e,A⟩:=b9 n h'.n40 _ h'.pl h'.nd h'.len t.a t.b hp.1 hp.2.1 hp.2.2.1 hp.2.2.2 k (by omega) (by omega)
 refine ⟨dR o,?_⟩
 apply Wr.eq
 unfold jt
 (refine Dm.Wr.fn ?_ rfl rfl;dsimp only [List.map,List.replicate,List.cons_append,List.nil_append])
 refine Ws.R (We.e2 (We.F (Was.cons (We.v rfl (Was.cons (We.F (Was.cons (We.v rfl (Was.cons (We.v rfl (Was.nil (WF.box (kL r h.len t) ?_ rfl rfl rfl rfl))))))))))))
 refine Was.cons (We.e2 (We.v rfl (We.c (Wg2.ix ?_ rfl rfl rfl))))
 refine Was.cons (We.e2 (We.v rfl (We.c (Wg2.ix ?_ rfl rfl rfl))))
 refine Was.cons (We.v rfl (Was.nil (WF.box e ?_ rfl rfl rfl rfl)))
 exact We.c (Wg2.ix rfl rfl rfl rfl)
noncomputable def got (o:Option RV):Dat:=(o.map RV.dat).getD .non
theorem qx (aH aW:Nat) {n:Nat} {r K:List Tie} (h:Fit n r) (hK:Fit n K) {k:Nat} (k6:k≤6) :
  ∃ ds,qh aH aW [.int n,aB r,aB K,.int k,.fn aW]=some (.new (.lst ds)):=by
 suffices q:Wr (qh aH aW [.int n,aB r,aB K,.int k,.fn aW]) fun v=>∃ d,v=.new (.lst d) by
  obtain ⟨v,h1,d,rfl⟩:=q
  exact ⟨d,h1⟩
 unfold qh
 (refine Dm.Wr.fn ?_ rfl rfl;dsimp only [List.map,List.replicate,List.cons_append,List.nil_append])
 refine Ws.seq (Ws.A (We.CD aO r (fun t=>!decide (t∈K)) id aO (d:=aB r) ?_ rfl rfl rfl (by decide) (by have:=h.len;unfold SZ;omega) (fun u _=>?_) fun u _ _=>?_) (by decide))
 ·refine WA.new ?_ (by first | (dsimp only [List.set];first | done | rfl) | rfl)
  rw [List.map_id]
  refine Ws.R ?_
  have hl:(r.filter fun t=>!decide (t∈K)).length≤SZ:=Nat.le_trans (List.length_filter_le _ _) (by have:=h.len;unfold SZ;omega)
  refine We.zA aO (r.filter fun t=>!decide (t∈K)) (fun t=>if t.a=t.b then got (nq [.int k]) else got (qg [.int n,aB K,.int t.a,.int t.b,.int k])) id ?_ rfl (by first | (dsimp only [List.set];first | done | rfl) | rfl) rfl (by decide) hl fun t ht=>?_
  ·exact ⟨_,rfl⟩
  ·have hp:=h.pl t (List.mem_filter.mp ht).1
   refine We.If (Wt.V (We.e2 (We.e2 (We.v rfl (We.c (Wg2.ix ?_ rfl rfl rfl))))))
   refine We.e2 (We.v rfl (We.c (Wg2.ix ?_ rfl rfl rfl)))
   refine Wg2.eq (Wb.mk ?_) rfl rfl
   refine Wif.dec (fun hab=>?_) fun hab=>?_
   ·obtain ⟨d,e⟩:=tM k k6
    refine We.F (Was.cons (We.v rfl (Was.nil (WF.box e ?_ rfl rfl rfl rfl))))
    refine Wk.new ⟨?_,rfl⟩
    rw [if_pos hab,e];rfl
   ·obtain ⟨d,e',hb⟩:=jG hK hp.1 hp.2.1 hp.2.2.1 hp.2.2.2 k6
    refine We.Fp rfl (We.F (Was.cons (We.v rfl (Was.cons (We.v rfl (Was.cons (We.e2 (We.v rfl (We.c (Wg2.ix ?_ rfl rfl rfl))))))))))
    refine Was.cons (We.e2 (We.v rfl (We.c (Wg2.ix ?_ rfl rfl rfl))))
    refine Was.cons (We.v rfl (Was.nil (WF.box e' ?_ rfl hb rfl rfl)))
    refine Wk.val ⟨?_,rfl⟩
    rw [if_neg hab,e'];rfl
 ·exact Wt.V (We.e2 (We.v rfl (We.v rfl (Wg2.G9 (Wb.mk ⟨rfl,rfl⟩) rfl rfl))))
 ·exact We.v rfl (Wk.val ⟨rfl,rfl⟩)
noncomputable def msI (K:List Tie):Dat:=.lst ((K.map (·.m)).map Dat.int)
theorem z7 (aH aW:Nat) {n:Nat} {r:List Tie} (h:Fit n r) {k:Nat} (k1:1≤k) (k6:k≤6) :
  ∃ K d1 d2,vc aH aW [.int n,aB r,.int k]=some (.val (.tup [msI K,d1,d2]))∧Kept r k r K:=by
 obtain ⟨K,eK,hK⟩:=oz aH aW h k6
 have fK:=h.sub hK.sub
 obtain ⟨ds,ew⟩:=qx aH aW h fK k6
 refine ⟨K,.lst ds,.lst (K.map fun t=>got (jt [.int n,aB K,aO t,.int k])),?_,hK⟩
 have hl:K.length≤SZ:=by have:=fK.len;unfold SZ;omega
 apply Wr.eq
 unfold vc
 (refine Dm.Wr.fn ?_ rfl rfl;dsimp only [List.map,List.replicate,List.cons_append,List.nil_append])
 refine Ws.seq (Ws.E (We.F (Was.cons (We.v rfl (Was.nil (WF.val (eZ k (by omega) (by omega)) ?_ rfl rfl))))))
 by_cases hr:r=[]
 ·have hK0:K=[]:=by
   have:=hK.sub.length_le
   rw [hr] at this
   exact List.eq_nil_of_length_eq_zero (by simpa using this)
  unfold ny at eK
  rw [if_pos hr] at eK
  refine Ws.seq (Ws.A (We.F (Was.cons (We.v rfl (Was.cons (We.v rfl (Was.cons (We.v rfl (Was.cons (We.c (Was.nil (WF.box eK ?_ rfl rfl rfl rfl))))))))))) (by decide))
  refine WA.new ?_ (by first | (dsimp only [List.set];first | done | rfl) | rfl)
  refine Ws.seq (Ws.A (We.zA aO K (fun t=>got (jt [.int n,aB K,aO t,.int k])) id ?_ rfl (by first | (dsimp only [List.set];first | done | rfl) | rfl) rfl (by decide) hl fun t ht=>?_) (by decide))
  ·refine WA.new ?_ (by first | (dsimp only [List.set];first | done | rfl) | rfl)
   refine Ws.R (We.T (Was.cons (We.zA aO K (·.m) Dat.int ?_ rfl (by first | (dsimp only [List.set];first | done | rfl) | rfl) rfl (by decide) hl fun t ht=>?_)))
   ·refine Was.cons (We.F (Was.cons (We.v rfl (Was.cons (We.v rfl (Was.cons (We.w rfl (Was.cons (We.v rfl (Was.cons (We.c (Was.nil (WF.box ew ?_ rfl rfl rfl rfl)))))))))))))
    refine Was.cons (We.w rfl (Was.nil (WT.mk ?_ rfl rfl (by exact Nat.le_of_ble_eq_true rfl))))
    rw [List.map_id]
    rfl
   ·exact We.e2 (We.v rfl (We.c (Wg2.ix (Wk.val ⟨rfl,rfl⟩) rfl rfl rfl)))
  ·rw [hK0] at ht;cases ht
 ·unfold ny at eK
  rw [if_neg hr] at eK
  refine Ws.seq (Ws.A (We.F (Was.cons (We.v rfl (Was.cons (We.v rfl (Was.cons (We.v rfl (Was.cons (We.c (Was.nil (WF.box eK ?_ rfl rfl rfl rfl))))))))))) (by decide))
  refine WA.val ?_ (by first | (dsimp only [List.set];first | done | rfl) | rfl)
  refine Ws.seq (Ws.A (We.sW aO K (fun t=>got (jt [.int n,aB K,aO t,.int k])) id (d:=aB K) ?_ rfl rfl rfl (by decide) hl fun t ht=>?_) (by decide))
  ·refine WA.new ?_ (by first | (dsimp only [List.set];first | done | rfl) | rfl)
   refine Ws.R (We.T (Was.cons (We.sW aO K (·.m) Dat.int (d:=aB K) ?_ rfl rfl rfl (by decide) hl fun t ht=>?_)))
   ·refine Was.cons (We.F (Was.cons (We.v rfl (Was.cons (We.v rfl (Was.cons (We.v rfl (Was.cons (We.v rfl (Was.cons (We.c (Was.nil (WF.box ew ?_ rfl rfl rfl rfl)))))))))))))
    refine Was.cons (We.w rfl (Was.nil (WT.mk ?_ rfl rfl (by exact Nat.le_of_ble_eq_true rfl))))
    rw [List.map_id]
    rfl
   ·exact We.e2 (We.v rfl (We.c (Wg2.ix (Wk.val ⟨rfl,rfl⟩) rfl rfl rfl)))
  ·obtain ⟨d,e⟩:=qw fK ht k6
   have go:∀ {Q:Val→Env→Prop} {ρ:Env},Q (.val d) ρ→∀ xs,pks ρ xs=some [.int n,aB K,aO t,.int k]→tks ρ xs=some ([.int n,aB K,aO t,.int k],ρ)→WF jt ρ xs Q:=fun {Q ρ} q xs h1 h2=>by
    by_cases hb:cD d=true
    ·exact WF.box e q h1 hb h2 rfl
    ·exact WF.val e q h1 (by show cD d=false;simpa using hb)
   refine We.F (Was.cons (We.v rfl (Was.cons (We.v rfl (Was.cons (We.v rfl (Was.cons (We.v rfl (Was.nil (go ?_ _ rfl rfl))))))))))
   refine Wk.val ⟨?_,rfl⟩
   rw [e];rfl
theorem G_ (r:List Tie) (hl:r.length≤1000) (S:List Int):vh [aB r,tupI S]=some (.new (.lst ((dW r S).map Dat.int))):=by
 apply Wr.eq
 unfold vh
 (refine Dm.Wr.fn ?_ rfl rfl;dsimp only [List.map,List.replicate,List.cons_append,List.nil_append])
 refine Ws.R ?_
 refine We.Kn aO r (ovr S) (·.m) Dat.int (fun t=>.int t.m) (fun t=>.int t.a) (fun t=>.int t.b) (fun _=>rfl) (d:=aB r) ?_ rfl rfl rfl (by decide) (by unfold SZ;omega) (fun u _=>?_) fun u _ _=>?_
 ·rfl
 ·refine Wt.V (We.e2 (We.e2 (We.v rfl (We.v rfl (Wg2.inT (xs:=S) ?_ rfl rfl)))))
  refine We.e2 (We.v rfl (We.v rfl (Wg2.inT (xs:=S) ?_ rfl rfl)))
  exact Wg2.neb (Wb.mk ⟨rfl,rfl⟩) rfl rfl
 ·exact We.v rfl (Wk.val ⟨rfl,rfl⟩)
noncomputable def fO (n x:Nat):List Int:=((List.range (n-1)).filter fun p=>decide (x / 2 ^ p % 2=1)).map fun p:Nat=>1+(p:Int)
theorem z8 (n:Nat) (n1:1≤n) (n10:n≤10):qo [.int n]=some (.new (.lst (((List.range (2 ^ (n-1)-1)).map fun x=>fO n (1+x)).map tupI))):=by
 apply Wr.eq
 unfold qo
 (refine Dm.Wr.fn ?_ rfl rfl;dsimp only [List.map,List.replicate,List.cons_append,List.nil_append])
 refine Ws.seq (Ws.A (We.L (Was.nil (WT.mk ?_ rfl rfl (by decide)))) (by decide))
 refine WA.new ?_ (by first | (dsimp only [List.set];first | done | rfl) | rfl)
 have p1:(1:Int)*2 ^ ((n:Int)-1).toNat=((2 ^ (n-1):Nat):Int):=by
  have:((n:Int)-1).toNat=n-1:=by omega
  rw [this,Int.one_mul];norm_cast
 have p2:2 ^ (n-1)≤512:=Nat.le_trans (Nat.pow_le_pow_right (show 2>0 by decide) (show n-1≤9 by omega)) (by decide)
 have p3:0<2 ^ (n-1):=Nat.pow_pos (by decide)
 refine Ws.seq (Ws.For (Wi.R2 (We.c (bS.mk (We.e2 (We.c (We.e2 (We.v rfl (We.c (Wg2.sub ?_ rfl rfl))))))))))
 refine ⟨_,_,_,rfl,rfl,(show wQ (.int 1) (.int ((n:Int)-1))=some (.val (.int ((2 ^ (n-1):Nat):Int))) by unfold wQ;dsimp only;rw [if_pos (by omega),p1]),?_⟩
 refine bS.mk ⟨?_,by unfold BIG;omega⟩
 have el:(((2 ^ (n-1):Nat):Int)-1).toNat=2 ^ (n-1)-1:=by omega
 rw [el]
 refine Ws.inv (fun i:Nat=>Dat.int (1+(i:Nat))) _ _ (List.range (2 ^ (n-1)-1)) _ _ _ _ _ (fun p q ρ=>∃ c2:Cell,ρ=[.sh (.int n),.ow (.lst ((p.map fun x=>fO n (1+x)).map tupI)),c2]) ⟨_,rfl⟩ ?_ ?_
 ·rintro p i q ρ e ⟨c2,rfl⟩
  have hlp:p.length<SZ:=by
   have:(List.range (2 ^ (n-1)-1)).length=p.length+(q.length+1):=by rw [e];simp
   rw [List.length_range] at this;unfold SZ;omega
  refine Dm.bI rfl (by first | (dsimp only [List.set];first | done | rfl) | rfl) ?_
  unfold zQ
  refine Ws.App (We.B (Was.cons (We.zD (fun p:Nat=>Dat.int (1+(p:Nat))) (List.range (n-1)) (fun p=>decide ((1+i) / 2 ^ p % 2=1)) (fun p:Nat=>1+(p:Int)) Dat.int (fun j=>[.sh (.int n),.ow (.lst ((p.map fun x=>fO n (1+x)).map tupI)),.sh (.int (1+(i:Nat))),.sh (.int (1+(j:Nat)))]) (ρ1:=[.sh (.int n),.ow (.lst ((p.map fun x=>fO n (1+x)).map tupI)),.sh (.int (1+(i:Nat)))]) ?_ ?_ (fun _=>rfl) (fun _ _=>rfl) (fun _=>rfl) (by rw [List.length_range];unfold SZ;omega) (fun p hp=>?_) fun p _ _=>?_))) rfl
  ·refine Was.nil (WB.tuple ?_ rfl)
   refine Wk.val (iY ?_ rfl (by first | (dsimp only [List.set];first | done | rfl) | rfl) (by simpa using hlp))
   refine ⟨.sh (.int (1+(i:Nat))),?_⟩
   rw [List.map_append,List.map_append]
   rfl
  ·apply Wi.get
   refine Wi.R2 (We.c (bS.mk (We.v rfl (bS.mk ⟨⟨?_,rfl⟩,by unfold BIG;omega⟩))))
   have:((n:Int)-1).toNat=n-1:=by omega
   rw [this]
   rfl
  ·refine Wt.V (We.e2 (We.e2 (We.e2 (We.v rfl (We.e2 (We.v rfl (We.c (Wg2.sub ?_ rfl rfl))))))))
   refine Wg2.shr ?_ rfl rfl (by omega)
   refine We.c (Wg2.L_ ?_ rfl rfl)
   refine We.c (Wg2.eq (Wb.mk ⟨?_,rfl⟩) rfl rfl)
   have:((1:Int)+(p:Nat)-1).toNat=p:=by omega
   rw [this]
   apply decide_eq_decide.mpr
   have:((1:Int)+((i:Nat):Int)) / 2 ^ p % 2=(((1+i) / 2 ^ p % 2:Nat):Int):=by norm_cast
   rw [this]
   omega
  ·exact We.v rfl (Wk.val ⟨rfl,rfl⟩)
 ·rintro ρ ⟨c2,rfl⟩
  exact Ws.R (We.w rfl (WR.slot rfl rfl))
theorem vz:∀ (m:Nat) (S:Nat→Bool),∃ x,x<2 ^ m∧∀ p<m,decide (x / 2 ^ p % 2=1)=S p
 | 0,S=>⟨0,by decide,fun p h=>absurd h (Nat.not_lt_zero p)⟩
 | m+1,S=>by
  obtain ⟨x,hx,h⟩:=vz m fun p=>S (p+1)
  refine ⟨2*x+(if S 0 then 1 else 0),?_,fun p hp=>?_⟩
  ·rw [Nat.pow_succ];split<;>omega
  ·cases p with
   | zero=>
    rw [Nat.pow_zero,Nat.div_one]
    cases S 0<;>simp<;>omega
   | succ p=>
    have e:(2*x+(if S 0 then 1 else 0)) / 2 ^ (p+1)=x / 2 ^ p:=by
     rw [Nat.pow_succ,Nat.mul_comm (2 ^ p) 2,← Nat.div_div_eq_div_mul]
     congr 1
     split<;>omega
    rw [e]
    exact h p (by omega)
theorem CU {n x:Nat} {S:Int→Bool} (h0:S 0=false) (h:∀ p<n-1,decide (x / 2 ^ p % 2=1)=S (1+(p:Int))) {q:Int} (q0:0≤q) (q1:q<n):decide (q∈fO n x)=S q:=by
 rw [Bool.eq_iff_iff,decide_eq_true_iff]
 unfold fO
 rw [List.mem_map]
 constructor
 ·rintro ⟨p,hp,rfl⟩
  obtain ⟨p1,p2⟩:=List.mem_filter.mp hp
  rw [h p (List.mem_range.mp p1)] at p2
  exact p2
 ·intro hq
  by_cases z:q=0
  ·rw [z,h0] at hq;cases hq
  ·refine ⟨(q-1).toNat,List.mem_filter.mpr ⟨List.mem_range.mpr (by omega),?_⟩,by omega⟩
   rw [h _ (by omega)]
   have:1+(((q-1).toNat:Nat):Int)=q:=by omega
   rw [this];exact hq
theorem i8 (r:List Tie) (L:List Int):(dW r L).length=aR r fun q=>decide (q∈L):=by
 unfold dW
 rw [List.length_map]
 rfl
theorem qy {r:List Tie} {S T:Int→Bool} (h:∀ t∈r,S t.a=T t.a∧S t.b=T t.b):aR r S=aR r T:=by
 unfold aR
 congr 1
 apply List.filter_congr
 intro t ht
 obtain ⟨h1,h2⟩:=h t ht
 unfold over
 rw [h1,h2]
theorem tN {r K:List Tie} (s:K.Sublist r):(r.map (·.m)).Nodup→r.filter (fun t=>decide (t.m∈K.map (·.m)))=K:=by
 induction s with
 | slnil=>intro _;rfl
 | cons a s ih=>
  rename_i K' r'
  intro nd
  rw [List.map_cons,List.nodup_cons] at nd
  rw [List.filter_cons_of_neg,ih nd.2]
  simp only [decide_eq_true_iff]
  exact fun z=>nd.1 ((s.map (·.m)).subset z)
 | cons_cons a s ih=>
  rename_i K' r'
  intro nd
  rw [List.map_cons,List.nodup_cons] at nd
  rw [List.filter_cons_of_pos (by simp)]
  congr 1
  conv=>rhs;rw [← ih nd.2]
  apply List.filter_congr
  intro t ht
  apply decide_eq_decide.mpr
  rw [List.map_cons,List.mem_cons]
  constructor
  ·rintro (e | e)
   ·exact absurd (List.mem_map.mpr ⟨t,ht,e⟩) nd.1
   ·exact e
  ·exact .inr
noncomputable def mgf (f:Int→Int) (a b:Int):Int→Int:=fun x=>if f x=f b then f a else f x
inductive Con (ts:List Tie):Int→Int→Prop
 | refl (x:Int):Con ts x x
 | tie (t:Tie):t∈ts→Con ts t.a t.b
 | symm {x y:Int}:Con ts x y→Con ts y x
 | trans {x y z:Int}:Con ts x y→Con ts y z→Con ts x z
theorem Con.mono {ts us:List Tie} (h:∀ t∈ts,t∈us) {x y:Int} (c:Con ts x y):Con us x y:=by
 induction c with
 | refl x=>exact .refl x
 | tie t m=>exact .tie t (h t m)
 | symm _ ih=>exact .symm ih
 | trans _ _ i1 i2=>exact .trans i1 i2
noncomputable def Tells (f:Int→Int) (ts:List Tie):Prop:=∀ x y,f x=f y↔Con ts x y
theorem Con.nil {x y:Int} (c:Con [] x y):x=y:=by
 induction c with
 | refl x=>rfl
 | tie t m=>cases m
 | symm _ ih=>exact ih.symm
 | trans _ _ i1 i2=>exact i1.trans i2
theorem tells_nil:Tells (fun x=>x) []:=fun x y=>⟨fun h=>by cases h;exact .refl _,fun c=>c.nil⟩
theorem tells_mgf {f:Int→Int} {ts:List Tie} (h:Tells f ts) (t:Tie) (a b:Int) (hab:(a=t.a∧b=t.b)∨(a=t.b∧b=t.a)):Tells (mgf f a b) (t::ts):=by
 have up:∀ {x y},f x=f y→Con (t::ts) x y:=fun e=>Con.mono (fun u m=>List.mem_cons_of_mem _ m) ((h _ _).mp e)
 have ab:Con (t::ts) a b:=by
  rcases hab with ⟨rfl,rfl⟩ | ⟨rfl,rfl⟩
  ·exact .tie t List.mem_cons_self
  ·exact .symm (.tie t List.mem_cons_self)
 intro x y
 unfold mgf
 constructor
 ·intro e
  by_cases hx:f x=f b
  ·rw [if_pos hx] at e
   by_cases hy:f y=f b
   ·exact up (hx.trans hy.symm)
   ·rw [if_neg hy] at e
    exact .trans (up hx) (.trans (.symm ab) (up e))
  ·rw [if_neg hx] at e
   by_cases hy:f y=f b
   ·rw [if_pos hy] at e
    exact .trans (up e) (.trans ab (.symm (up hy)))
   ·rw [if_neg hy] at e
    exact up e
 ·intro c
  have key:∀ {x y:Int},Con (t::ts) x y→(if f x=f b then f a else f x)=(if f y=f b then f a else f y):=fun c=>by
   induction c with
   | refl x=>rfl
   | tie u m=>
    rcases List.mem_cons.mp m with rfl | m
    ·rcases hab with ⟨rfl,rfl⟩ | ⟨rfl,rfl⟩
     ·rw [if_pos (rfl:f u.b=f u.b)]
      split
      ·rfl
      ·rfl
     ·rw [if_pos (rfl:f u.a=f u.a)]
      split
      ·rfl
      ·rfl
    ·have e:=(h u.a u.b).mpr (.tie u m)
     rw [e]
   | symm _ ih=>exact ih.symm
   | trans _ _ i1 i2=>exact i1.trans i2
  exact key c
noncomputable def lay (r:List Tie) (ms:List Int) (j:Int):List Tie:=((r.zip ms).filter fun p=>decide (p.2=j)).map (·.1)
theorem iy (t:Tie) (m:Int) (r:List Tie) (ms:List Int) (j:Int):lay (t::r) (m::ms) j=if m=j then t::lay r ms j else lay r ms j:=by
 unfold lay
 rw [List.zip_cons_cons,List.filter_cons]
 by_cases h:m=j<;>simp [h]
noncomputable def qz (k:Int) (r:List Tie) (ms:List Int) (t:Tie) (m:Int):Prop:=
 (m=0∧∀ j,1≤j→j≤k→Con (lay r ms j) t.a t.b)∨(1≤m∧m≤k∧¬ Con (lay r ms m) t.a t.b∧∀ j,1≤j→j<m→Con (lay r ms j) t.a t.b)
noncomputable def bC (k:Int):List Tie→List Int→Prop
 | [],[]=>True
 | t::r,m::ms=>bC k r ms∧qz k r ms t m
 | _,_=>False
theorem qz.uniq {k:Int} {r:List Tie} {ms:List Int} {t:Tie} {m m':Int} (h:qz k r ms t m) (h':qz k r ms t m'):m=m':=by
 rcases h with ⟨rfl,h⟩ | ⟨h1,h2,h3,h4⟩
 ·rcases h' with ⟨rfl,_⟩ | ⟨g1,g2,g3,_⟩
  ·rfl
  ·exact absurd (h m' g1 g2) g3
 ·rcases h' with ⟨rfl,h'⟩ | ⟨g1,g2,g3,g4⟩
  ·exact absurd (h' m h1 h2) h3
  ·rcases Int.lt_trichotomy m m' with q | q | q
   ·exact absurd (g4 m h1 q) h3
   ·exact q
   ·exact absurd (h4 m' g1 q) g3
theorem bC.len {k:Int}:∀ {r:List Tie} {ms:List Int},bC k r ms→ms.length=r.length
 | [],[],_=>rfl
 | _::r,_::ms,h=>by simp [bC.len h.1]
 | [],_::_,h=>h.elim
 | _::_,[],h=>h.elim
theorem bC.uniq {k:Int}:∀ {r:List Tie} {ms ms':List Int},bC k r ms→bC k r ms'→ms=ms'
 | [],[],[],_,_=>rfl
 | _::r,m::ms,m'::ms',h,h'=>by
  have e:=bC.uniq h.1 h'.1
  subst e
  rw [h.2.uniq h'.2]
 | [],_::_,_,h,_=>h.elim
 | [],[],_::_,_,h=>h.elim
 | _::_,[],_,h,_=>h.elim
 | _::_,_::_,[],_,h=>h.elim
noncomputable def lab (n:Nat) (f:Int→Int):Dat:=.lst ((List.range n).map fun (i:Nat)=>Dat.int (f i))
theorem oA (n:Nat) (f:Int→Int) (x:Int) (h0:0≤x) (h1:x<n):gIx (lab n f) (.int x)=some (.val (.int (f x))):=by
 unfold lab gIx atI ixN
 have hx:x.toNat<n:=by omega
 have hc:((x.toNat:Nat):Int)=x:=by omega
 simp only [List.length_map,List.length_range,h0,h1,if_true]
 simp [List.getElem?_range hx,hc]
theorem Hg (n:Nat):Dat.lst (ups 0 n)=lab n fun x=>x:=by
 unfold ups lab
 simp
theorem CV (n:Nat) (f:Int→Int):lab n f=.lst (((List.range n).map fun (i:Nat)=>f i).map Dat.int):=by
 unfold lab
 rw [List.map_map]
 rfl
theorem xw (n:Nat) (hn:n≤10) (f:Int→Int) (a b:Int) (a0:0≤a) (a1:a<n) (b0:0≤b) (b1:b<n):u_ [lab n f,.int a,.int b]=some (.new (lab n (mgf f a b))):=by
 apply Wr.eq
 unfold u_
 (refine Dm.Wr.fn ?_ rfl rfl;dsimp only [List.map,List.replicate,List.cons_append,List.nil_append])
 refine Ws.R (We.sW (fun i:Nat=>Dat.int (f i)) (List.range n) (fun i:Nat=>mgf f a b i) Dat.int (d:=lab n f) ?_ rfl rfl rfl (by decide) (by rw [List.length_range];unfold SZ;omega) fun i _=>?_)
 ·rw [← CV];rfl
 ·refine We.If (Wt.V (We.e2 (We.v rfl (We.e2 (We.v rfl (We.v rfl (Wg2.ix ?_ rfl rfl (oA n f b b0 b1))))))))
  refine Wg2.eq (Wb.mk ⟨fun g=>?_,fun g=>?_⟩) rfl rfl
  ·refine We.e2 (We.v rfl (We.v rfl (Wg2.ix (Wk.val ⟨?_,rfl⟩) rfl rfl (oA n f a a0 a1))))
   unfold mgf;rw [if_pos (of_decide_eq_true g)]
  ·refine We.v rfl (Wk.val ⟨?_,rfl⟩)
   unfold mgf;rw [if_neg (of_decide_eq_false g)]
theorem qA {α:Type} (enc:α→Dat) (d:α):∀ (k:Nat) (l:List α),ic k (l.map enc)=(List.range l.length).map fun i=>.tup [.int ((k+i:Nat):Int),enc (l.getD i d)]
 | k,[]=>rfl
 | k,x::l=>by
  rw [List.map_cons,ic,qA enc d (k+1) l,List.length_cons,List.range_succ_eq_map,List.map_cons,List.map_map]
  congr 1
  apply List.map_congr_left
  intro i _
  show _=Dat.tup [.int ((k+(i+1):Nat):Int),enc ((x::l).getD (i+1) d)]
  rw [show k+1+i=k+(i+1) by omega]
  rfl
theorem z_ {n k:Nat} {p q:List Nat} (e:List.range n=p++k::q):k=p.length∧k<n:=by
 have h1:(List.range n)[p.length]?=some k:=by rw [e,List.getElem?_append_right (Nat.le_refl _),Nat.sub_self];rfl
 have h2:p.length<n:=by
  have:(List.range n).length=p.length+(q.length+1):=by rw [e];simp
  rw [List.length_range] at this;omega
 rw [List.getElem?_range h2] at h1
 injection h1 with h1
 omega
noncomputable def Aa (gs:List (Int→Int)) (a b:Int) (i:Nat) (num:Int):Prop:=
 (num=0∧∀ (j:Nat) f,j<i→gs[j]?=some f→f a=f b)∨∃ (j:Nat) (f:Int→Int),j<i∧gs[j]?=some f∧f a≠f b∧(∀ (j':Nat) f',j'<j→gs[j']?=some f'→f' a=f' b)∧num=(j:Int)+1
theorem Ab (n:Nat) (gs:List (Int→Int)) (a b:Int) (a0:0≤a) (a1:a<n) (b0:0≤b) (b1:b<n):∃ num:Int,qi [.lst (gs.map (lab n)),.int a,.int b]=some (.val (.int num))∧Aa gs a b gs.length num:=by
 suffices hh:Wr (qi [.lst (gs.map (lab n)),.int a,.int b]) fun v=>∃ num:Int,v=.val (.int num)∧Aa gs a b gs.length num by
  obtain ⟨v,h1,num,rfl,h2⟩:=hh
  exact ⟨num,h1,h2⟩
 unfold qi
 (refine Dm.Wr.fn ?_ rfl rfl;dsimp only [List.map,List.replicate,List.cons_append,List.nil_append])
 refine Ws.seq (Ws.For (Wi.En (We.v rfl (Wk.val ⟨_,rfl,?_⟩))))
 rw [qA (lab n) fun x=>x]
 refine Ws.inv (fun i:Nat=>Dat.tup [.int ((0+i:Nat):Int),lab n (gs.getD i fun x=>x)]) _ _ (List.range gs.length) _ _ _ _ _ (fun p q ρ=>∃ c3 c4:Cell,ρ=[.sh (.lst (gs.map (lab n))),.sh (.int a),.sh (.int b),c3,c4]∧∀ (j:Nat) f,j<p.length→gs[j]?=some f→f a=f b) ⟨_,_,rfl,fun j f hj=>by simp at hj⟩ ?_ ?_
 ·rintro p i q ρ e ⟨c3,c4,rfl,low⟩
  obtain ⟨ip,il⟩:=z_ e
  have hf:gs[i]?=some (gs.getD i fun x=>x):=by rw [List.getD_eq_getElem?_getD,List.getElem?_eq_getElem il];rfl
  generalize (gs.getD i fun x=>x)=f at hf
  refine Dm.bI rfl (by first | (dsimp only [List.set];first | done | rfl) | rfl) ?_
  unfold zM
  refine Ws.If (Wt.V (We.e2 (We.e2 (We.v rfl (We.v rfl (Wg2.ix ?_ rfl rfl (oA n f a a0 a1)))))))
  refine We.e2 (We.v rfl (We.v rfl (Wg2.ix ?_ rfl rfl (oA n f b b0 b1))))
  refine Wg2.ne (Wb.mk ?_) rfl rfl
  by_cases h:f a=f b
  ·refine Wif.no (by simp [h]) (Ws.nx ⟨_,_,rfl,fun j g hj hg=>?_⟩)
   rw [List.length_append,List.length_singleton] at hj
   by_cases q:j=i
   ·subst q;rw [hf] at hg;cases hg;exact h
   ·exact low j g (by omega) hg
  ·refine Wif.yes (by simp [h]) (Ws.R (We.e2 (We.v rfl (We.c (Wg2.add ?_ rfl rfl)))))
   exact ⟨_,rfl,.inr ⟨i,f,il,hf,h,fun j g hj=>low j g (by omega),by omega⟩⟩
 ·rintro ρ ⟨c3,c4,rfl,low⟩
  rw [List.length_range] at low
  exact Ws.R (We.c ⟨0,rfl,.inl ⟨rfl,low⟩⟩)
noncomputable def Ends (n:Int) (r:List Tie):Prop:=∀ t∈r,0≤t.a∧t.a<n∧0≤t.b∧t.b<n
noncomputable def CW (k:Nat) (gs:List (Int→Int)) (r:List Tie) (ms:List Int):Prop:=gs.length=k∧∀ (j:Nat) f,gs[j]?=some f→Tells f (lay r ms ((j:Int)+1))
theorem map_set (n:Nat) (gs:List (Int→Int)) (i:Nat) (f:Int→Int):(gs.map (lab n)).set i (lab n f)=(gs.set i f).map (lab n):=by rw [List.map_set]
noncomputable def Ac (o:Bool) (gs gs':List (Int→Int)) (a b:Int) (i:Nat) (num:Int):Prop:=
 (num=0∧gs'=gs∧∀ (j:Nat) f,j<i→gs[j]?=some f→f a=f b)∨∃ (j:Nat) (f:Int→Int),j<i∧gs[j]?=some f∧f a≠f b∧(∀ (j':Nat) f',j'<j→gs[j']?=some f'→f' a=f' b)∧num=(j:Int)+1∧gs'=gs.set j (mgf f (if o then a else b) (if o then b else a))
theorem Ac.num {k:Nat} {o:Bool} {gs gs':List (Int→Int)} {r:List Tie} {ms:List Int} (h:CW k gs r ms) (t:Tie) {num:Int} (l:Ac o gs gs' t.a t.b k num):qz k r ms t num∧CW k gs' (t::r) (num::ms):=by
 obtain ⟨hl,ht⟩:=h
 rcases l with ⟨rfl,rfl,h2⟩ | ⟨j,f,jk,h1,h3,h4,rfl,rfl⟩
 ·refine ⟨.inl ⟨rfl,fun j j1 j2=>?_⟩,hl,fun i g hg=>?_⟩
  ·have hj:(j-1).toNat<gs'.length:=by omega
   have:=(ht (j-1).toNat _ (List.getElem?_eq_getElem hj) t.a t.b).mp (h2 _ _ (by omega) (List.getElem?_eq_getElem hj))
   rw [show (((j-1).toNat:Nat):Int)+1=j by omega] at this
   exact this
  ·rw [iy,if_neg (by omega)]
   exact ht i g hg
 ·have hj:j<gs.length:=(List.getElem?_eq_some_iff.mp h1).1
  refine ⟨.inr ⟨by omega,by omega,fun c=>h3 ((ht j f h1 t.a t.b).mpr c),fun i i1 i2=>?_⟩,by rw [List.length_set];exact hl,fun i g hg=>?_⟩
  ·have hi:(i-1).toNat<gs.length:=by omega
   have:=(ht (i-1).toNat _ (List.getElem?_eq_getElem hi) t.a t.b).mp (h4 (i-1).toNat _ (by omega) (List.getElem?_eq_getElem hi))
   rw [show (((i-1).toNat:Nat):Int)+1=i by omega] at this
   exact this
  ·rw [iy]
   by_cases q:j=i
   ·subst q
    rw [List.getElem?_set_self hj] at hg
    cases hg
    rw [if_pos rfl]
    cases o
    ·exact tells_mgf (ht j f h1) t t.b t.a (.inr ⟨rfl,rfl⟩)
    ·exact tells_mgf (ht j f h1) t t.a t.b (.inl ⟨rfl,rfl⟩)
   ·rw [List.getElem?_set_ne q] at hg
    rw [if_neg (by omega)]
    exact ht i g hg
theorem Kv (n:Nat) (gs:List (Int→Int)) {i:Nat} {f:Int→Int} (h:gs[i]?=some f):gIx (.lst (gs.map (lab n))) (.int (0+(i:Nat)))=some (.val (lab n f)):=by
 have hi:=(List.getElem?_eq_some_iff.mp h).1
 rw [Int.zero_add]
 show (atI (gs.map (lab n)) i).map RV.val=_
 rw [Dm.ie (lab n) gs (i:Nat) (by omega) (by omega)]
 have:gs[((i:Nat):Int).toNat]'(by omega)=f:=by
  have:=List.getElem?_eq_some_iff.mp h
  simpa using this.2
 rw [this];rfl
theorem Mh (k:Nat):CW k ((List.range k).map fun _=>(fun x:Int=>x)) [] []:=⟨by simp,fun j f hf=>by
 rw [List.getElem?_map] at hf
 cases h:(List.range k)[j]? with
 | none=>rw [h] at hf;cases hf
 | some x=>rw [h] at hf;cases hf;exact tells_nil⟩
theorem fP (n k:Nat) (hn:n≤10) (hk1:1≤k) (hk6:k≤6) (r:List Tie) (hr:Ends n r) (hl:r.length≤1000):∃ ms:List Int,nt [.int n,aB r,.int k]=some (.new (.lst (ms.map Dat.int)))∧bC k r ms:=by
 suffices hh:Wr (nt [.int (n:Nat),aB r,.int (k:Nat)]) fun v=>∃ ms:List Int,v=.new (.lst (ms.map Dat.int))∧bC k r ms by
  obtain ⟨v,h1,ms,rfl,h2⟩:=hh
  exact ⟨ms,h1,h2⟩
 unfold nt
 (refine Dm.Wr.fn ?_ rfl rfl;dsimp only [List.map,List.replicate,List.cons_append,List.nil_append])
 refine Ws.seq (Ws.E (We.F (Was.cons (We.v rfl (Was.nil (WF.val (eZ k (by omega) (by omega)) ?_ rfl rfl))))))
 refine Ws.seq (Ws.A (We.Map (fun i:Nat=>Dat.int (0+(i:Nat))) (List.range k) (fun _=>(fun x:Int=>x)) (lab n) (ρ1:=[.sh (.int (n:Nat)),.sh (aB r),.sh (.int (k:Nat)),.un,.un,.un,.un,.un,.un]) ?_ ?_ rfl (by decide) (by rw [List.length_range];unfold SZ;omega) fun i _=>?_) (by decide))
 rotate_left
 ·apply Wi.get
  refine Wi.R1 (We.v rfl (bS.mk ⟨⟨?_,rfl⟩,by unfold BIG;omega,by unfold BIG;omega⟩))
  rw [Int.toNat_natCast];rfl
 ·refine We.B (Was.cons (We.v rfl (Was.nil (WB.Mb ?_ rfl (by omega)))))
  rw [Int.toNat_natCast,Hg]
  exact Wk.new ⟨rfl,rfl⟩
 refine WA.new ?_ (by first | (dsimp only [List.set];first | done | rfl) | rfl)
 refine Ws.seq (Ws.A (We.L (Was.nil (WT.mk ?_ rfl rfl (by decide)))) (by decide))
 refine WA.new ?_ (by first | (dsimp only [List.set];first | done | rfl) | rfl)
 refine Ws.seq (Ws.For (Wi.Rev (We.v rfl (Wk.val ⟨_,rfl,?_⟩))))
 rw [← List.map_reverse]
 refine Ws.inv aO _ _ r.reverse _ _ _ _ _ (fun p q ρ=>∃ (gs:List (Int→Int)) (ms:List Int) (c5 c6 c7 c8:Cell),ρ=[.sh (.int (n:Nat)),.sh (aB r),.sh (.int (k:Nat)),.ow (.lst (gs.map (lab n))),.ow (.lst (ms.reverse.map Dat.int)),c5,c6,c7,c8]∧CW k gs p.reverse ms∧bC k p.reverse ms) ⟨(List.range k).map fun _=>(fun x:Int=>x),[],.un,.un,.un,.un,rfl,Mh k,trivial⟩ ?_ ?_
 ·rintro p t q ρ e ⟨gs,ms,c5,c6,c7,c8,rfl,I,A⟩
  have ht:t∈r:=List.mem_reverse.mp (by rw [e];simp)
  obtain ⟨t0,t1,t2,t3⟩:=hr t ht
  have lp:ms.length≤1000:=by
   have a:=A.len
   have:r.reverse.length=p.length+(q.length+1):=by rw [e];simp
   rw [List.length_reverse] at a this
   omega
  obtain ⟨num,en,ln⟩:=Ab n gs t.a t.b t0 t1 t2 t3
  rw [I.1] at ln
  refine Dm.bI rfl (by first | (dsimp only [List.set];first | done | rfl) | rfl) ?_
  unfold zN
  refine Ws.seq (Ws.A (We.F (Was.cons (We.w rfl (Was.cons (We.v rfl (Was.cons (We.v rfl (Was.nil (WF.val en (WA.val ?_ (by first | (dsimp only [List.set];first | done | rfl) | rfl)) rfl rfl))))))))) (by decide))
  refine Ws.cut (fun ρ=>∃ gs',ρ=[.sh (.int (n:Nat)),.sh (aB r),.sh (.int (k:Nat)),.ow (.lst (gs'.map (lab n))),.ow (.lst (ms.reverse.map Dat.int)),.sh (.int t.m),.sh (.int t.a),.sh (.int t.b),.sh (.int num)]∧Ac true gs gs' t.a t.b k num) ?_ ?_
  ·refine Ws.If (Wt.V (We.e2 (We.v rfl (We.c (Wg2.gt (Wb.mk ?_) rfl rfl)))))
   rcases ln with ⟨rfl,low⟩ | ⟨j,f,jk,hf,ne,low,rfl⟩
   ·exact Wif.no rfl (Ws.nx ⟨gs,rfl,.inl ⟨rfl,rfl,low⟩⟩)
   ·have gi:gIx (.lst (gs.map (lab n))) (.int ((j:Int)+1-1))=some (.val (lab n f)):=by
     have:=Kv n gs hf
     rw [show (j:Int)+1-1=0+(j:Nat) by omega]
     exact this
    refine Wif.yes (decide_eq_true (by omega)) ?_
    refine Ws.Set (We.F (Was.cons (We.e2 (We.w rfl (We.e2 (We.v rfl (We.c (Wg2.sub (Wg2.ix ?_ rfl rfl gi) rfl rfl))))))))
    refine Was.cons (We.v rfl (Was.cons (We.v rfl (Was.nil (WF.box (xw n hn f t.a t.b t0 t1 t2 t3) ?_ rfl rfl rfl (by first | (dsimp only [List.set];first | done | rfl) | rfl))))))
    refine Wk.new ⟨⟨_,rfl⟩,We.e2 (We.v rfl (We.c (Wg2.sub (bS.mk ⟨gs.map (lab n),j,_,rfl,?_,rfl,?_⟩) rfl rfl)))⟩
    ·have hj:j<gs.length:=(List.getElem?_eq_some_iff.mp hf).1
     rw [List.length_map]
     unfold ixN
     rw [if_pos (by omega),if_pos (by omega)]
     congr 1
     omega
    ·exact ⟨gs.set j (mgf f t.a t.b),by rw [← map_set];rfl,.inr ⟨j,f,jk,hf,ne,low,rfl,rfl⟩⟩
  ·rintro ρ ⟨gs',rfl,L⟩
   obtain ⟨h1,h2⟩:=L.num I t
   refine Ws.App (We.v rfl (Wk.val (iY ?_ rfl (by first | (dsimp only [List.set];first | done | rfl) | rfl) (by rw [List.length_map,List.length_reverse];unfold SZ;omega)))) rfl
   refine ⟨gs',num::ms,.sh (.int t.m),.sh (.int t.a),.sh (.int t.b),.sh (.int num),by rw [List.reverse_cons,List.map_append];rfl,?_⟩
   rw [List.reverse_append]
   exact ⟨h2,A,h1⟩
 ·rintro ρ ⟨gs,ms,c5,c6,c7,c8,rfl,I,A⟩
  rw [List.reverse_reverse] at A
  refine Ws.R (We.e1 (We.w rfl (Wg1.mk (v:=.new (.lst (ms.map Dat.int))) ?_ rfl ?_)))
  ·exact ⟨ms,rfl,A⟩
  ·unfold j8
   dsimp only
   rw [← List.map_reverse,List.reverse_reverse]
theorem Good.mem {n:Int}:∀ {r:List Tie} {lo:Int},Good n lo r→∀ t∈r,0≤t.a∧t.a≤t.b∧t.b<n
 | [],_,_,t,h=>by cases h
 | x::r,lo,g,t,h=>by
  rcases List.mem_cons.mp h with rfl | h
  ·exact ⟨g.2.1,g.2.2.1,g.2.2.2.1⟩
  ·exact Good.mem g.2.2.2.2 t h
theorem filter_lt {α:Type} (p q:α→Bool):∀ (l:List α),(∀ x∈l,q x=true→p x=true)→(∃ x∈l,p x=true∧q x=false)→(l.filter q).length+1≤(l.filter p).length
 | [],_,⟨x,h,_⟩=>by cases h
 | y::l,h,⟨x,hx,hp,hq⟩=>by
  have le:∀ l:List α,(∀ x∈l,q x=true→p x=true)→(l.filter q).length≤(l.filter p).length:=by
   intro l
   induction l with
   | nil=>intro _;simp
   | cons z l ih=>
    intro hh
    have i2:=ih fun u hu=>hh u (List.mem_cons_of_mem _ hu)
    have hz:=hh z List.mem_cons_self
    rw [List.filter_cons,List.filter_cons]
    cases hqz:q z with
    | false=>cases p z<;>simp<;>omega
    | true=>rw [hz hqz];simp;omega
  have tl:∀ u∈l,q u=true→p u=true:=fun u hu=>h u (List.mem_cons_of_mem _ hu)
  rw [List.filter_cons,List.filter_cons]
  rcases List.mem_cons.mp hx with rfl | hx
  ·rw [hp,hq]
   have:=le l tl
   simp;omega
  ·have ih:=filter_lt p q l tl ⟨x,hx,hp,hq⟩
   cases hqy:q y with
   | false=>cases p y<;>simp<;>omega
   | true=>rw [h y List.mem_cons_self hqy];simp;omega
noncomputable def keep (r:List Tie) (ms:List Int):List Tie:=((r.zip ms).filter fun p=>decide (0<p.2)).map (·.1)
theorem dc (t:Tie) (m:Int) (r:List Tie) (ms:List Int):keep (t::r) (m::ms)=if 0<m then t::keep r ms else keep r ms:=by
 unfold keep
 rw [List.zip_cons_cons,List.filter_cons]
 by_cases h:0<m<;>simp [h]
noncomputable def zE (x:Tie×Int):Dat:=.tup [aO x.1,.int x.2]
theorem vA:∀ (r:List Tie) (ms:List Int),fu (r.map aO) (ms.map Dat.int)=(r.zip ms).map zE
 | [],_=>by simp [fu]
 | _::_,[]=>by simp [fu]
 | t::r,m::ms=>by rw [List.map_cons,List.map_cons,fu,vA r ms,List.zip_cons_cons,List.map_cons];rfl
theorem We.Mi (r:List Tie) (ms:List Int) (p:Tie×Int→Bool) {it:FI} {k:Nat} {t:FT} {ρ ρ1:Env} {Q:Val→Env→Prop} (q:Q (.new (aB (((r.zip ms).filter p).map (·.1)))) ρ1) (hit:it ρ=some (fu (r.map aO) (ms.map Dat.int),ρ1)) (hk:ρ1.length=k) (hk0:k≠0) (hl:r.length≤SZ)
  (ht:∀ x:Tie×Int,Wt t (ρ1++[.sh (aO x.1),.sh (.int x.2)]) fun c ρ'=>c=p x∧ρ'=ρ1++[.sh (aO x.1),.sh (.int x.2)]):We (bF it 2 (bT [k,k+1]) t (eV k)) ρ Q:=by
 have b:∀ (x:Tie×Int) (c1 c2:Cell),bT [k,k+1] (zE x) (ρ1++[c1,c2])=some (ρ1++[.sh (aO x.1),.sh (.int x.2)]):=fun x c1 c2=>by
  show sets [k,k+1] [aO x.1,.int x.2] _=_
  rw [sets,if_neg hk0,sets,if_neg (by omega),sets]
  rw [List.set_append_right _ _ (by omega),List.set_append_right _ _ (by omega)]
  subst hk
  rw [Nat.sub_self,show ρ1.length+1-ρ1.length=1 by omega]
  rfl
 refine We.zD zE (r.zip ms) p (fun x=>x.1) aO (fun x=>(ρ1++[Cell.sh (aO x.1),Cell.sh (.int x.2)]:Env)) (own:=2) (bd:=bT [k,k+1]) (Q:=Q) q (by rw [hit,vA]) (fun x=>b x .un .un) (fun x y=>b x (.sh (aO y.1)) (.sh (.int y.2))) (fun x=>List.take_left) (by rw [List.length_zip];omega) (fun x _=>ht x) (fun x _ _=>?_)
 refine We.v (d:=aO x.1) ?_ (Wk.val ⟨rfl,rfl⟩)
 rw [List.getElem?_append_right (by omega),hk,Nat.sub_self]
 rfl
theorem Hh (r:List Tie):eqD (aB r) (aB r)=true:=by
 unfold aB
 rw [eqD]
 induction r with
 | nil=>rfl
 | cons b bs ih=>
  rw [List.map_cons,mH,ih]
  simp [aO,eqD,mH]
theorem Hi (r:List Tie):okD 8 (aB r)=true:=Km aO r fun t=>rfl
theorem Wg2.Hj {d:Dat} {o p:Option Dat} {Q:RV→Prop} (hk:okD 8 d=true) (he:eqD d d=true) (k:Q (.val (.bl true))) (ho:o=some d) (hp:p=some d):Wg2 gEq o p Q:=
 ⟨_,_,_,ho,hp,by unfold gEq;rw [hk,he];rfl,k⟩
noncomputable def kM (n k:Nat) (r:List Tie):Dat:=.tup [.int (n:Nat),.int (k:Nat),aB r]
theorem xx {ρ ρ1:Env} {it:FI} {k:Nat} (r:List Tie) (ms:List Int) {Q:Val→Env→Prop} (q:Q (.new (aB (keep r ms))) ρ1) (hit:it ρ=some (fu (r.map aO) (ms.map Dat.int),ρ1)) (hk:ρ1.length=k) (hk0:k≠0) (hl:r.length≤SZ):We (bF it 2 (bT [k,k+1]) (tV (e2 gGt (eV (k+1)) (eC (.int 0)))) (eV k)) ρ Q:=by
 refine We.Mi r ms (fun p=>decide (0<p.2)) q hit hk hk0 hl fun x=>?_
 refine Wt.V (We.e2 (We.v (d:=.int x.2) ?_ (We.c (Wg2.gt (Wb.mk ⟨rfl,rfl⟩) rfl rfl))))
 rw [List.getElem?_append_right (by omega),hk]
 simp
theorem Hl (n k:Nat) (hn:n≤10) (hk1:1≤k) (hk6:k≤6) (r:List Tie) (ms:List Int) (hr:Ends n r) (hl:r.length≤1000) (ha:bC k r ms):vg [.int (n:Nat),aB r,.int (k:Nat)]=some (.val (kM n k (keep r ms))):=by
 obtain ⟨ms',el,al⟩:=fP n k hn hk1 hk6 r hr hl
 rw [al.uniq ha] at el
 apply Wr.eq
 unfold vg
 (refine Dm.Wr.fn ?_ rfl rfl;dsimp only [List.map,List.replicate,List.cons_append,List.nil_append])
 refine Ws.seq (Ws.A (We.F (Was.cons (We.v rfl (Was.cons (We.v rfl (Was.cons (We.v rfl (Was.nil (WF.box el ?_ rfl rfl rfl rfl)))))))) ) (by decide))
 refine WA.new ?_ (by first | (dsimp only [List.set];first | done | rfl) | rfl)
 refine Ws.R (We.T (Was.cons (We.v rfl (Was.cons (We.v rfl (Was.cons (xx (ρ1:=[.sh (.int (n:Nat)),.sh (aB r),.sh (.int (k:Nat)),.sh (.lst (ms.map Dat.int))]) r ms (k:=4) ?_ ?_ rfl (by decide) (Nat.le_trans hl (by decide)))))))))
 ·exact Was.nil (WT.mk rfl rfl rfl (Nat.le_of_ble_eq_true rfl))
 ·rfl
theorem xy {ts:List Tie} {a b:Int} (S:Int→Int) (c:Con ts a b) (h:S a≠S b):∃ t∈ts,S t.a≠S t.b:=by
 apply Classical.byContradiction
 intro hc
 have all:∀ t∈ts,S t.a=S t.b:=fun t ht=>Classical.byContradiction fun z=>hc ⟨t,ht,z⟩
 have key:∀ {x y:Int},Con ts x y→S x=S y:=fun c=>by
  induction c with
  | refl x=>rfl
  | tie t m=>exact all t m
  | symm _ ih=>exact ih.symm
  | trans _ _ i1 i2=>exact i1.trans i2
 exact h (key c)
theorem qB:∀ (k:Nat) (l:List (Tie×Int)),(∀ j:Int,1≤j→j≤k→∃ p∈l,p.2=j)→k≤l.length
 | 0,l,_=>Nat.zero_le _
 | k+1,l,h=>by
  obtain ⟨p,hp,ep⟩:=h ((k+1:Nat):Int) (by omega) (by omega)
  have ih:=qB k (l.filter fun p=>decide (p.2≠((k+1:Nat):Int))) fun j j1 j2=>by
   obtain ⟨q,hq,eq⟩:=h j j1 (by omega)
   exact ⟨q,List.mem_filter.mpr ⟨hq,decide_eq_true (by omega)⟩,eq⟩
  have:=filter_lt (fun _=>true) (fun p:Tie×Int=>decide (p.2≠((k+1:Nat):Int))) l (fun _ _ _=>rfl) ⟨p,hp,rfl,by simp [ep]⟩
  have:=List.length_filter_le (fun _:Tie×Int=>true) l
  omega
noncomputable def fE (S:Int→Int) (t:Int) (r:List Tie):List Tie:=r.filter fun x=>decide (t≤x.m)&&decide (S x.a≠S x.b)
theorem CY {r:List Tie} {ms:List Int} {j:Int} {t:Tie} (h:t∈lay r ms j):(t,j)∈r.zip ms:=by
 unfold lay at h
 obtain ⟨q,hq,rfl⟩:=List.mem_map.mp h
 obtain ⟨h1,h2⟩:=List.mem_filter.mp hq
 have:q.2=j:=of_decide_eq_true h2
 rw [← this]
 exact h1
theorem nA (k:Nat) (n:Int) (S:Int→Int) (t0:Int):∀ (r:List Tie) (ms:List Int) (lo:Int),Good n lo r→bC k r ms→fE S t0 (keep r ms)=fE S t0 r∨k≤(fE S t0 (keep r ms)).length
 | [],[],_,_,_=>.inl rfl
 | t::r,m::ms,lo,hg,ha=>by
  obtain ⟨g1,g2,g3,g4,g5⟩:=hg
  rcases nA k n S t0 r ms (t.m+1) g5 ha.1 with ih | ih
  ·rw [dc]
   by_cases h0:0<m
   ·rw [if_pos h0]
    left
    unfold fE at ih ⊢
    rw [List.filter_cons,List.filter_cons,ih]
   ·rw [if_neg h0]
    by_cases hc:(decide (t0≤t.m)&&decide (S t.a≠S t.b))=true
    ·right
     rw [Bool.and_eq_true,decide_eq_true_eq,decide_eq_true_eq] at hc
     have hm:∀ j:Int,1≤j→j≤k→Con (lay r ms j) t.a t.b:=by
      rcases ha.2 with ⟨_,h⟩ | ⟨h1,_⟩
      ·exact h
      ·omega
     have e:fE S t0 (keep r ms)=((r.zip ms).filter fun p=>decide (0<p.2)&&(decide (t0≤p.1.m)&&decide (S p.1.a≠S p.1.b))).map (·.1):=by
      unfold fE keep
      rw [List.filter_map,List.filter_filter]
      congr 2
      funext p
      simp [Bool.and_comm]
     rw [e,List.length_map]
     refine qB k _ fun j j1 j2=>?_
     obtain ⟨u,hu,hs⟩:=xy S (hm j j1 j2) hc.2
     have hz:=CY hu
     have hur:u∈r:=(List.of_mem_zip hz).1
     have:=Good.lo g5 u hur
     refine ⟨(u,j),List.mem_filter.mpr ⟨hz,?_⟩,rfl⟩
     simp only [Bool.and_eq_true,decide_eq_true_eq]
     exact ⟨by omega,by omega,hs⟩
    ·left
     have hf:(decide (t0≤t.m)&&decide (S t.a≠S t.b))=false:=by cases hq:(decide (t0≤t.m)&&decide (S t.a≠S t.b)) with | false=>rfl | true=>exact absurd hq hc
     unfold fE at ih ⊢
     rw [List.filter_cons,hf,ih]
     simp
  ·right
   rw [dc]
   by_cases h0:0<m
   ·rw [if_pos h0]
    unfold fE at ih ⊢
    rw [List.filter_cons]
    split
    ·rw [List.length_cons];omega
    ·exact ih
   ·rw [if_neg h0];exact ih
 | [],_::_,_,_,h=>h.elim
 | _::_,[],_,_,h=>h.elim
theorem qC:∀ (r:List Tie) (ms:List Int) (j:Int),1≤j→lay (keep r ms) (ms.filter fun m=>decide (0<m)) j=lay r ms j∨r.length≠ms.length
 | [],[],_,_=>.inl rfl
 | [],_::_,_,_=>.inr (by simp)
 | _::_,[],_,_=>.inr (by simp)
 | t::r,m::ms,j,hj=>by
  rcases qC r ms j hj with ih | ih
  ·left
   rw [dc,iy]
   by_cases h:0<m
   ·rw [if_pos h,List.filter_cons_of_pos (by simpa using h),iy,ih]
   ·rw [if_neg h,List.filter_cons_of_neg (by simpa using h),ih,if_neg (by omega)]
  ·right
   simpa using ih
theorem qD {k:Int}:∀ {r:List Tie} {ms:List Int},bC k r ms→bC k (keep r ms) (ms.filter fun m=>decide (0<m))
 | [],[],_=>trivial
 | t::r,m::ms,h=>by
  have ih:=qD h.1
  rw [dc]
  by_cases q:0<m
  ·rw [if_pos q,List.filter_cons_of_pos (by simpa using q)]
   refine ⟨ih,?_⟩
   have e:∀ j,1≤j→lay (keep r ms) (ms.filter fun m=>decide (0<m)) j=lay r ms j:=fun j hj=>by
    rcases qC r ms j hj with z | z
    ·exact z
    ·exact absurd h.1.len.symm z
   rcases h.2 with ⟨h0,_⟩ | ⟨h1,h2,h3,h4⟩
   ·omega
   ·exact .inr ⟨h1,h2,by rw [e m h1];exact h3,fun j j1 j2=>by rw [e j j1];exact h4 j j1 j2⟩
  ·rw [if_neg q,List.filter_cons_of_neg (by simpa using q)]
   exact ih
 | [],_::_,h=>h.elim
 | _::_,[],h=>h.elim
theorem iz:∀ (r:List Tie) (ms:List Int),(keep r ms).Sublist r
 | [],ms=>by unfold keep;simp
 | _::_,[]=>by unfold keep;simp
 | t::r,m::ms=>by
  rw [dc]
  split
  ·exact (iz r ms).cons_cons t
  ·exact (iz r ms).cons t
theorem iA (n i:Int) (h0:0≤i) (h1:i<n):kD [.int n,.int i]=some (.val (.bl true)):=by
 apply Wr.eq
 unfold kD
 (refine Dm.Wr.fn ?_ rfl rfl;dsimp only [List.map,List.replicate,List.cons_append,List.nil_append])
 refine Ws.R (We.F (Was.cons (We.v rfl (Was.cons (We.c (Was.cons (We.e2 (We.v rfl (We.c (Wg2.sub ?_ rfl rfl))))))))))
 exact Was.nil (WF.val (c_ i 0 (n-1) h0 (by omega)) rfl rfl rfl)
theorem xA (m:Int) (h0:0≤m) (h1:m≤Z30):uY [.int m]=some (.val (.bl true)):=by
 apply Wr.eq
 unfold uY
 (refine Dm.Wr.fn ?_ rfl rfl;dsimp only [List.map,List.replicate,List.cons_append,List.nil_append])
 refine Ws.R (We.F (Was.cons (We.v rfl (Was.cons (We.c (Was.cons (We.e2 (We.c (We.c (Wg2.pow (z:=Z30) ?_ rfl rfl (by decide) (by decide)))))))))))
 exact Was.nil (WF.val (c_ m 0 Z30 h0 h1) rfl rfl rfl)
theorem xB (n:Int) (t:Tie) (m0:0≤t.m) (m1:t.m≤Z30) (a0:0≤t.a) (a1:t.a<n) (b0:0≤t.b) (b1:t.b<n):uZ [.int n,aO t]=some (.val (.bl true)):=by
 apply Wr.eq
 unfold uZ aO
 (refine Dm.Wr.fn ?_ rfl rfl;dsimp only [List.map,List.replicate,List.cons_append,List.nil_append])
 repeat array_get_dec
 refine Wif.no rfl ?_
 repeat array_get_dec
 refine Wif.no rfl ?_
 repeat array_get_dec
 refine WF.val (xA t.m m0 m1) ?_ rfl rfl
 repeat array_get_dec
 refine WF.val (iA n t.a a0 a1) ?_ rfl rfl
 repeat array_get_dec
 refine WF.val (iA n t.b b0 b1) ?_ rfl rfl
 repeat array_get_dec
 rfl
theorem xC (n:Int) (t:Tie) (m0:0≤t.m) (m1:t.m≤Z30) (a0:0≤t.a) (ab:t.a≤t.b) (b1:t.b<n):u5 [.int n,aO t]=some (.val (.bl true)):=by
 apply Wr.eq
 unfold u5
 (refine Dm.Wr.fn ?_ rfl rfl;dsimp only [List.map,List.replicate,List.cons_append,List.nil_append])
 repeat array_get_dec
 refine WF.val (xB n t m0 m1 a0 (by omega) (by omega) b1) ?_ rfl rfl
 repeat array_get_dec
 exact congrArg (fun b=>RV.val (Dat.bl b)) (decide_eq_true ab)
noncomputable abbrev CZ (D:List Tie):Prop:=D.Pairwise fun t u=>t.m<u.m
theorem C0 (n:Nat):ups 1 n=(List.range n).map fun i:Nat=>Dat.int (1+(i:Int)):=rfl
theorem oB (n:Int) (h1:1≤n) (h2:n≤10):uX [.int n]=some (.val (.bl true)):=by
 apply Wr.eq
 unfold uX
 (refine Dm.Wr.fn ?_ rfl rfl;dsimp only [List.map,List.replicate,List.cons_append,List.nil_append])
 repeat array_get_dec
 refine WF.val (c_ n 1 10 h1 h2) ?_ rfl rfl
 repeat array_get_dec
 rfl
theorem oE (n:Int) (h1:1≤n) (h2:n≤6):kE [.int n]=some (.val (.bl true)):=by
 apply Wr.eq
 unfold kE
 (refine Dm.Wr.fn ?_ rfl rfl;dsimp only [List.map,List.replicate,List.cons_append,List.nil_append])
 repeat array_get_dec
 refine WF.val (c_ n 1 6 h1 h2) ?_ rfl rfl
 repeat array_get_dec
 rfl
theorem xD (D:List Tie) (h:CZ D) (hl:D.length≤75):u6 [.lst ((D.map (·.m)).map Dat.int)]=some (.val (.bl true)):=by
 have sz:1000≤SZ:=by decide
 apply Wr.eq
 unfold u6
 (refine Dm.Wr.fn ?_ rfl rfl;dsimp only [List.map,List.replicate,List.cons_append,List.nil_append])
 refine Ws.R (We.B (Was.cons ?_))
 have hit:iR2 (eC (.int 1)) (eB d9 [eV 0]) [.sh (.lst ((D.map (·.m)).map Dat.int))]=some ((List.range ((D.length:Int)-1).toNat).map (fun i:Nat=>Dat.int (1+(i:Int))),[.sh (.lst ((D.map (·.m)).map Dat.int))]):=by
  refine Wi.get ?_
  repeat array_get_dec
  refine ⟨⟨?_,rfl⟩,?_⟩
  ·rw [C0,List.length_map]
  ·rw [List.length_map];unfold BIG;omega
 refine We.Map (fun i:Nat=>Dat.int (1+(i:Int))) (List.range ((D.length:Int)-1).toNat) (fun _=>true) Dat.bl ?_ hit rfl (by decide) (by simp;omega) (fun i hi=>?_)
 ·refine Was.nil (WB.all (fun b=>b) (xs:=(List.range ((D.length:Int)-1).toNat).map fun _=>true) ?_ rfl)
  exact WR.val (congrArg (fun b=>RV.val (Dat.bl b)) (by simp))
 ·have hi':=List.mem_range.mp hi
  repeat array_get_dec
  refine Wg2.ixL (enc:=Dat.int) (xs:=D.map (·.m)) (i:=1+(i:Int)-1) (by omega) (by rw [List.length_map];omega) ?_ rfl rfl
  repeat array_get_dec
  refine Wg2.ixL (enc:=Dat.int) (xs:=D.map (·.m)) (i:=1+(i:Int)) (by omega) (by rw [List.length_map];omega) ?_ rfl rfl
  repeat array_get_dec
  have lt:=List.pairwise_iff_getElem.mp h (1+(i:Int)-1).toNat (1+(i:Int)).toNat (by omega) (by omega) (by omega)
  refine ⟨congrArg Dat.bl (decide_eq_true ?_),rfl⟩
  rw [List.getElem_map,List.getElem_map]
  exact lt
structure Rcd (n:Nat) (r:List Tie):Prop where
 ok:∀ t∈r,0≤t.m∧t.m≤Z30∧0≤t.a∧t.a≤t.b∧t.b<n
 up:CZ r
 len:r.length≤60
theorem Rcd.sub {n:Nat} {r q:List Tie} (h:Rcd n r) (s:q.Sublist r):Rcd n q:=⟨fun t ht=>h.ok t (s.subset ht),h.up.sublist s,Nat.le_trans s.length_le h.len⟩
theorem Rcd.ends {n:Nat} {r:List Tie} (h:Rcd n r):Ends n r:=fun t ht=>by
 obtain ⟨h1,h2,h3,h4,h5⟩:=h.ok t ht
 exact ⟨h3,by omega,by omega,h5⟩
theorem Rcd.good {n:Nat} {r:List Tie} (h:Rcd n r):Good n 0 r:=by
 have go:∀ (r:List Tie) (lo:Int),(∀ t∈r,0≤t.a∧t.a≤t.b∧t.b<(n:Nat))→(∀ t∈r,lo≤t.m)→CZ r→Good n lo r:=fun r=>by
  induction r with
  | nil=>intro lo _ _ _;trivial
  | cons t r ih=>
   intro lo h1 h2 h3
   obtain ⟨p1,p2⟩:=List.pairwise_cons.mp h3
   obtain ⟨q1,q2,q3⟩:=h1 t List.mem_cons_self
   exact ⟨h2 t List.mem_cons_self,q1,q2,q3,ih (t.m+1) (fun u hu=>h1 u (List.mem_cons_of_mem _ hu)) (fun u hu=>by have:=p1 u hu;omega) p2⟩
 exact go r 0 (fun t ht=>(h.ok t ht).2.2) (fun t ht=>(h.ok t ht).1) h.up
theorem oF (n:Nat) (n1:1≤n) (n10:n≤10) (r:List Tie) (h:Rcd n r):vd [.int (n:Nat),aB r]=some (.val (.bl true)):=by
 have sz:1000≤SZ:=by decide
 have hl:=h.len
 apply Wr.eq
 unfold vd
 (refine Dm.Wr.fn ?_ rfl rfl;dsimp only [List.map,List.replicate,List.cons_append,List.nil_append])
 repeat array_get_dec
 refine WF.val (oB n (by omega) (by omega)) ?_ rfl rfl
 repeat array_get_dec
 refine Wif.no rfl ?_
 repeat array_get_dec
 refine Wif.no rfl ?_
 repeat array_get_dec
 refine Wif.no (decide_eq_false (by rw [List.length_map];omega)) ?_
 repeat array_get_dec
 refine We.sW aO r (fun _=>true) Dat.bl ?_ rfl rfl rfl (by decide) (by omega) (fun t ht=>?_)
 rotate_left
 ·obtain ⟨h1,h2,h3,h4,h5⟩:=h.ok t ht
  repeat array_get_dec
  refine WF.val (xC n t h1 h2 h3 h4 h5) ?_ rfl rfl
  repeat array_get_dec
  exact ⟨rfl,rfl⟩
 repeat array_get_dec
 refine WB.all (fun b=>b) (xs:=r.map fun _=>true) ?_ rfl
 repeat array_get_dec
 refine Wif.no (by simp) ?_
 repeat array_get_dec
 refine We.sW aO r (·.m) Dat.int ?_ rfl rfl rfl (by decide) (by omega) (fun t ht=>?_)
 rotate_left
 ·repeat array_get_dec
  exact ⟨rfl,rfl⟩
 repeat array_get_dec
 refine WF.val (xD r h.up (by omega)) ?_ rfl rfl
 repeat array_get_dec
 rfl
structure Net (n k:Nat) (N:List Tie):Prop where
 rc:Rcd n N
 num:∃ ms,bC k N ms∧(0:Int)∉ms
theorem xE (n k:Nat) (n1:1≤n) (n10:n≤10) (k1:1≤k) (k6:k≤6) (N:List Tie) (h:Net n k N):ve [kM n k N]=some (.val (.bl true)):=by
 have hl:=h.rc.len
 obtain ⟨ms,el,al⟩:=fP n k n10 k1 k6 N h.rc.ends (by omega)
 obtain ⟨ms',al',h0⟩:=h.num
 rw [al'.uniq al] at h0
 apply Wr.eq
 unfold ve kM
 (refine Dm.Wr.fn ?_ rfl rfl;dsimp only [List.map,List.replicate,List.cons_append,List.nil_append])
 repeat array_get_dec
 refine Wif.no rfl ?_
 repeat array_get_dec
 refine Wif.no rfl ?_
 repeat array_get_dec
 refine WF.val (oE k (by omega) (by omega)) ?_ rfl rfl
 repeat array_get_dec
 refine Wif.no rfl ?_
 repeat array_get_dec
 refine WF.val (oF n n1 n10 N h.rc) ?_ rfl rfl
 repeat array_get_dec
 refine Wif.no rfl ?_
 repeat array_get_dec
 refine WF.box el ?_ rfl rfl rfl (by first | (dsimp only [List.set];first | done | rfl) | rfl)
 repeat array_get_dec
 refine Wg2.L7 (xs:=ms) ?_ rfl rfl
 repeat array_get_dec
 exact congrArg (fun b=>RV.val (Dat.bl b)) (by simp [h0])
theorem Rcd.of {n:Nat} {r:List Tie} (g:Good n 0 r) (hl:r.length≤60) (hm:∀ t∈r,t.m≤Z30):Rcd n r:=⟨fun t ht=>by
  obtain ⟨q1,q2,q3⟩:=Good.mem g t ht
  exact ⟨Good.lo g t ht,hm t ht,q1,q2,q3⟩,by
  have up:∀ (r:List Tie) (lo:Int),Good n lo r→CZ r:=fun r=>by
   induction r with
   | nil=>intro _ _;exact List.Pairwise.nil
   | cons t r ih=>
    intro lo g
    exact List.pairwise_cons.mpr ⟨fun u hu=>by have:=Good.lo g.2.2.2.2 u hu;omega,ih _ g.2.2.2.2⟩
  exact up r 0 g,hl⟩
noncomputable def dg (r:List Tie) (t:Int):List Tie:=r.filter fun x=>decide (t≤x.m)
theorem qE (r:List Tie) (hl:r.length≤1000) (t:Int):qj [aB r,.int t]=some (.new (aB (dg r t))):=by
 apply Wr.eq
 unfold qj
 (refine Dm.Wr.fn ?_ rfl rfl;dsimp only [List.map,List.replicate,List.cons_append,List.nil_append])
 refine Ws.R ?_
 refine We.CD aO r (fun x=>decide (t≤x.m)) id aO (d:=aB r) ?_ rfl rfl rfl (by decide) (by unfold SZ;omega) (fun u _=>?_) fun u _ _=>?_
 ·rw [List.map_id];rfl
 ·exact Wt.V (We.e2 (We.e2 (We.v rfl (We.c (Wg2.ix (We.v rfl (Wg2.ge (Wb.mk ⟨rfl,rfl⟩) rfl rfl)) rfl rfl rfl)))))
 ·exact We.v rfl (Wk.val ⟨rfl,rfl⟩)
theorem C1 (n a b:Int) (a0:0≤a) (a1:a<n) (b0:0≤b) (b1:b<n) (h:a≠b):u7 [.int n,.int a,.int b]=some (.val (.bl true)):=by
 apply Wr.eq
 unfold u7
 (refine Dm.Wr.fn ?_ rfl rfl;dsimp only [List.map,List.replicate,List.cons_append,List.nil_append])
 refine Ws.R (We.And (We.F (Was.cons (We.v rfl (Was.cons (We.v rfl (Was.nil (WF.val (iA n a a0 a1) ?_ rfl rfl))))))))
 refine Wb.mk (Wif.t (We.And (We.F (Was.cons (We.v rfl (Was.cons (We.v rfl (Was.nil (WF.val (iA n b b0 b1) ?_ rfl rfl)))))))))
 refine Wb.mk (Wif.t (We.e2 (We.v rfl (We.v rfl (Wg2.ne ?_ rfl rfl)))))
 rw [decide_eq_false h]
 rfl
theorem oG (n a b:Int) (a0:0≤a) (a1:a<n) (b0:0≤b) (b1:b<n) (h:a≠b):u9 [.int n,.int a,.int b]=some (.val .non):=by
 apply Wr.eq
 unfold u9
 (refine Dm.Wr.fn ?_ rfl rfl;dsimp only [List.map,List.replicate,List.cons_append,List.nil_append])
 refine Ws.If (Wt.Not (Wt.V (We.F (Was.cons (We.v rfl (Was.cons (We.v rfl (Was.cons (We.v rfl (Was.nil (WF.val (C1 n a b a0 a1 b0 b1 h) ?_ rfl rfl)))))))))))
 exact Wb.mk (Wif.f (Ws.nx rfl))
theorem Good.since {n:Int} {r:List Tie} {lo t:Int} (h:Good n lo r):Good n lo (dg r t):=h.filter _
theorem vC (r:List Tie) (t:Int):(dg r t).length≤r.length:=List.length_filter_le _ _
theorem kO (n:Nat) (hn:n≤40) (r:List Tie) (hg:Good n 0 r) (hl:r.length≤1000) (a b:Int) (a0:0≤a) (a1:a<n) (b0:0≤b) (b1:b<n) (h:a≠b) (most:Int) (m0:0≤most) (m1:most≤90) (t:Int) :
  ∃ ws o,ju [.int n,aB r,.int a,.int b,.int most,.int t]=some (.val (.tup [.int (ws.length:Nat),.lst (ws.map msD),dR o]))∧Apart n (dg r t) a b most ws o:=by
 obtain ⟨ws,o,e,A⟩:=b9 n hn (dg r t) hg.since.pl hg.since.nd (Nat.le_trans (vC r t) hl) a b a0 a1 b0 b1 most m0 m1
 refine ⟨ws,o,?_,A⟩
 apply Wr.eq
 unfold ju
 (refine Dm.Wr.fn ?_ rfl rfl;dsimp only [List.map,List.replicate,List.cons_append,List.nil_append])
 refine Ws.seq (Ws.E (We.F (Was.cons (We.v rfl (Was.cons (We.v rfl (Was.cons (We.v rfl (Was.nil (WF.val (oG n a b a0 a1 b0 b1 h) ?_ rfl rfl))))))))))
 refine Ws.seq (Ws.A (We.F (Was.cons (We.v rfl (Was.cons (We.F (Was.cons (We.v rfl (Was.cons (We.v rfl (Was.nil (WF.box (qE r hl t) ?_ rfl rfl rfl rfl))))))))))) (by decide))
 refine Was.cons (We.v rfl (Was.cons (We.v rfl (Was.cons (We.v rfl (Was.nil (WF.box e ?_ rfl rfl rfl rfl)))))))
 refine WA.val ?_ (by first | (dsimp only [List.set];first | done | rfl) | rfl)
 refine Ws.R (We.T (Was.cons (We.B (Was.cons (We.e2 (We.v rfl (We.c (Wg2.ix ?_ rfl rfl rfl))))))))
 refine Was.nil (WB.zB (enc:=msD) (xs:=ws) ?_ rfl)
 refine Was.cons (We.e2 (We.v rfl (We.c (Wg2.ix ?_ rfl rfl rfl))))
 refine Was.cons (We.e2 (We.v rfl (We.c (Wg2.ix ?_ rfl rfl rfl))))
 refine Was.nil (WT.mk ?_ rfl rfl (by exact Nat.le_of_ble_eq_true rfl))
 rfl
structure IsC (r:List Tie) (a b most:Int) (c:Nat):Prop where
 le:(c:Int)≤most
 low:∀ S:Int→Bool,S a=true→S b=false→c≤aR r S
 ex:(c:Int)=most∨∃ S:Int→Bool,S a=true∧S b=false∧aR r S=c
theorem Apart.isC {n:Nat} {r:List Tie} {a b most:Int} {ws:List (List Step)} {o:Option (List Int)} (A:Apart n r a b most ws o):IsC r a b most ws.length:=by
 refine ⟨A.le,fun S ha hb=>Ks A.ways ha hb,?_⟩
 cases o with
 | none=>exact .inl (A.all rfl)
 | some S=>
  obtain ⟨⟨_,_,h1,h2⟩,h3,_⟩:=A.side S rfl
  refine .inr ⟨fun x=>decide (x∈S),decide_eq_true h1,decide_eq_false h2,?_⟩
  rw [← h3]
  unfold dW
  rw [List.length_map]
  rfl
theorem IsC.symm {r:List Tie} {a b most:Int} {c:Nat} (h:IsC r a b most c):IsC r b a most c:=by
 refine ⟨h.le,fun S hb ha=>?_,h.ex.imp id fun ⟨S,h1,h2,h3⟩=>⟨fun x=>!S x,by simp [h2],by simp [h1],by rw [cZ];exact h3⟩⟩
 have:=h.low (fun x=>!S x) (by simp [ha]) (by simp [hb])
 rwa [cZ] at this
theorem IsC.mono {r r':List Tie} {a b most most':Int} {c c':Nat} (h:IsC r a b most c) (h':IsC r' a b most' c') (hm:most'≤most) (hc:∀ S,aR r' S≤aR r S):c'≤c:=by
 rcases h.ex with e | ⟨S,h1,h2,h3⟩
 ·have:=h'.le;omega
 ·have:=h'.low S h1 h2;have:=hc S;omega
theorem IsC.uniq {r:List Tie} {a b most:Int} {c c':Nat} (h:IsC r a b most c) (h':IsC r a b most c'):c=c':=Nat.le_antisymm (h'.mono h (Int.le_refl _) fun _=>Nat.le_refl _) (h.mono h' (Int.le_refl _) fun _=>Nat.le_refl _)
theorem nB:∀ (ns:List Int) (a:Int),(cX a ns=a∨cX a ns∈ns)∧cX a ns≤a∧∀ x∈ns,cX a ns≤x
 | [],a=>⟨.inl rfl,Int.le_refl _,by simp⟩
 | y::ns,a=>by
  obtain ⟨h1,h2,h3⟩:=nB ns (if y<a then y else a)
  rw [cX]
  by_cases h:y<a
  ·rw [if_pos h] at h1 h2 h3 ⊢
   refine ⟨.inr ?_,by omega,fun x hx=>?_⟩
   ·rcases h1 with e | e
    ·rw [e];simp
    ·exact List.mem_cons_of_mem _ e
   ·rcases List.mem_cons.mp hx with rfl | hx
    ·exact h2
    ·exact h3 x hx
  ·rw [if_neg h] at h1 h2 h3 ⊢
   refine ⟨h1.imp id fun e=>List.mem_cons_of_mem _ e,h2,fun x hx=>?_⟩
   rcases List.mem_cons.mp hx with rfl | hx
   ·omega
   ·exact h3 x hx
theorem WB.Mj {n:Int} {ns:List Int} {o:Option (List Dat)} {K:RV→Prop} (k:K (.val (.int (cX n ns)))) (ho:o=some [.lst ((n::ns).map Dat.int)]):WB ni o K:=by
 refine ⟨_,_,ho,?_,k⟩
 unfold ni
 dsimp only
 rw [sZ]
theorem Ei {n:Nat} (n1:1≤n) {a b:Int} (a0:0≤a) (a1:a<n) (b0:0≤b) (b1:b<n) (S:Int→Bool) (h:S a≠S b) :
  ∃ x,x<2 ^ (n-1)-1∧(decide (a∈fO n (1+x)) != decide (b∈fO n (1+x)))=true∧∀ l:List Tie,Pl n l→(dW l (fO n (1+x))).length=aR l S:=by
 obtain ⟨S,z0,ho,sK⟩:∃ T:Int→Bool,T 0=false∧T a≠T b∧∀ l,aR l T=aR l S:=by
  cases h0:S 0 with
  | false=>exact ⟨S,h0,h,fun _=>rfl⟩
  | true=>
   refine ⟨fun q=>!S q,by simp [h0],by simpa using h,fun l=>cZ l S⟩
 obtain ⟨x,hx,hb⟩:=vz (n-1) fun p=>S (1+(p:Int))
 have hm:∀ {q:Int},0≤q→q<n→decide (q∈fO n x)=S q:=fun q0 q1=>CU z0 hb q0 q1
 have x1:1≤x:=by
  rcases Nat.eq_zero_or_pos x with e | e
  ·exfalso
   subst e
   have e0:fO n 0=[]:=by
    unfold fO
    rw [List.map_eq_nil_iff,List.filter_eq_nil_iff]
    intro p _
    simp
   have e1:=hm a0 a1
   have e2:=hm b0 b1
   rw [e0] at e1 e2
   exact ho (e1.symm.trans e2)
  ·exact e
 refine ⟨x-1,by omega,?_⟩
 have e:1+(x-1)=x:=by omega
 rw [e,hm a0 a1,hm b0 b1]
 refine ⟨by simpa using ho,fun l hl=>?_⟩
 rw [i8,← sK l]
 exact qy fun u hu=>by
  have p:=hl u hu
  exact ⟨hm p.1 p.2.1,hm p.2.2.1 p.2.2.2⟩
theorem qF {n:Nat} (n1:1≤n) (n10:n≤10) (r:List Tie) (hp:Pl n r) (hl:r.length≤1000) {a b:Int} (a0:0≤a) (a1:a<n) (b0:0≤b) (b1:b<n) (hab:a≠b) :
  ∃ w:Nat,qp [.int n,aB r,.int a,.int b]=some (.val (.int (w:Nat)))∧∀ k:Nat,IsC r a b k (min k w):=by
 have p2:2 ^ (n-1)≤512:=Nat.le_trans (Nat.pow_le_pow_right (show 2>0 by decide) (show n-1≤9 by omega)) (by decide)
 let L:List (List Int):=((List.range (2 ^ (n-1)-1)).map fun x=>fO n (1+x))
 let p:List Int→Bool:=fun S=>decide (a∈S) != decide (b∈S)
 obtain ⟨x0,q1,q2,_⟩:=Ei n1 a0 a1 b0 b1 (fun q=>decide (q=a)) (by simp [hab.symm])
 have m0:fO n (1+x0)∈L.filter p:=List.mem_filter.mpr ⟨List.mem_map.mpr ⟨x0,List.mem_range.mpr q1,rfl⟩,q2⟩
 obtain ⟨y,ys,ey⟩:∃ y ys,(L.filter p).map (fun S=>((dW r S).length:Int))=y::ys:=by
  cases e:L.filter p with
  | nil=>rw [e] at m0;cases m0
  | cons s ss=>exact ⟨_,_,rfl⟩
 obtain ⟨s1,s2,s3⟩:=nB ys y
 have mem:cX y ys∈(L.filter p).map (fun S=>((dW r S).length:Int)):=by
  rw [ey];rcases s1 with e | e
  ·rw [e];exact List.mem_cons_self
  ·exact List.mem_cons_of_mem _ e
 have low:∀ z∈(L.filter p).map (fun S=>((dW r S).length:Int)),cX y ys≤z:=by
  rw [ey];intro z hz
  rcases List.mem_cons.mp hz with rfl | hz
  ·exact s2
  ·exact s3 z hz
 obtain ⟨T,hT,eT⟩:=List.mem_map.mp mem
 have hw:∀ S:Int→Bool,S a≠S b→(dW r T).length≤aR r S:=fun S h=>by
  obtain ⟨x,q1,q2,q3⟩:=Ei n1 a0 a1 b0 b1 S h
  have:=low _ (List.mem_map.mpr ⟨fO n (1+x),List.mem_filter.mpr ⟨List.mem_map.mpr ⟨x,List.mem_range.mpr q1,rfl⟩,q2⟩,rfl⟩)
  rw [← eT,q3 r hp] at this
  omega
 refine ⟨(dW r T).length,?_,fun k=>⟨by omega,fun S h1 h2=>?_,?_⟩⟩
 ·apply Wr.eq
  unfold qp
  (refine Dm.Wr.fn ?_ rfl rfl;dsimp only [List.map,List.replicate,List.cons_append,List.nil_append])
  refine Ws.R (We.B (Was.cons ?_))
  have hit:iS (eF qo [(eV 0)]) [.sh (.int n),.sh (aB r),.sh (.int a),.sh (.int b)]=some (L.map tupI,[.sh (.int n),.sh (aB r),.sh (.int a),.sh (.int b)]):=by
   refine Wi.get (Wi.S (We.F (Was.cons (We.v rfl (Was.nil (WF.box (z8 n n1 n10) ?_ rfl rfl rfl rfl))))))
   exact Wk.new ⟨_,rfl,rfl,rfl⟩
  have lL:L.length≤SZ:=by rw [List.length_map,List.length_range];unfold SZ;omega
  refine We.Comp tupI L p (fun S=>.int ((dW r S).length:Nat)) ?_ hit rfl (by decide) lL (fun S _=>?_) (fun S _ _=>?_)
  ·refine Was.nil (WB.Mj (n:=y) (ns:=ys) ?_ ?_)
   ·rw [eT];exact rfl
   ·rw [← ey,List.map_map];rfl
  ·refine Wt.V (We.e2 (We.e2 (We.v rfl (We.v rfl (Wg2.inT (xs:=S) ?_ rfl rfl)))))
   refine We.e2 (We.v rfl (We.v rfl (Wg2.inT (xs:=S) ?_ rfl rfl)))
   exact Wg2.neb (Wb.mk ⟨rfl,rfl⟩) rfl rfl
  ·refine We.B (Was.cons (We.F (Was.cons (We.v rfl (Was.cons (We.v rfl (Was.nil (WF.box (G_ r hl S) ?_ rfl rfl rfl rfl))))))))
   refine Was.nil (WB.zB (enc:=Dat.int) (xs:=dW r S) ?_ rfl)
   exact Wk.val ⟨rfl,rfl⟩
 ·exact Nat.le_trans (Nat.min_le_right _ _) (hw S (by rw [h1,h2];decide))
 ·by_cases h:k≤(dW r T).length
  ·exact .inl (by rw [Nat.min_eq_left h])
  ·refine .inr ?_
   have tp:=(List.mem_filter.mp hT).2
   rw [Nat.min_eq_right (by omega)]
   cases ha:decide (a∈T) with
   | true => 
    refine ⟨fun q=>decide (q∈T),ha,?_,(i8 r T).symm⟩
    cases hb:decide (b∈T) with
    | false=>exact hb
    | true=>simp only [p,ha,hb] at tp;cases tp
   | false=>
    refine ⟨fun q=>!decide (q∈T),by show (!decide (a∈T))=true;rw [ha];rfl,?_,by rw [cZ];exact (i8 r T).symm⟩
    cases hb:decide (b∈T) with
    | true=>show (!decide (b∈T))=false;rw [hb];rfl
    | false=>simp only [p,ha,hb] at tp;cases tp
theorem IsC.kept {r K:List Tie} {a b:Int} {k c:Nat} (h:IsC r a b k c) (hs:K.Sublist r) (hK:∀ S:Int→Bool,min k (aR r S)≤aR K S):IsC K a b k c:=by
 have up:∀ S:Int→Bool,aR K S≤aR r S:=fun S=>by unfold aR;exact (hs.filter _).length_le
 have hk:=h.le
 refine ⟨h.le,fun S h1 h2=>?_,?_⟩
 ·have:=h.low S h1 h2;have:=hK S;omega
 ·rcases h.ex with e | ⟨S,h1,h2,e⟩
  ·exact .inl e
  ·have:=h.low S h1 h2;have:=hK S;have:=up S
   by_cases q:c<k
   ·exact .inr ⟨S,h1,h2,by omega⟩
   ·exact .inl (by omega)
theorem jC (r:List Tie) (t:Int) (S:Int→Bool):aR (dg r t) S=(fE (fun x=>if S x then 1 else 0) t r).length:=by
 unfold aR dg fE
 rw [List.filter_filter]
 congr 1
 apply List.filter_congr
 intro x _
 unfold over
 cases h1:S x.a<;>cases h2:S x.b<;>simp [h1,h2]
theorem C2 {n:Int} {r:List Tie} {t:Int} (g:Good n 0 r) (h:t≤0):dg r t=r:=by
 unfold dg
 apply List.filter_eq_self.mpr
 intro u hu
 exact decide_eq_true (by have:=g.lo u hu;omega)
theorem IsC.net {n:Int} {r:List Tie} {ms:List Int} {a b t:Int} {k c:Nat} (g:Good n 0 r) (al:bC k r ms) (h:IsC (dg r t) a b k c):IsC (dg (keep r ms) t) a b k c:=by
 refine h.kept (List.Sublist.filter _ (iz r ms)) fun S=>?_
 rw [jC,jC]
 rcases nA k n (fun x=>if S x then 1 else 0) t r ms 0 g al with e | e
 ·rw [e];omega
 ·omega
theorem qG (n k:Nat) (n1:1≤n) (n10:n≤10) (k1:1≤k) (k6:k≤6) (N:List Tie) (h:Net n k N):vf [kM n k N]=some (.val .non):=by
 apply Wr.eq
 unfold vf
 (refine Dm.Wr.fn ?_ rfl rfl;dsimp only [List.map,List.replicate,List.cons_append,List.nil_append])
 exact Ws.If (Wt.Not (Wt.V (We.F (Was.cons (We.v rfl (Was.nil (WF.val (xE n k n1 n10 k1 k6 N h) (Wb.mk (Wif.f (Ws.nx rfl))) rfl rfl)))))))
theorem C3 (n k:Nat) (n1:1≤n) (n10:n≤10) (k1:1≤k) (k6:k≤6) (N:List Tie) (h:Net n k N) (a b:Int) (a0:0≤a) (a1:a<n) (b0:0≤b) (b1:b<n) (hab:a≠b) (t:Int) :
  ∃ (c:Nat) (d1 d2:Dat),kF [kM n k N,.int a,.int b,.int t]=some (.val (.tup [.int (c:Nat),d1,d2]))∧IsC (dg N t) a b k c:=by
 have gN:=h.rc.good
 have lN:=h.rc.len
 obtain ⟨ws,o,e,A⟩:=kO n (by omega) N gN (by omega) a b a0 a1 b0 b1 hab k (by omega) (by omega) t
 refine ⟨ws.length,.lst (ws.map msD),dR o,?_,A.isC⟩
 apply Wr.eq
 unfold kF
 (refine Dm.Wr.fn ?_ rfl rfl;dsimp only [List.map,List.replicate,List.cons_append,List.nil_append])
 refine Ws.seq (Ws.E (We.F (Was.cons (We.v rfl (Was.nil (WF.val (qG n k n1 n10 k1 k6 N h) ?_ rfl rfl))))))
 refine Ws.R (We.F (Was.cons (We.e2 (We.v rfl (We.c (Wg2.ix ?_ rfl rfl rfl))))))
 refine Was.cons (We.e2 (We.v rfl (We.c (Wg2.ix ?_ rfl rfl rfl))))
 refine Was.cons (We.v rfl (Was.cons (We.v rfl (Was.cons (We.e2 (We.v rfl (We.c (Wg2.ix ?_ rfl rfl rfl))))))))
 refine Was.cons (We.v rfl (Was.nil (WF.box e ?_ rfl rfl rfl rfl)))
 rfl
theorem Wt.due {f:List Dat→Option RV} {as:List FE} {j:Nat} {ρ ρ2:Env} {ds:List Dat} {c:Nat} {d1 d2:Dat} {Q:Bool→Env→Prop} (e:f ds=some (.val (.tup [.int (c:Nat),d1,d2]))) (h:Was as ρ fun xs ρ1=>pks ρ1 xs=some ds∧tks ρ1 xs=some (ds,ρ2)) (hj:ρ2[j]?=some (.sh (.int (c:Nat)))) (q:Q false ρ2) :
  Wt (tV (e2 gNe (e2 gIx (eF f as) (eC (.int 0))) (eV j))) ρ Q:=by
 obtain ⟨xs,ρ1,h1,h2,h3⟩:=h
 refine Wt.V (We.e2 (We.e2 (We.F ⟨xs,_,h1,WF.box e ?_ h2 rfl h3 rfl⟩)))
 refine We.c (Wg2.ix ?_ rfl rfl rfl)
 refine We.v hj (Wg2.ne (Wb.mk ?_) rfl rfl)
 rw [decide_eq_true rfl]
 exact q
theorem Ad (aH aW:Nat) {n:Nat} (n1:1≤n) (n10:n≤10) {r:List Tie} (hr:Rcd n r) {k:Nat} (k1:1≤k) (k6:k≤6) (t:Int) {a b:Int} (a0:0≤a) (a1:a<n) (b0:0≤b) (b1:b<n) (hab:a≠b) :
  vj aH aW [.int n,aB r,.int k,.int t,.int a,.int b]=some (.val (.bl true)):=by
 have lr:=hr.len
 have gr:=hr.good
 have fr:Fit n r:=⟨by omega,gr.pl,gr.nd,by omega⟩
 obtain ⟨ms,_,al⟩:=fP n k (by omega) k1 k6 r hr.ends (by omega)
 have Mk:=Hl n k (by omega) k1 k6 r ms hr.ends (by omega) al
 have sK:=iz r ms
 have net:Net n k (keep r ms):=⟨hr.sub sK,_,qD al,fun z=>by simpa using (List.mem_filter.mp z).2⟩
 obtain ⟨K,d1,d2,Ml,hK⟩:=z7 aH aW fr k1 k6
 have gK:Good n 0 K:=(hr.sub hK.sub).good
 obtain ⟨w,ew,hw⟩:=qF n1 n10 r gr.pl (by omega) a0 a1 b0 b1 hab
 have lS:(dg r t).length≤1000:=by have:=vC r t;omega
 obtain ⟨w2,ew2,hw2⟩:=qF n1 n10 (dg r t) gr.since.pl lS a0 a1 b0 b1 hab
 have iC:=hw k
 have iC2:=hw2 k
 generalize hc:min k w=c at iC
 generalize hc2:min k w2=c2 at iC2
 have H:∀ (x:List Tie),Good n 0 x→x.length≤60→∀ (t:Int) (c:Nat),IsC (dg x t) a b k c→∃ d1 d2,ju [.int n,aB x,.int a,.int b,.int k,.int t]=some (.val (.tup [.int (c:Nat),d1,d2])):=fun x gx lx t c hI=>by
  obtain ⟨ws,o,e,A⟩:=kO n (by omega) x gx (by omega) a b a0 a1 b0 b1 hab k (by omega) (by omega) t
  have:=A.isC.uniq hI
  rw [this] at e
  exact ⟨_,_,e⟩
 have s0:∀ {x:List Tie},Good n 0 x→dg x 0=x:=fun g=>C2 g (by decide)
 obtain ⟨_,_,h1⟩:=H r gr lr 0 c (by rw [s0 gr];exact iC)
 obtain ⟨_,_,h2⟩:=H K gK (Nat.le_trans hK.sub.length_le lr) 0 c (by rw [s0 gK];exact iC.kept hK.sub hK.low)
 obtain ⟨_,_,h3⟩:=H r gr lr t c2 iC2
 have N:∀ (a b:Int),0≤a→a<n→0≤b→b<n→a≠b→∀ (t:Int) (c:Nat),IsC (dg r t) a b k c→∃ d1 d2,kF [kM n k (keep r ms),.int a,.int b,.int t]=some (.val (.tup [.int (c:Nat),d1,d2])):=fun a b a0 a1 b0 b1 hab t c hI=>by
  obtain ⟨c',d1,d2,e,h'⟩:=C3 n k n1 n10 k1 k6 _ net a b a0 a1 b0 b1 hab t
  rw [h'.uniq (hI.net gr al)] at e
  exact ⟨_,_,e⟩
 obtain ⟨_,_,h4⟩:=N a b a0 a1 b0 b1 hab 0 c (by rw [s0 gr];exact iC)
 obtain ⟨_,_,h5⟩:=N b a b0 b1 a0 a1 hab.symm 0 c (by rw [s0 gr];exact iC.symm)
 obtain ⟨_,_,h6⟩:=N a b a0 a1 b0 b1 hab t c2 iC2
 have mn:∀ (k w c:Nat),min k w=c→(if (w:Int)<(k:Int) then (w:Int) else (k:Int))=(c:Int):=fun k w c h=>by split<;>omega
 apply Wr.eq
 unfold vj
 (refine Dm.Wr.fn ?_ rfl rfl;dsimp only [List.map,List.replicate,List.cons_append,List.nil_append])
 refine Ws.seq (Ws.A (We.F (Was.cons (We.v rfl (Was.cons ?_)))) (by decide))
 refine We.B (Was.cons (We.v rfl (Was.nil (WB.list ?_ rfl))))
 refine Was.cons (We.v rfl (Was.nil (WF.box Mk ?_ rfl rfl rfl rfl)))
 refine WA.val ?_ (by first | (dsimp only [List.set];first | done | rfl) | rfl)
 refine Ws.seq (Ws.A (We.e2 (We.F (Was.cons (We.v rfl (Was.cons ?_))))) (by decide))
 refine We.B (Was.cons (We.v rfl (Was.nil (WB.list ?_ rfl))))
 refine Was.cons (We.v rfl (Was.nil (WF.box Ml ?_ rfl rfl rfl rfl)))
 refine We.c (Wg2.ix ?_ rfl rfl rfl)
 refine WA.val ?_ (by first | (dsimp only [List.set];first | done | rfl) | rfl)
 refine Ws.seq (Ws.A ?_ (by decide))
 refine We.uV aO r (fun u=>decide (u.m∈K.map (·.m))) aO ?_ rfl rfl rfl (by decide) (by unfold SZ;omega) (fun u _=>?_) (fun u _ _=>?_)
 rotate_left
 ·refine Wt.V (We.e2 (We.e2 (We.v rfl (We.c (Wg2.ix ?_ rfl rfl rfl)))))
  refine We.v rfl (Wg2.inL (xs:=K.map (·.m)) (Wb.mk ⟨rfl,rfl⟩) rfl rfl)
 ·exact We.v rfl (Wk.val ⟨rfl,rfl⟩)
 rw [tN hK.sub gr.nd]
 refine WA.new ?_ (by first | (dsimp only [List.set];first | done | rfl) | rfl)
 refine Ws.seq (Ws.A (We.B (Was.cons (We.v rfl (Was.cons ?_)))) (by decide))
 refine We.F (Was.cons (We.v rfl (Was.cons (We.v rfl (Was.cons (We.v rfl (Was.cons (We.v rfl (Was.nil (WF.val ew ?_ rfl rfl))))))))))
 refine Was.nil (WB.min2 ?_ rfl)
 rw [mn k w c hc]
 refine WA.val ?_ (by first | (dsimp only [List.set];first | done | rfl) | rfl)
 refine Ws.seq (Ws.If (Wt.Or (Wt.due (ds:=[.int n,aB r,.int a,.int b,.int k]) h1 (ρ2:=[.sh (.int n),.sh (aB r),.sh (.int k),.sh (.int t),.sh (.int a),.sh (.int b),.sh (kM n k (keep r ms)),.sh (msI K),.ow (aB K),.sh (.int c),.un]) ?_ rfl (Wif.f ?_))))
 ·refine Was.cons (We.v rfl (Was.cons (We.B (Was.cons (We.v rfl (Was.nil (WB.list ?_ rfl)))))))
  exact Was.cons (We.v rfl (Was.cons (We.v rfl (Was.cons (We.v rfl (Was.nil ⟨rfl,rfl⟩))))))
 refine Wt.due (ds:=[kM n k (keep r ms),.int a,.int b]) h4 (Was.cons (We.v rfl (Was.cons (We.v rfl (Was.cons (We.v rfl (Was.nil ⟨rfl,rfl⟩))))))) rfl (Wif.f (Ws.nx ?_))
 refine Ws.seq (Ws.If (Wt.Or (Wt.due (ds:=[.int n,aB K,.int a,.int b,.int k]) h2 (ρ2:=[.sh (.int n),.sh (aB r),.sh (.int k),.sh (.int t),.sh (.int a),.sh (.int b),.sh (kM n k (keep r ms)),.sh (msI K),.sh (aB K),.sh (.int c),.un]) ?_ rfl (Wif.f ?_))))
 ·exact Was.cons (We.v rfl (Was.cons (We.w rfl (Was.cons (We.v rfl (Was.cons (We.v rfl (Was.cons (We.v rfl (Was.nil ⟨rfl,rfl⟩))))))))))
 refine Wt.due (ds:=[kM n k (keep r ms),.int b,.int a]) h5 (Was.cons (We.v rfl (Was.cons (We.v rfl (Was.cons (We.v rfl (Was.nil ⟨rfl,rfl⟩))))))) rfl (Wif.f (Ws.nx ?_))
 refine Ws.seq (Ws.A ?_ (by decide))
 refine We.uV aO r (fun u=>decide (u.m≥t)) aO ?_ rfl rfl rfl (by decide) (by unfold SZ;omega) (fun u _=>?_) (fun u _ _=>?_)
 rotate_left
 ·refine Wt.V (We.e2 (We.e2 (We.v rfl (We.c (Wg2.ix ?_ rfl rfl rfl)))))
  exact We.v rfl (Wg2.ge (Wb.mk ⟨rfl,rfl⟩) rfl rfl)
 ·exact We.v rfl (Wk.val ⟨rfl,rfl⟩)
 have es:r.filter (fun u=>decide (u.m≥t))=dg r t:=rfl
 rw [es]
 refine WA.new ?_ (by first | (dsimp only [List.set];first | done | rfl) | rfl)
 refine Ws.seq (Ws.A (We.B (Was.cons (We.v rfl (Was.cons ?_)))) (by decide))
 refine We.F (Was.cons (We.v rfl (Was.cons (We.w rfl (Was.cons (We.v rfl (Was.cons (We.v rfl (Was.nil (WF.val ew2 ?_ rfl rfl))))))))))
 refine Was.nil (WB.min2 ?_ rfl)
 rw [mn k w2 c2 hc2]
 refine WA.val ?_ (by first | (dsimp only [List.set];first | done | rfl) | rfl)
 refine Ws.seq (Ws.If (Wt.Or (Wt.due h3 (ρ2:=[.sh (.int n),.sh (aB r),.sh (.int k),.sh (.int t),.sh (.int a),.sh (.int b),.sh (kM n k (keep r ms)),.sh (msI K),.sh (aB K),.sh (.int c2),.ow (aB (dg r t))]) ?_ rfl (Wif.f ?_))))
 ·refine Was.cons (We.v rfl (Was.cons (We.B (Was.cons (We.v rfl (Was.nil (WB.list ?_ rfl)))))))
  exact Was.cons (We.v rfl (Was.cons (We.v rfl (Was.cons (We.v rfl (Was.cons (We.v rfl (Was.nil ⟨rfl,rfl⟩))))))))
 refine Wt.due h6 (Was.cons (We.v rfl (Was.cons (We.v rfl (Was.cons (We.v rfl (Was.cons (We.v rfl (Was.nil ⟨rfl,rfl⟩))))))))) rfl (Wif.f (Ws.nx ?_))
 refine Ws.R (We.e2 (We.F (Was.cons (We.B (Was.cons (We.v rfl (Was.nil (WB.list ?_ rfl))))))))
 refine Was.cons (We.v rfl (Was.nil (WF.box (qE r (by omega) t) ?_ rfl rfl rfl rfl)))
 refine We.w rfl (Wg2.Hj (d:=aB (dg r t)) (Hi _) (Hh _) ?_ rfl rfl)
 rfl
theorem ix2 (i:Int) (h0:0≤i) (h:i<2):∃ v:Int,gIx (.lst [.int 3,.int 6]) (.int i)=some (.val (.int v))∧1≤v∧v≤6:=by
 have:i=0∨i=1:=by omega
 rcases this with rfl | rfl<;>exact ⟨_,rfl,by decide,by decide⟩
theorem Ae (aH aW:Nat) {ns:List Int} {at_:Int} {n:Nat} (n2:2≤n) (n10:n≤10) (a0:0≤at_) (a1:at_<1000) (c1 c4 c5 c6 c7 c8 c9:Cell)
  {Nx:Env→Prop} {B C:Env→Prop} {R:RV→Env→Prop} (nx:∀ c1 c4 c5 c6 c7 c8 c9,Nx [.sh (.lst (ns.map Dat.int)),c1,.sh (.int n),.sh (.int at_),c4,c5,c6,c7,c8,c9]) :
  Ws (tE aH aW) [.sh (.lst (ns.map Dat.int)),c1,.sh (.int n),.sh (.int at_),c4,c5,c6,c7,c8,c9] Nx R B C:=by
 obtain ⟨x0,ep⟩:=vq ns at_ a0 a1
 unfold tE
 refine Ws.seq (Ws.A (We.F (Was.cons (We.v rfl (Was.cons (We.v rfl (Was.nil (WF.box ep ?_ rfl rfl rfl rfl))))))) (by decide))
 refine WA.new ?_ (by first | (dsimp only [List.set];first | done | rfl) | rfl)
 refine Ws.cut (fun ρ=>∃ (k:Nat) (x:Int),1≤k∧k≤6∧ρ=[.sh (.lst (ns.map Dat.int)),.ow (bx x),.sh (.int n),.sh (.int at_),.sh (.int k),c5,c6,c7,c8,c9]) ?_ ?_
 ·refine Ws.A (We.e2 (We.c ?_)) (by decide)
  refine We.take (We.e2 (We.L (Was.cons (We.c (Was.cons (We.c (Was.nil (WT.mk ?_ rfl rfl (by exact Nat.le_of_ble_eq_true rfl))))))))) rfl
  refine We.drw (m:=2) rfl (by decide) (by decide) rfl fun i x1 i0 i1 ρ3 e=>?_
  subst e
  obtain ⟨v,hv,v1,v2⟩:=ix2 i i0 i1
  refine Wg2.ix (bS.mk (iw ?_ rfl rfl (by omega) (by unfold fG;omega))) rfl rfl hv
  refine Wg2.add (WA.val ?_ (by first | (dsimp only [List.set];first | done | rfl) | rfl)) rfl rfl
  have hm:=bV x1 v v1
  refine ⟨(1+x1 % v).toNat,x1 / v,by omega,by omega,?_⟩
  have:(((1+x1 % v).toNat:Nat):Int)=1+x1 % v:=by omega
  rw [this]
 rintro ρ ⟨k,x1,k1,k6,rfl⟩
 refine Ws.cut (fun ρ=>∃ (r:List Tie) (x:Int),Rcd n r∧r.length≤12∧ρ=[.sh (.lst (ns.map Dat.int)),.ow (bx x),.sh (.int n),.sh (.int at_),.sh (.int k),.ow (aB r),c6,c7,c8,c9]) ?_ ?_
 ·obtain ⟨r,x3,er,hg,hl,hm⟩:=xr x1 n 12 (by omega) (by omega) (by decide) (by decide)
  refine Ws.A (We.Fm (Was.cons (We.v rfl (Was.cons (We.c (Was.nil (WFm.any er ?_ rfl rfl rfl)))))) rfl) (by decide)
  exact WA.new ⟨r,x3,Rcd.of hg (by omega) hm,by omega,rfl⟩ (by first | (dsimp only [List.set];first | done | rfl) | rfl)
 rintro ρ ⟨r,x2,hr,hl,rfl⟩
 refine Ws.seq (Ws.A (We.e2 (We.e2 (We.L (Was.cons (We.c (Was.nil (WT.mk ?_ rfl rfl (by decide)))))))) (by decide))
 refine We.zA aO r (fun t=>t.m+1) Dat.int ?_ rfl (by first | (dsimp only [List.set];first | done | rfl) | rfl) rfl (by decide) (by unfold SZ;omega) (fun t _=>?_)
 rotate_left
 ·refine We.e2 (We.e2 (We.v rfl (We.c (Wg2.ix ?_ rfl rfl rfl))))
  exact We.c (Wg2.add (Wk.val ⟨rfl,rfl⟩) rfl rfl)
 refine Wg2.G1 (xs:=[0]) (ys:=r.map fun t=>t.m+1) ?_ rfl rfl (by simp;unfold SZ;omega)
 refine We.zA aO r (fun t=>t.m) Dat.int ?_ rfl (by first | (dsimp only [List.set];first | done | rfl) | rfl) rfl (by decide) (by unfold SZ;omega) (fun t _=>?_)
 rotate_left
 ·refine We.e2 (We.v rfl (We.c (Wg2.ix ?_ rfl rfl rfl)))
  exact Wk.val ⟨rfl,rfl⟩
 refine Wg2.G1 (xs:=[0]++r.map fun t=>t.m+1) (ys:=r.map fun t=>t.m) ?_ rfl rfl (by simp;unfold SZ;omega)
 generalize hN:([0]++r.map fun t=>t.m+1)++(r.map fun t=>t.m)=N
 have lN:1≤N.length∧N.length≤100:=by rw [← hN];simp;omega
 refine WA.new ?_ (by first | (dsimp only [List.set];first | done | rfl) | rfl)
 refine Ws.cut (fun ρ=>∃ (t x:Int),ρ=[.sh (.lst (ns.map Dat.int)),.ow (bx x),.sh (.int n),.sh (.int at_),.sh (.int k),.ow (aB r),.ow (.lst (N.map Dat.int)),.sh (.int t),c8,c9]) ?_ ?_
 ·refine Ws.A (We.e2 (We.w rfl (We.take (We.B (Was.cons (We.w rfl (Was.nil (WB.zB (enc:=Dat.int) (xs:=N) ?_ rfl))))) rfl))) (by decide)
  refine bS.mk (iw ?_ rfl rfl (by omega) (by unfold fG;omega))
  have hm:=bV x2 N.length (by omega)
  refine Eh hm.1 hm.2 (WA.val ?_ (by first | (dsimp only [List.set];first | done | rfl) | rfl)) rfl rfl
  exact ⟨_,_,rfl⟩
 rintro ρ ⟨t,x3,rfl⟩
 refine Ws.For (Wi.R1 (We.v rfl (bS.mk ⟨?_,by unfold BIG;omega⟩)))
 refine Ws.inv (fun i:Nat=>Dat.int (0+(i:Nat))) _ _ (List.range n) _ _ _ _ _ (fun p q ρ=>∃ (x:Int) (c8 c9:Cell),ρ=[.sh (.lst (ns.map Dat.int)),.ow (bx x),.sh (.int n),.sh (.int at_),.sh (.int k),.ow (aB r),.ow (.lst (N.map Dat.int)),.sh (.int t),c8,c9]) ⟨_,_,_,rfl⟩ ?_ ?_
 ·rintro p i q ρ e ⟨x,c8,c9,rfl⟩
  have hi:i<n:=List.mem_range.mp (by rw [e];simp)
  refine Dm.bI rfl (by first | (dsimp only [List.set];first | done | rfl) | rfl) ?_
  unfold zR
  have e0:(0:Int)+(i:Nat)=(i:Nat):=by omega
  rw [e0]
  refine Ws.cut (fun ρ=>∃ (x b:Int),(0≤b∧b<n∧(i:Int)≠b)∧ρ=[.sh (.lst (ns.map Dat.int)),.ow (bx x),.sh (.int n),.sh (.int at_),.sh (.int k),.ow (aB r),.ow (.lst (N.map Dat.int)),.sh (.int t),.sh (.int (i:Nat)),.sh (.int b)]) ?_ ?_
  ·refine Ws.A (We.e2 (We.e2 (We.e2 (We.v rfl (We.c (Wg2.add ?_ rfl rfl)))))) (by decide)
   refine We.take (We.e2 (We.v rfl (We.c (Wg2.sub (bS.mk (iw ?_ rfl rfl (by omega) (by unfold fG;omega))) rfl rfl)))) rfl
   refine Wg2.add (We.v rfl (Wg2.mod (WA.val ?_ (by first | (dsimp only [List.set];first | done | rfl) | rfl)) rfl rfl (by omega))) rfl rfl
   have hm:=bV x (n-1) (by omega)
   have hm2:=bV ((i:Nat)+1+x % ((n:Int)-1)) n (by omega)
   refine ⟨_,_,⟨hm2.1,hm2.2,?_⟩,rfl⟩
   intro eq
   by_cases q:(i:Int)+1+x % ((n:Int)-1)<n
   ·rw [Int.emod_eq_of_lt (by omega) q] at eq;omega
   ·have:((i:Int)+1+x % ((n:Int)-1)) % n=(i:Int)+1+x % ((n:Int)-1)-n:=by
     rw [← Int.sub_emod_right,Int.emod_eq_of_lt (by omega) (by omega)]
    rw [this] at eq;omega
  rintro ρ ⟨x,b,⟨b0,b1,hab⟩,rfl⟩
  refine Ws.If (Wt.Not (Wt.V (We.F (Was.cons (We.v rfl (Was.cons (We.w rfl (Was.cons (We.v rfl (Was.cons (We.v rfl (Was.cons (We.v rfl (Was.cons (We.v rfl (Was.nil (WF.val (Ad aH aW (by omega) n10 hr k1 k6 t (by omega) (by omega) b0 b1 hab) ?_ rfl rfl)))))))))))))))))
  exact Wb.mk (Wif.f (Ws.nx ⟨_,_,_,rfl⟩))
 ·rintro ρ ⟨x,c8,c9,rfl⟩
  exact nx _ _ _ _ _ _ _
theorem math (aH aW:Nat) (ns:List Int) (h:ns.length≤63):kG aH aW [.lst (ns.map Dat.int)]=some (.val (.bl true)):=by
 apply Wr.eq
 unfold kG
 (refine Dm.Wr.fn ?_ rfl rfl;dsimp only [List.map,List.replicate,List.cons_append,List.nil_append])
 obtain ⟨x0,ep⟩:=vq ns 0 (by decide) (by decide)
 refine Ws.seq (Ws.A (We.F (Was.cons (We.v rfl (Was.cons (We.c (Was.nil (WF.box ep ?_ rfl rfl rfl rfl))))))) (by decide))
 refine WA.new ?_ (by first | (dsimp only [List.set];first | done | rfl) | rfl)
 refine Ws.cut (fun ρ=>∃ (n:Nat) (c1:Cell),2≤n∧n≤10∧ρ=[.sh (.lst (ns.map Dat.int)),c1,.sh (.int n),.un,.un,.un,.un,.un,.un,.un]) ?_ ?_
 ·refine Ws.A (We.e2 (We.c ?_)) (by decide)
  refine We.drw (m:=5) rfl (by decide) (by decide) rfl fun i x1 i0 i1 ρ3 e=>?_
  subst e
  refine Wg2.add (WA.val ?_ (by first | (dsimp only [List.set];first | done | rfl) | rfl)) rfl rfl
  refine ⟨(2+i).toNat,.ow (bx x1),by omega,by omega,?_⟩
  have:(((2+i).toNat:Nat):Int)=2+i:=by omega
  rw [this]
 rintro ρ ⟨n,c1,n1,n10,rfl⟩
 refine Ws.seq (Ws.For (Wi.R2 (We.c (bS.mk (We.B (Was.cons (We.c (Was.cons (We.B (Was.cons (We.c (Was.cons (We.B (Was.cons (We.v rfl (Was.nil (WB.zB (enc:=Dat.int) (xs:=ns) ?_ rfl)))))))))))))))))
 refine Was.nil (WB.min2 ?_ rfl)
 refine Was.nil (WB.max2 ?_ rfl)
 have hb:∀ z:Int,z=(if (ns.length:Int)<3 then (ns.length:Int) else 3)→(if z>2 then z else 2)≤4∧2≤(if z>2 then z else 2):=fun z hz=>by
  rw [hz]
  constructor
  ·split<;>split<;>omega
  ·split<;>omega
 have hb:=hb _ rfl
 generalize (if (if (ns.length:Int)<3 then (ns.length:Int) else 3)>2 then (if (ns.length:Int)<3 then (ns.length:Int) else 3) else 2)=top at hb ⊢
 refine bS.mk ⟨?_,by unfold BIG;omega⟩
 refine Ws.inv (fun i:Nat=>Dat.int (1+(i:Nat))) _ _ (List.range (top-1).toNat) _ _ _ _ _ (fun p q ρ=>∃ c1 c3 c4 c5 c6 c7 c8 c9:Cell,ρ=[.sh (.lst (ns.map Dat.int)),c1,.sh (.int n),c3,c4,c5,c6,c7,c8,c9]) ⟨_,_,_,_,_,_,_,_,rfl⟩ ?_ ?_
 ·rintro p i q ρ e ⟨c1,c3,c4,c5,c6,c7,c8,c9,rfl⟩
  have hi:i<(top-1).toNat:=List.mem_range.mp (by rw [e];simp)
  refine Dm.bI rfl (by first | (dsimp only [List.set];first | done | rfl) | rfl) ?_
  exact Ae aH aW n1 n10 (by omega) (by omega) _ _ _ _ _ _ _ fun c1 c4 c5 c6 c7 c8 c9=>⟨_,_,_,_,_,_,_,_,rfl⟩
 ·rintro ρ ⟨c1,c3,c4,c5,c6,c7,c8,c9,rfl⟩
  exact Ws.R (We.c rfl)
end P
set_option maxHeartbeats 4000000
namespace Q
open PySem L2 Br Dm P
noncomputable def top (i:Nat):Stmt:=PySem.Challenge.pw_sinceply_k70_whole_often_four_ways.main.body.getD i (.Pass ⟨0,0,0,0⟩)
structure Txt (mg:Str→Option Value) (K:PySem.W.Frag) (base:Heap) (tO tP tQ tR tS tT tU bD tW tX kP kQ kR kT kU kW kX kY kZ k7 k8 k9 k_ lg aV lq lu ly lz lA lB lC lD lE lF iB iD lG lH lI lJ lK lM lO lP lQ:Addr) (lR lT lU lV lW lX lY lZ l0 l6 fQ fR fS fT fU fV fW fX fY fZ f6 f7 f9 f_ gb gf gg gh gj gk gm gn gp gq gu i9 i_ gv gw gy gA gB gC gD gE ja:FuncData) (gF gG:Tok):Prop where
 Ej:mg "all" = none
 Ho:mg "bool" = none
 Hq:mg "dict" = none
 qH:mg "enumerate" = none
 Kw:mg "int" = none
 bW:mg "isinstance" = none
 iE:mg "len" = none
 dJ:mg "list" = none
 Ek:mg "max" = none
 qI:mg "min" = none
 bJ:mg "range" = none
 l7:mg "reversed" = none
 Af:mg "sorted" = none
 jO:mg "tuple" = none
 Ky:mg "zip" = none
 l8:∃ t,mg "MOST_TIES" = some (.int 60 t)
 Mm:mg "steps_of" = some (.ref tO)
 Mn:mg "free_steps" = some (.ref tP)
 Mp:mg "led_steps" = some (.ref tQ)
 Kz:mg "shortest_ways" = some (.ref tR)
 Mq:mg "lead_along" = some (.ref tS)
 Mr:mg "parted" = some (.ref tT)
 C4:mg "ways_apart" = some (.ref tU)
 Ms:mg "hang_often" = some (.ref bD)
 Mt:mg "is_whole" = some (.ref tW)
 C5:mg "is_within" = some (.ref tX)
 KA:mg "is_places" = some (.ref kP)
 vD:mg "is_place" = some (.ref kQ)
 El:mg "is_layers" = some (.ref kR)
 KC:mg "is_moment" = some (.ref kT)
 KD:mg "is_tie_either_way" = some (.ref kU)
 KG:mg "is_tie" = some (.ref kW)
 KH:mg "is_rising" = some (.ref kX)
 KI:mg "is_pair" = some (.ref kY)
 Em:mg "look_at_layers" = some (.ref kZ)
 KJ:mg "look_at_pair" = some (.ref k7)
 KL:mg "merged" = some (.ref k8)
 Eo:mg "without" = some (.ref k9)
 KN:mg "kept_ties" = some (.ref k_)
 KP:mg "no_ways" = some (.ref lg)
 KQ:mg "ways_by_ties" = some (.ref aV)
 KR:mg "ways_out" = some (.ref lq)
 KS:mg "side_for" = some (.ref lu)
 KU:mg "pared" = some (.ref ly)
 KW:mg "least_layer" = some (.ref lz)
 Ep:mg "layered" = some (.ref lA)
 KY:mg "is_record" = some (.ref lB)
 Er:mg "since" = some (.ref lC)
 KZ:mg "is_net" = some (.ref lD)
 K0:mg "look_at_net" = some (.ref lE)
 K1:mg "net_of" = some (.ref lF)
 vE:mg "hang_of" = some (.ref iB)
 Ag:mg "hang" = some (.ref iD)
 K2:mg "_law_cell_at" = some (.ref lG)
 Es:mg "_law_pool" = some (.ref lH)
 dS:mg "_law_take" = some (.ref lI)
 K3:mg "_law_record" = some (.ref lJ)
 K4:mg "_law_rim" = some (.ref lK)
 K5:mg "_law_sides" = some (.ref lM)
 Et:mg "_law_often" = some (.ref lO)
 K6:mg "_law_alike" = some (.ref lP)
 Mx:mg "law" = some (.ref lQ)
 K7:Fun K "steps_of" "steps_of" (top 3) tO lR
 K8:Fun K "free_steps" "free_steps" (top 4) tP lT
 K9:Fun K "led_steps" "led_steps" (top 5) tQ lU
 Hr:Fun K "shortest_ways" "shortest_ways" (top 6) tR lV
 K_:Fun K "lead_along" "lead_along" (top 7) tS lW
 Ht:Binds K lU ["steps","heads"] []
 C6:Binds K lV ["steps","a"] []
 La:Fun K "parted" "parted" (top 8) tT lX
 Hu:Binds K lR ["n","ties"] []
 Hv:Binds K lT ["steps","heads"] []
 Hw:Binds K lW ["heads","way"] []
 Hx:Binds K lX ["steps","heads","a","b","count"] []
 Ah:Fun K "ways_apart" "ways_apart" (top 1) tU lY
 xF:Binds K lY ["n","ties","a","b","most"] []
 Lb:Fun K "hang_often" "hang_often" (top 2) bD lZ
 Lc:Fun K "is_whole" "is_whole" (top 15) tW l0
 Hy:Binds K l0 ["thing"] []
 Ai:Fun K "is_within" "is_within" (top 16) tX l6
 xG:Binds K l6 ["thing","low","high"] []
 Eu:Fun K "is_places" "is_places" (top 17) kP fQ
 qJ:Fun K "is_place" "is_place" (top 18) kQ fR
 Aj:Fun K "is_layers" "is_layers" (top 19) kR fS
 Ew:Fun K "is_moment" "is_moment" (top 20) kT fT
 nC:Binds K fR ["n","thing"] []
 Ak:Binds K fT ["thing"] []
 Ex:Fun K "is_tie_either_way" "is_tie_either_way" (top 21) kU fU
 Al:Binds K fU ["n","thing"] []
 Ey:Fun K "is_tie" "is_tie" (top 22) kW fV
 Ez:Fun K "is_rising" "is_rising" (top 23) kX fW
 EA:Fun K "is_pair" "is_pair" (top 24) kY fX
 vF:Binds K fS ["thing"] []
 Am:Fun K "look_at_layers" "look_at_layers" (top 25) kZ fY
 An:Binds K fX ["n","a","b"] []
 EB:Fun K "look_at_pair" "look_at_pair" (top 26) k7 fZ
 EC:Fun K "merged" "merged" (top 28) k8 f6
 Ao:Fun K "without" "without" (top 32) k9 f7
 Hz:Binds K lZ ["n","ties","a","b","times"] []
 vG:Binds K f7 ["ties","tie"] []
 ED:Fun K "kept_ties" "kept_ties" (top 31) k_ f9
 EE:Fun K "no_ways" "no_ways" (top 34) lg f_
 EF:Fun K "ways_by_ties" "ways_by_ties" (top 35) aV gb
 Aq:Binds K f_ ["k"] []
 Ar:Binds K gb ["n","kept","a","b","k"] []
 EG:Fun K "ways_out" "ways_out" (top 33) lq gf
 EH:Fun K "side_for" "side_for" (top 36) lu gg
 vH:Binds K fY ["k"] []
 As:Binds K f9 ["n","record","k","often"] []
 Au:Binds K gf ["n","record","kept","k","ways_of"] []
 Av:Binds K gg ["n","kept","tie","k"] []
 EI:Fun K "pared" "pared" (top 30) ly gh
 EJ:Fun K "least_layer" "least_layer" (top 39) lz gj
 Aw:Binds K f6 ["groups","a","b"] []
 Ax:Binds K gj ["layers","a","b"] []
 Ay:Fun K "layered" "layered" (top 38) lA gk
 Az:Binds K fQ ["thing"] []
 AA:Binds K fV ["n","thing"] []
 AB:Binds K fW ["things"] []
 EK:Fun K "is_record" "is_record" (top 42) lB gm
 AD:Fun K "since" "since" (top 43) lC gn
 vJ:Binds K gk ["n","record","k"] []
 AE:Binds K gm ["n","thing"] []
 EL:Fun K "is_net" "is_net" (top 45) lD gp
 AF:Binds K gp ["thing"] []
 EM:Fun K "look_at_net" "look_at_net" (top 46) lE gq
 EN:Fun K "net_of" "net_of" (top 47) lF gu
 AG:Binds K fZ ["n","a","b"] []
 vK:Binds K gn ["record","t"] []
 l9:zl K "hang_of" "hang_of" (top 49) iB i9
 AH:Binds K gq ["thing"] []
 vL:Binds K i9 ["n","record","a","b","most","t"] []
 oH:Binds K i9 ["n","record","a","b","most","t"] [.int 0 gF]
 nD:zl K "hang" "hang" (top 50) iD i_
 EO:Fun K "_law_cell_at" "_law_cell_at" (top 52) lG gv
 AI:Binds K gv ["script","k"] []
 AJ:Fun K "_law_pool" "_law_pool" (top 53) lH gw
 dh:Fun K "_law_take" "_law_take" (top 54) lI gy
 cQ:Binds K gy ["pool","many"] []
 ER:Fun K "_law_record" "_law_record" (top 55) lJ gA
 ES:Fun K "_law_rim" "_law_rim" (top 56) lK gB
 ET:Fun K "_law_sides" "_law_sides" (top 57) lM gC
 AK:Binds K gB ["record","side"] []
 AL:Binds K gC ["n"] []
 AM:Fun K "_law_often" "_law_often" (top 58) lO gD
 AO:Binds K gh ["n","record","k"] []
 AQ:Binds K gu ["n","record","k"] []
 AR:Binds K i_ ["net","a","b","t"] []
 oJ:Binds K i_ ["net","a","b","t"] [.int 0 gG]
 vM:Binds K gD ["n","ties","a","b"] []
 EU:Fun K "_law_alike" "_law_alike" (top 59) lP gE
 vN:Binds K gw ["script","at"] []
 AS:Binds K gA ["pool","n","most"] []
 AU:Binds K gE ["n","record","k","t","a","b"] []
 Ld:Fun K "law" "law" (top 60) lQ ja
section
variable {P':Program} {w:World} {K:PySem.W.Frag} {mg:Str→Option Value} {base:Heap} {tO tP tQ tR tS tT tU bD tW tX kP kQ kR kT kU kW kX kY kZ k7 k8 k9 k_ lg aV lq lu ly lz lA lB lC lD lE lF iB iD lG lH lI lJ lK lM lO lP lQ:Addr}
variable {lR lT lU lV lW lX lY lZ l0 l6 fQ fR fS fT fU fV fW fX fY fZ f6 f7 f9 f_ gb gf gg gh gj gk gm gn gp gq gu i9 i_ gv gw gy gA gB gC gD gE ja:FuncData} {gF gG:Tok}
theorem qK:ao ["n","ties","steps","moment","a","b"] ["n","ties"] (af (top 3)):=fsc rfl rfl rfl rfl (by decide +kernel)
theorem HA:(["n","ties","steps","moment","a","b","place"]:List Str).Nodup:=by decide +kernel
theorem Le:ao ["steps","heads"] ["steps","heads"] (af (top 4)):=fsc rfl rfl rfl rfl (by decide +kernel)
theorem HB:(["steps","heads","row"]:List Str).Nodup:=by decide +kernel
theorem HC:(["steps","heads","row","step"]:List Str).Nodup:=by decide +kernel
theorem Lf:ao ["steps","heads"] ["steps","heads"] (af (top 5)):=fsc rfl rfl rfl rfl (by decide +kernel)
theorem HD:(["steps","heads","row"]:List Str).Nodup:=by decide +kernel
theorem HE:(["steps","heads","row","step"]:List Str).Nodup:=by decide +kernel
theorem qL:ao ["steps","a","ways","pending","place","step"] ["steps","a"] (af (top 6)):=fsc rfl rfl rfl rfl (by decide +kernel)
theorem AV:ao ["heads","way","moment","place"] ["heads","way"] (af (top 7)):=fsc rfl rfl rfl rfl (by decide +kernel)
theorem nE:ao ["steps","heads","a","b","count","left","ways","time","way","moment"] ["steps","heads","a","b","count"] (af (top 8)):=fsc rfl rfl rfl rfl (by decide +kernel)
theorem HF:(["steps","heads","a","b","count","left","ways","time","way","moment","step"]:List Str).Nodup:=by decide +kernel
theorem jD:ao ["n","ties","a","b","most","steps","heads","side","count","found"] ["n","ties","a","b","most"] (af (top 1)):=fsc rfl rfl rfl rfl (by decide +kernel)
theorem Lg:ao ["n","ties","a","b","times"] ["n","ties","a","b","times"] (af (top 2)):=fsc rfl rfl rfl rfl (by decide +kernel)
theorem Lh:ao ["thing"] ["thing"] (af (top 15)):=fsc rfl rfl rfl rfl (by decide +kernel)
theorem Li:ao ["thing","low","high"] ["thing","low","high"] (af (top 16)):=fsc rfl rfl rfl rfl (by decide +kernel)
theorem HG:ao ["thing"] ["thing"] (af (top 17)):=fsc rfl rfl rfl rfl (by decide +kernel)
theorem HH:ao ["n","thing"] ["n","thing"] (af (top 18)):=fsc rfl rfl rfl rfl (by decide +kernel)
theorem HJ:ao ["thing"] ["thing"] (af (top 19)):=fsc rfl rfl rfl rfl (by decide +kernel)
theorem HK:ao ["thing"] ["thing"] (af (top 20)):=fsc rfl rfl rfl rfl (by decide +kernel)
theorem HL:ao ["n","thing"] ["n","thing"] (af (top 21)):=fsc rfl rfl rfl rfl (by decide +kernel)
theorem HM:ao ["n","thing"] ["n","thing"] (af (top 22)):=fsc rfl rfl rfl rfl (by decide +kernel)
theorem HN:ao ["things"] ["things"] (af (top 23)):=fsc rfl rfl rfl rfl (by decide +kernel)
theorem C7:(["things","at"]:List Str).Nodup:=by decide +kernel
theorem HP:ao ["n","a","b"] ["n","a","b"] (af (top 24)):=fsc rfl rfl rfl rfl (by decide +kernel)
theorem HQ:ao ["k"] ["k"] (af (top 25)):=fsc rfl rfl rfl rfl (by decide +kernel)
theorem HR:ao ["n","a","b"] ["n","a","b"] (af (top 26)):=fsc rfl rfl rfl rfl (by decide +kernel)
theorem HS:ao ["groups","a","b"] ["groups","a","b"] (af (top 28)):=fsc rfl rfl rfl rfl (by decide +kernel)
theorem C8:(["groups","a","b","group"]:List Str).Nodup:=by decide +kernel
theorem HU:ao ["ties","tie"] ["ties","tie"] (af (top 32)):=fsc rfl rfl rfl rfl (by decide +kernel)
theorem C9:(["ties","tie","other"]:List Str).Nodup:=by decide +kernel
theorem l_:ao ["n","record","k","often","kept","tie","others"] ["n","record","k","often"] (af (top 31)):=fsc rfl rfl rfl rfl (by decide +kernel)
theorem HV:ao ["k"] ["k"] (af (top 34)):=fsc rfl rfl rfl rfl (by decide +kernel)
theorem C_:(["k","time"]:List Str).Nodup:=by decide +kernel
theorem HW:ao ["n","kept","a","b","k"] ["n","kept","a","b","k"] (af (top 35)):=fsc rfl rfl rfl rfl (by decide +kernel)
theorem AW:ao ["n","record","kept","k","ways_of","gone"] ["n","record","kept","k","ways_of"] (af (top 33)):=fsc rfl rfl rfl rfl (by decide +kernel)
theorem Dc:(["n","record","kept","k","ways_of","gone","tie"]:List Str).Nodup:=by decide +kernel
theorem Dd:(["n","record","kept","k","ways_of","gone","tie"]:List Str).Nodup:=by decide +kernel
theorem HX:ao ["n","kept","tie","k"] ["n","kept","tie","k"] (af (top 36)):=fsc rfl rfl rfl rfl (by decide +kernel)
theorem tY:ao ["n","record","k","kept","sides"] ["n","record","k"] (af (top 30)):=fsc rfl rfl rfl rfl (by decide +kernel)
theorem De:(["n","record","k","kept","sides","tie"]:List Str).Nodup:=by decide +kernel
theorem Df:(["n","record","k","kept","sides","tie"]:List Str).Nodup:=by decide +kernel
theorem tZ:ao ["layers","a","b","at","groups"] ["layers","a","b"] (af (top 39)):=fsc rfl rfl rfl rfl (by decide +kernel)
theorem gH:ao ["n","record","k","layers","numbers","moment","a","b","number"] ["n","record","k"] (af (top 38)):=fsc rfl rfl rfl rfl (by decide +kernel)
theorem Dg:(["n","record","k","layers","numbers","moment","a","b","number","layer"]:List Str).Nodup:=by decide +kernel
theorem HY:ao ["n","thing"] ["n","thing"] (af (top 42)):=fsc rfl rfl rfl rfl (by decide +kernel)
theorem Dh:(["n","thing","tie"]:List Str).Nodup:=by decide +kernel
theorem Di:(["n","thing","tie"]:List Str).Nodup:=by decide +kernel
theorem HZ:ao ["record","t"] ["record","t"] (af (top 43)):=fsc rfl rfl rfl rfl (by decide +kernel)
theorem Dj:(["record","t","tie"]:List Str).Nodup:=by decide +kernel
theorem H_:ao ["thing"] ["thing"] (af (top 45)):=fsc rfl rfl rfl rfl (by decide +kernel)
theorem Ia:ao ["thing"] ["thing"] (af (top 46)):=fsc rfl rfl rfl rfl (by decide +kernel)
theorem AX:ao ["n","record","k","numbers"] ["n","record","k"] (af (top 47)):=fsc rfl rfl rfl rfl (by decide +kernel)
theorem vO:(["n","record","k","numbers","tie","number"]:List Str).Nodup:=by decide +kernel
theorem AY:ao ["n","record","a","b","most","t","found"] ["n","record","a","b","most","t"] (af (top 49)):=fsc rfl rfl rfl rfl (by decide +kernel)
theorem Ib:ao ["net","a","b","t"] ["net","a","b","t"] (af (top 50)):=fsc rfl rfl rfl rfl (by decide +kernel)
theorem Ic:ao ["script","k"] ["script","k"] (af (top 52)):=fsc rfl rfl rfl rfl (by decide +kernel)
theorem e7:ao ["script","at","cell","big","turn","one"] ["script","at"] (af (top 53)):=fsc rfl rfl rfl rfl (by decide +kernel)
theorem AZ:ao ["pool","many","number"] ["pool","many"] (af (top 54)):=fsc rfl rfl rfl rfl (by decide +kernel)
theorem ck:ao ["pool","n","most","many","wide","moment","record","k","a","b"] ["pool","n","most"] (af (top 55)):=fsc rfl rfl rfl rfl (by decide +kernel)
theorem Ie:ao ["record","side"] ["record","side"] (af (top 56)):=fsc rfl rfl rfl rfl (by decide +kernel)
theorem oK:(["record","side","moment","a","b"]:List Str).Nodup:=by decide +kernel
theorem t7:ao ["n","found","bits"] ["n"] (af (top 57)):=fsc rfl rfl rfl rfl (by decide +kernel)
theorem Dl:(["n","found","bits","place"]:List Str).Nodup:=by decide +kernel
theorem Ig:ao ["n","ties","a","b"] ["n","ties","a","b"] (af (top 58)):=fsc rfl rfl rfl rfl (by decide +kernel)
theorem Dq:(["n","ties","a","b","side"]:List Str).Nodup:=by decide +kernel
theorem gI:ao ["n","record","k","t","a","b","net","moments","kept","due","late"] ["n","record","k","t","a","b"] (af (top 59)):=fsc rfl rfl rfl rfl (by decide +kernel)
theorem Dr:(["n","record","k","t","a","b","net","moments","kept","due","late","tie"]:List Str).Nodup:=by decide +kernel
theorem Dt:(["n","record","k","t","a","b","net","moments","kept","due","late","tie"]:List Str).Nodup:=by decide +kernel
theorem cK:ao ["script","pool","n","at","k","record","moments","t","a","b"] ["script"] (af (top 60)):=fsc rfl rfl rfl rfl (by decide +kernel)
theorem Du:(["script","pool","n","at","k","record","moments","t","a","b","tie"]:List Str).Nodup:=by decide +kernel
theorem Dv:(["script","pool","n","at","k","record","moments","t","a","b","tie"]:List Str).Nodup:=by decide +kernel
variable (T:Txt mg K base tO tP tQ tR tS tT tU bD tW tX kP kQ kR kT kU kW kX kY kZ k7 k8 k9 k_ lg aV lq lu ly lz lA lB lC lD lE lF iB iD lG lH lI lJ lK lM lO lP lQ lR lT lU lV lW lX lY lZ l0 l6 fQ fR fS fT fU fV fW fX fY fZ f6 f7 f9 f_ gb gf gg gh gj gk gm gn gp gq gu i9 i_ gv gw gy gA gB gC gD gE ja gF gG)
include T
theorem Lj :
  aQ P' w K mg base CX0 1 tO lR ["n","ties"] (spD CF):=by
 refine T.K7.ok qK (fun vs H Q E h=>aE h) (fun cdv A outer s H vs Q E hr h=>?_)
 exact ⟨_,(GQ 2 ["n","ties","steps","moment","a","b"] ["place"] qK.nd (c_n 6 HA rfl rfl) (sF rfl T.bJ (aa (d_v 0) ah)) (Kc PassesOwn.never rfl (i_S (d_v 1)) (g_t rfl (bh 3 qK.nd (bh 4 qK.nd (bh 5 qK.nd iU))))
  (D8 (L3 (h_ hr (d_v 4) (d_v 5)) (GP (D9 (d_v 4) (j4 (aa (d_v 3) (aa (d_v 5) ah))))
  (D8 (D9 (d_v 5) (j4 (aa (d_v 3) (aa (d_v 4) ah)))))) Ka)))
  (aq (s_r (d_v 2)))),bg (n:=2) (m:=4) rfl h⟩
theorem Lk :
  aQ P' w K mg base CX0 1 tP lT ["steps","heads"] (spD zI):=by
 refine T.K8.ok Le (fun vs H Q E h=>aE h) (fun cdv A outer s H vs Q E hr h=>?_)
 exact ⟨_,(aq (s_r (cO 0 ["steps","heads"] ["row"] (c_n 2 HB rfl rfl) (d_v 0) (fun _ _ _ _ _=>bR) (fun _ _ _ _ _=>(cO 2 ["steps","heads","row"] ["step"] (c_n 3 HC rfl rfl) (d_v 2) (fun _ _ _ _ _=>cH (h_ hr (zg hr (d_v 1) (aL (d_v 3) d_i)) (aL (d_v 3) d_i))) (fun _ _ _ _ _=>(d_v 3))))))),bg (n:=2) (m:=0) rfl h⟩
theorem Ll :
  aQ P' w K mg base CX0 1 tQ lU ["steps","heads"] (spD zJ):=by
 refine T.K9.ok Lf (fun vs H Q E h=>aE h) (fun cdv A outer s H vs Q E hr h=>?_)
 exact ⟨_,(aq (s_r (cO 0 ["steps","heads"] ["row"] (c_n 2 HD rfl rfl) (d_v 0) (fun _ _ _ _ _=>bR) (fun _ _ _ _ _=>(cO 2 ["steps","heads","row"] ["step"] (c_n 3 HE rfl rfl) (d_v 2) (fun _ _ _ _ _=>cH (sC hr (zg hr (d_v 1) (aL (d_v 3) d_i)) (aL (d_v 3) d_i))) (fun _ _ _ _ _=>(d_v 3))))))),bg (n:=2) (m:=0) rfl h⟩
theorem EV :
  aQ P' w K mg base CX0 1 tR lV ["steps","a"] (spD qc):=by
 refine T.Hr.ok qL (fun vs H Q E h=>aE h) (fun cdv A outer s H vs Q E hr h=>?_)
 exact ⟨_,(ai (s_a 2 qL.nd (LZ (d_v 1) (cN ah)))
  (ai (s_a 3 qL.nd (cN (aa (d_v 1) ah)))
  (ai (JR 100 PassesOwn.never (L1 (d_v 3))
  (ai (s_a 4 qL.nd (Cu 3 d_i))
  (aq (dO PassesOwn.never rfl (i_S (aL (d_v 0) (d_v 4))) (g_n 5 qL.nd)
  (aq (cL (GJ hr (aL (d_v 5) d_i) (d_v 2)) (ai (zh 2 hr (aL (d_v 5) d_i) (bQ (GI hr (d_v 2) (d_v 4)) (cN (aa (d_v 5) ah))))
  (aq (pT 3 (aL (d_v 5) d_i)))) bL))))))
  (aq (s_r (d_v 2)))))),bg (n:=2) (m:=4) rfl h⟩
theorem Lm :
  aQ P' w K mg base CX0 1 tS lW ["heads","way"] (spM zK):=by
 refine T.K_.ok AV (fun vs H Q E h=>jK h) (fun cdv A outer s H vs Q E hr h=>?_)
 exact ⟨_,(aq (dO PassesOwn.never rfl (i_S (d_v 1)) (g_t rfl (bh 2 AV.nd (bh 3 AV.nd iU)))
  (aq (cL (D7 hr (d_v 2) (d_v 0)) (aq (s_e (zx 0 (d_v 2)))) (aq (zh 0 hr (d_v 2) (d_v 3))))))),ze (n:=2) (m:=2) rfl h⟩
theorem Ln :
  aQ P' w K mg base CX0 2 tT lX ["steps","heads","a","b","count"] (spD xg):=by
 refine T.La.ok nE (fun vs H Q E h=>aE h) (fun cdv A outer s H vs Q E hr h=>?_)
 exact ⟨_,(ai (s_a 5 nE.nd (GV rfl T.Hq (aa (d_v 1) ah)))
  (ai (s_a 6 nE.nd (cN ah))
  (ai (dO PassesOwn.never rfl (sF rfl T.bJ (aa (d_v 4) ah)) (g_n 7 nE.nd)
  (ai (JU 8 ["steps","heads","a","b","count","left","ways","time","way","moment"] ["step"] nE.nd (c_n 10 HF rfl rfl) (i_S (GI hr (ay (EV T) (Br.hm hr) rfl T.Kz T.Hr.kp T.C6 (aa (ku (Ll T) (Br.hm hr) rfl T.Mp T.K9.kp T.Ht (aa (d_v 0) (aa (d_v 5) ah))) (aa (d_v 2) ah))) (d_v 3))) (fun _ _ _ _ _=>bR) (fun _ _ _ _ _=>(aL (d_v 10) d_i)))
  (ai (dO PassesOwn.never rfl (i_S (d_v 8)) (g_n 9 nE.nd)
  (aq (s_e (zx 5 (d_v 9)))))
  (aq (pT 6 (d_v 8))))))
  (aq (s_r (d_v 6)))))),bg (n:=5) (m:=5) rfl h⟩
theorem vP :
  aQ P' w K mg base CX0 3 tU lY ["n","ties","a","b","most"] (spD qd):=by
 refine T.Ah.ok jD (fun vs H Q E h=>aE h) (fun cdv A outer s H vs Q E hr h=>?_)
 exact ⟨_,(ai (s_a 5 jD.nd (ay (Lj T) (Br.hm hr) rfl T.Mm T.K7.kp T.Hu (aa (d_v 0) (aa (d_v 1) ah))))
  (ai (s_a 6 jD.nd LY)
  (ai (s_a 7 jD.nd d_n)
  (ai (s_a 8 jD.nd d_i)
  (ai (JR 100 PassesOwn.never (t_w (w_and (JN (d_v 8) (d_v 4)) (sD (J6 (d_v 7) d_n))))
  (ai (s_a 9 jD.nd (ay (EV T) (Br.hm hr) rfl T.Kz T.Hr.kp T.C6 (aa (ku (Lk T) (Br.hm hr) rfl T.Mn T.K8.kp T.Hv (aa (d_v 5) (aa (d_v 6) ah))) (aa (d_v 2) ah))))
  (aq (cL (D7 hr (d_v 3) (d_v 9)) (ai (s_e (br (Lm T) (Br.hm hr) rfl T.Mq T.K_.kp T.Hw (aa (d_v 6) (aa (GI hr (d_v 9) (d_v 3)) ah))))
  (aq (s_a 8 jD.nd (bQ (d_v 8) d_i)))) (aq (s_a 7 jD.nd (uI rfl T.jO (aa (CA rfl rfl T.Af (aa (d_v 9) ah)) ah))))))))
  (aq (s_r (j4 (aa (ku (Ln T) (Br.hm hr) rfl T.Mr T.La.kp T.Hx (a_c (d_v 5) (a_c (d_v 6) (a_c (d_v 2) (a_c (d_v 3) (a_c (d_v 8) ah rfl) rfl) rfl) rfl) rfl)) (aa (d_v 7) ah)))))))))),bg (n:=5) (m:=5) rfl h⟩
theorem Lo :
  aQ P' w K mg base CX0 4 bD lZ ["n","ties","a","b","times"] (spD CG):=by
 refine T.Lb.ok Lg (fun vs H Q E h=>aE h) (fun cdv A outer s H vs Q E hr h=>?_)
 exact ⟨_,(aq (s_r (J5 (aL (ay (vP T) (Br.hm hr) rfl T.C4 T.Ah.kp T.xF (a_c (d_v 0) (a_c (d_v 1) (a_c (d_v 2) (a_c (d_v 3) (a_c (d_v 4) ah rfl) rfl) rfl) rfl) rfl)) d_i) d_n))),bg (n:=5) (m:=0) rfl h⟩
theorem Lp :
  aQ P' w K mg base CX0 1 tW l0 ["thing"] (spD CH):=by
 refine T.Lc.ok Lh (fun vs H Q E h=>aE h) (fun cdv A outer s H vs Q E hr h=>?_)
 exact ⟨_,(aq (s_r (j5 (pU Cf (by rfl) rfl T.Kw rfl T.bW (d_v 0)) (pS (JQ (pU yO (by rfl) rfl T.Ho rfl T.bW (d_v 0))))))),bg (n:=1) (m:=0) rfl h⟩
theorem vQ :
  aQ P' w K mg base CX0 2 tX l6 ["thing","low","high"] (spD tw):=by
 refine T.Ai.ok Li (fun vs H Q E h=>aE h) (fun cdv A outer s H vs Q E hr h=>?_)
 exact ⟨_,(aq (s_r (j5 (ay (Lp T) (Br.hm hr) rfl T.Mt T.Lc.kp T.Hy (aa (d_v 0) ah)) (pS (Ci xX yG xX yG (d_v 1) (d_v 0) (d_v 2)))))),bg (n:=3) (m:=0) rfl h⟩
theorem Ih :
  aQ P' w K mg base CX0 3 kP fQ ["thing"] (spD uX):=by
 refine T.Eu.ok HG (fun vs H Q E h=>aE h) (fun cdv A outer s H vs Q E hr h=>?_)
 exact ⟨_,(aq (s_r (ay (vQ T) (Br.hm hr) rfl T.C5 T.Ai.kp T.xG (aa (d_v 0) (aa d_i (aa d_i ah)))))),bg (n:=1) (m:=0) rfl h⟩
theorem oM :
  aQ P' w K mg base CX0 3 kQ fR ["n","thing"] (spD kD):=by
 refine T.qJ.ok HH (fun vs H Q E h=>aE h) (fun cdv A outer s H vs Q E hr h=>?_)
 exact ⟨_,(aq (s_r (ay (vQ T) (Br.hm hr) rfl T.C5 T.Ai.kp T.xG (aa (d_v 1) (aa d_i (aa (g9 (d_v 0) d_i) ah)))))),bg (n:=2) (m:=0) rfl h⟩
theorem A0 :
  aQ P' w K mg base CX0 3 kR fS ["thing"] (spD kE):=by
 refine T.Aj.ok HJ (fun vs H Q E h=>aE h) (fun cdv A outer s H vs Q E hr h=>?_)
 exact ⟨_,(aq (s_r (ay (vQ T) (Br.hm hr) rfl T.C5 T.Ai.kp T.xG (aa (d_v 0) (aa d_i (aa d_i ah)))))),bg (n:=1) (m:=0) rfl h⟩
theorem Ii :
  aQ P' w K mg base CX0 3 kT fT ["thing"] (spD uY):=by
 refine T.Ew.ok HK (fun vs H Q E h=>aE h) (fun cdv A outer s H vs Q E hr h=>?_)
 exact ⟨_,(aq (s_r (ay (vQ T) (Br.hm hr) rfl T.C5 T.Ai.kp T.xG (aa (d_v 0) (aa d_i (aa (yL d_i d_i) ah)))))),bg (n:=1) (m:=0) rfl h⟩
theorem Ij :
  aQ P' w K mg base CX0 4 kU fU ["n","thing"] (spD uZ):=by
 refine T.Ex.ok HL (fun vs H Q E h=>aE h) (fun cdv A outer s H vs Q E hr h=>?_)
 exact ⟨_,(ai (cL (t_w (w_or (eG (dN (pU kit_tuple (by rfl) rfl T.jO rfl T.bW (d_v 1)))) (ji (h_ hr (ia rfl T.iE (aa (d_v 1) ah)) d_i)))) (aq (s_r d_b)) bL)
  (aq (s_r (j5 (ay (Ii T) (Br.hm hr) rfl T.KC T.Ew.kp T.Ak (aa (aL (d_v 1) d_i) ah)) (j5 (ay (oM T) (Br.hm hr) rfl T.vD T.qJ.kp T.nC (aa (d_v 0) (aa (aL (d_v 1) d_i) ah))) (pS (ay (oM T) (Br.hm hr) rfl T.vD T.qJ.kp T.nC (aa (d_v 0) (aa (aL (d_v 1) d_i) ah))))))))),bg (n:=2) (m:=0) rfl h⟩
theorem Ik :
  aQ P' w K mg base CX0 5 kW fV ["n","thing"] (spD u5):=by
 refine T.Ey.ok HM (fun vs H Q E h=>aE h) (fun cdv A outer s H vs Q E hr h=>?_)
 exact ⟨_,(aq (s_r (j5 (ay (Ij T) (Br.hm hr) rfl T.KD T.Ex.kp T.Al (aa (d_v 0) (aa (d_v 1) ah))) (pS (LR (aL (d_v 1) d_i) (aL (d_v 1) d_i)))))),bg (n:=2) (m:=0) rfl h⟩
theorem Il :
  aQ P' w K mg base CX0 1 kX fW ["things"] (spD u6):=by
 refine T.Ez.ok HN (fun vs H Q E h=>aE h) (fun cdv A outer s H vs Q E hr h=>?_)
 exact ⟨_,(aq (s_r (D4 rfl rfl T.Ej (aa (yS ["things"] ["at"] (c_n 1 C7 rfl rfl) (Ce rfl T.bJ (aa d_i (aa (ia rfl T.iE (aa (d_v 0) ah)) ah))) (fun _ _ _ _ _=>bR) (fun _ _ _ _ _=>(LQ (aL (d_v 0) (g9 (d_v 1) d_i)) (aL (d_v 0) (d_v 1))))) ah)))),bg (n:=1) (m:=0) rfl h⟩
theorem Im :
  aQ P' w K mg base CX0 4 kY fX ["n","a","b"] (spD u7):=by
 refine T.EA.ok HP (fun vs H Q E h=>aE h) (fun cdv A outer s H vs Q E hr h=>?_)
 exact ⟨_,(aq (s_r (j5 (ay (oM T) (Br.hm hr) rfl T.vD T.qJ.kp T.nC (aa (d_v 0) (aa (d_v 1) ah))) (j5 (ay (oM T) (Br.hm hr) rfl T.vD T.qJ.kp T.nC (aa (d_v 0) (aa (d_v 2) ah))) (pS (LP hr (d_v 1) (d_v 2))))))),bg (n:=3) (m:=0) rfl h⟩
theorem A1 :
  aQ P' w K mg base CX0 4 kZ fY ["k"] (spD qe):=by
 refine T.Am.ok HQ (fun vs H Q E h=>aE h) (fun cdv A outer s H vs Q E hr h=>?_)
 exact ⟨_,(aq (cL (eG (dN (ay (A0 T) (Br.hm hr) rfl T.El T.Aj.kp T.vF (aa (d_v 0) ah)))) (aq nY) bL)),bg (n:=1) (m:=0) rfl h⟩
theorem Io :
  aQ P' w K mg base CX0 5 k7 fZ ["n","a","b"] (spD u9):=by
 refine T.EB.ok HR (fun vs H Q E h=>aE h) (fun cdv A outer s H vs Q E hr h=>?_)
 exact ⟨_,(aq (cL (eG (dN (ay (Im T) (Br.hm hr) rfl T.KI T.EA.kp T.An (aa (d_v 0) (aa (d_v 1) (aa (d_v 2) ah)))))) (aq nY) bL)),bg (n:=3) (m:=0) rfl h⟩
theorem Ip :
  aQ P' w K mg base CX0 1 k8 f6 ["groups","a","b"] (spD u_):=by
 refine T.EC.ok HS (fun vs H Q E h=>aE h) (fun cdv A outer s H vs Q E hr h=>?_)
 exact ⟨_,(aq (s_r (cO 0 ["groups","a","b"] ["group"] (c_n 3 C8 rfl rfl) (d_v 0) (fun _ _ _ _ _=>bR) (fun _ _ _ _ _=>(JP (sC hr (d_v 3) (aL (d_v 0) (d_v 2))) (aL (d_v 0) (d_v 1)) (d_v 3)))))),bg (n:=3) (m:=0) rfl h⟩
theorem A2 :
  aQ P' w K mg base CX0 1 k9 f7 ["ties","tie"] (spD nk):=by
 refine T.Ao.ok HU (fun vs H Q E h=>aE h) (fun cdv A outer s H vs Q E hr h=>?_)
 exact ⟨_,(aq (s_r (cO 0 ["ties","tie"] ["other"] (c_n 2 C9 rfl rfl) (d_v 0) (fun _ _ _ _ _=>cH (h_ hr (d_v 2) (d_v 1))) (fun _ _ _ _ _=>(d_v 2))))),bg (n:=2) (m:=0) rfl h⟩
theorem Iq :
  aQ P' w K mg base CX0 5 k_ f9 ["n","record","k","often"] (spD (qf bD aV)):=by
 refine T.ED.ok l_ (fun vs H Q E h=>aE h) (fun cdv A outer s H vs Q E hr h=>?_)
 exact ⟨_,(ai (s_a 4 l_.nd (iR rfl T.dJ (aa (d_v 1) ah)))
  (ai (dO PassesOwn.never rfl (i_S (d_v 1)) (g_n 5 l_.nd)
  (ai (s_a 6 l_.nd (ay (A2 T) (Br.hm hr) rfl T.Eo T.Ao.kp T.vG (aa (d_v 4) (aa (d_v 5) ah))))
  (aq (cL (t_w (w_or (sC hr (aL (d_v 5) d_i) (aL (d_v 5) d_i)) (ji (dN (uT 3 (Lo T) (Br.hm hr) T.Lb.kp T.Hz (a_c (d_v 0) (a_c (d_v 6) (a_c (aL (d_v 5) d_i) (a_c (aL (d_v 5) d_i) (a_c (d_v 2) ah rfl) rfl) rfl) rfl) rfl)))))) (aq (s_a 4 l_.nd (d_v 6))) bL))))
  (aq (s_r (d_v 4))))),bg (n:=4) (m:=3) rfl h⟩
theorem Ir :
  aQ P' w K mg base CX0 1 lg f_ ["k"] (spD nq):=by
 refine T.EE.ok HV (fun vs H Q E h=>aE h) (fun cdv A outer s H vs Q E hr h=>?_)
 exact ⟨_,(aq (s_r (yS ["k"] ["time"] (c_n 1 C_ rfl rfl) (sF rfl T.bJ (aa (d_v 0) ah)) (fun _ _ _ _ _=>bR) (fun _ _ _ _ _=>(cN ah))))),bg (n:=1) (m:=0) rfl h⟩
theorem Iu :
  aQ P' w K mg base CX0 4 aV gb ["n","kept","a","b","k"] (spD qg):=by
 refine T.EF.ok HW (fun vs H Q E h=>aE h) (fun cdv A outer s H vs Q E hr h=>?_)
 exact ⟨_,(aq (s_r (aL (ay (vP T) (Br.hm hr) rfl T.C4 T.Ah.kp T.xF (a_c (d_v 0) (a_c (d_v 1) (a_c (d_v 2) (a_c (d_v 3) (a_c (d_v 4) ah rfl) rfl) rfl) rfl) rfl)) d_i))),bg (n:=5) (m:=0) rfl h⟩
theorem Iv :
  aQ P' w K mg base CX0 5 lq gf ["n","record","kept","k","ways_of"] (spD (qh bD aV)):=by
 refine T.EG.ok AW (fun vs H Q E h=>aE h) (fun cdv A outer s H vs Q E hr h=>?_)
 exact ⟨_,(ai (uK 5 1 ["n","record","kept","k","ways_of","gone"] ["tie"] AW.nd (c_n 6 Dc rfl rfl) (d_v 1) (fun _ _ _ _ _=>cH (JO hr (d_v 6) (d_v 2))) (fun _ _ _ _ _=>(d_v 6)))
  (aq (s_r (cO 5 ["n","record","kept","k","ways_of","gone"] ["tie"] (c_n 6 Dd rfl rfl) (d_v 5) (fun _ _ _ _ _=>bR) (fun _ _ _ _ _=>(JP (sC hr (aL (d_v 6) d_i) (aL (d_v 6) d_i)) (ay (Ir T) (Br.hm hr) rfl T.KP T.EE.kp T.Aq (aa (d_v 3) ah)) (uT 4 (Iu T) (Br.hm hr) T.EF.kp T.Ar (a_c (d_v 0) (a_c (d_v 2) (a_c (aL (d_v 6) d_i) (a_c (aL (d_v 6) d_i) (a_c (d_v 3) ah rfl) rfl) rfl) rfl) rfl)))))))),bg (n:=5) (m:=1) rfl h⟩
theorem Iw :
  aQ P' w K mg base CX0 4 lu gg ["n","kept","tie","k"] (spD jt):=by
 refine T.EH.ok HX (fun vs H Q E h=>aE h) (fun cdv A outer s H vs Q E hr h=>?_)
 exact ⟨_,(aq (s_r (aL (ay (vP T) (Br.hm hr) rfl T.C4 T.Ah.kp T.xF (a_c (d_v 0) (a_c (ay (A2 T) (Br.hm hr) rfl T.Eo T.Ao.kp T.vG (aa (d_v 1) (aa (d_v 2) ah))) (a_c (aL (d_v 2) d_i) (a_c (aL (d_v 2) d_i) (a_c (d_v 3) ah rfl) rfl) rfl) rfl) rfl)) d_i))),bg (n:=4) (m:=0) rfl h⟩
theorem Iz :
  aQ P' w K mg base CX0 6 ly gh ["n","record","k"] (spD (vc bD aV)):=by
 refine T.EI.ok tY (fun vs H Q E h=>aE h) (fun cdv A outer s H vs Q E hr h=>?_)
 exact ⟨_,(ai (s_e (ay (A1 T) (Br.hm hr) rfl T.Em T.Am.kp T.vH (aa (d_v 2) ah)))
  (ai (s_a 3 tY.nd (ay (Iq T) (Br.hm hr) rfl T.KN T.ED.kp T.As (aa (d_v 0) (aa (d_v 1) (aa (d_v 2) (aa (Kf rfl T.Ms) ah))))))
  (ai (uK 4 3 ["n","record","k","kept","sides"] ["tie"] tY.nd (c_n 5 De rfl rfl) (d_v 3) (fun _ _ _ _ _=>bR) (fun _ _ _ _ _=>(ay (Iw T) (Br.hm hr) rfl T.KS T.EH.kp T.Av (aa (d_v 0) (aa (d_v 3) (aa (d_v 5) (aa (d_v 2) ah)))))))
  (aq (s_r (j4 (aa (cO 3 ["n","record","k","kept","sides"] ["tie"] (c_n 5 Df rfl rfl) (d_v 3) (fun _ _ _ _ _=>bR) (fun _ _ _ _ _=>(aL (d_v 5) d_i))) (aa (ay (Iv T) (Br.hm hr) rfl T.KR T.EG.kp T.Au (a_c (d_v 0) (a_c (d_v 1) (a_c (d_v 3) (a_c (d_v 2) (a_c (Kf rfl T.KQ) ah rfl) rfl) rfl) rfl) rfl)) (aa (d_v 4) ah))))))))),bg (n:=3) (m:=2) rfl h⟩
theorem IA :
  aQ P' w K mg base CX0 1 lz gj ["layers","a","b"] (spD qi):=by
 refine T.EJ.ok tZ (fun vs H Q E h=>aE h) (fun cdv A outer s H vs Q E hr h=>?_)
 exact ⟨_,(ai (dO PassesOwn.never rfl (LV rfl T.qH (d_v 0)) (g_t rfl (bh 3 tZ.nd (bh 4 tZ.nd iU)))
  (aq (cL (h_ hr (aL (d_v 4) (d_v 1)) (aL (d_v 4) (d_v 2))) (aq (s_r (bQ (d_v 3) d_i))) bL)))
  (aq (s_r d_i))),bg (n:=3) (m:=2) rfl h⟩
theorem A3 :
  aQ P' w K mg base CX0 5 lA gk ["n","record","k"] (spD nt):=by
 refine T.Ay.ok gH (fun vs H Q E h=>aE h) (fun cdv A outer s H vs Q E hr h=>?_)
 exact ⟨_,(ai (s_e (ay (A1 T) (Br.hm hr) rfl T.Em T.Am.kp T.vH (aa (d_v 2) ah)))
  (ai (JU 3 ["n","record","k","layers","numbers","moment","a","b","number"] ["layer"] gH.nd (c_n 9 Dg rfl rfl) (sF rfl T.bJ (aa (d_v 2) ah)) (fun _ _ _ _ _=>bR) (fun _ _ _ _ _=>(Gx rfl rfl T.dJ rfl T.bJ (aa (d_v 0) ah))))
  (ai (s_a 4 gH.nd (cN ah))
  (ai (dO PassesOwn.never rfl (J0 rfl T.l7 (d_v 1)) (g_t rfl (bh 5 gH.nd (bh 6 gH.nd (bh 7 gH.nd iU))))
  (ai (s_a 8 gH.nd (ay (IA T) (Br.hm hr) rfl T.KW T.EJ.kp T.Ax (aa (d_v 3) (aa (d_v 6) (aa (d_v 7) ah)))))
  (ai (cL (yM (d_v 8) d_i) (aq (D3 3 (g9 (d_v 8) d_i) (ay (Ip T) (Br.hm hr) rfl T.KL T.EC.kp T.Aw (aa (aL (d_v 3) (g9 (d_v 8) d_i)) (aa (d_v 6) (aa (d_v 7) ah)))))) bL)
  (aq (pT 4 (d_v 8))))))
  (aq (s_r (Co rfl rfl T.dJ rfl T.l7 (d_v 4)))))))),bg (n:=3) (m:=6) rfl h⟩
theorem IB :
  aQ P' w K mg base CX0 6 lB gm ["n","thing"] (spD vd):=by
 refine T.EK.ok HY (fun vs H Q E h=>aE h) (fun cdv A outer s H vs Q E hr h=>?_)
 obtain ⟨iF,qM⟩:=T.l8
 exact ⟨_,(ai (cL (t_w (w_or (eG (dN (ay (Ih T) (Br.hm hr) rfl T.KA T.Eu.kp T.Az (aa (d_v 0) ah)))) (w_or (eG (dN (pU yP (by rfl) rfl T.dJ rfl T.bW (d_v 1)))) (ji (yM (ia rfl T.iE (aa (d_v 1) ah)) (d_g rfl qM)))))) (aq (s_r d_b)) bL)
  (ai (cL (eG (dN (D4 rfl rfl T.Ej (aa (cO 1 ["n","thing"] ["tie"] (c_n 2 Dh rfl rfl) (d_v 1) (fun _ _ _ _ _=>bR) (fun _ _ _ _ _=>(ay (Ik T) (Br.hm hr) rfl T.KG T.Ey.kp T.AA (aa (d_v 0) (aa (d_v 2) ah))))) ah)))) (aq (s_r d_b)) bL)
  (aq (s_r (ay (Il T) (Br.hm hr) rfl T.KH T.Ez.kp T.AB (aa (cO 1 ["n","thing"] ["tie"] (c_n 2 Di rfl rfl) (d_v 1) (fun _ _ _ _ _=>bR) (fun _ _ _ _ _=>(aL (d_v 2) d_i))) ah)))))),bg (n:=2) (m:=0) rfl h⟩
theorem A4 :
  aQ P' w K mg base CX0 1 lC gn ["record","t"] (spD qj):=by
 refine T.AD.ok HZ (fun vs H Q E h=>aE h) (fun cdv A outer s H vs Q E hr h=>?_)
 exact ⟨_,(aq (s_r (cO 0 ["record","t"] ["tie"] (c_n 2 Dj rfl rfl) (d_v 0) (fun _ _ _ _ _=>cH (Gk (aL (d_v 2) d_i) (d_v 1))) (fun _ _ _ _ _=>(d_v 2))))),bg (n:=2) (m:=0) rfl h⟩
theorem IC :
  aQ P' w K mg base CX0 7 lD gp ["thing"] (spD ve):=by
 refine T.EL.ok H_ (fun vs H Q E h=>aE h) (fun cdv A outer s H vs Q E hr h=>?_)
 exact ⟨_,(ai (cL (t_w (w_or (eG (dN (pU kit_tuple (by rfl) rfl T.jO rfl T.bW (d_v 0)))) (ji (h_ hr (ia rfl T.iE (aa (d_v 0) ah)) d_i)))) (aq (s_r d_b)) bL)
  (ai (cL (t_w (w_or (eG (dN (ay (A0 T) (Br.hm hr) rfl T.El T.Aj.kp T.vF (aa (aL (d_v 0) d_i) ah)))) (ji (eG (dN (ay (IB T) (Br.hm hr) rfl T.KY T.EK.kp T.AE (aa (aL (d_v 0) d_i) (aa (aL (d_v 0) d_i) ah)))))))) (aq (s_r d_b)) bL)
  (aq (s_r (JM hr d_i (ay (A3 T) (Br.hm hr) rfl T.Ep T.Ay.kp T.vJ (aa (aL (d_v 0) d_i) (aa (aL (d_v 0) d_i) (aa (aL (d_v 0) d_i) ah))))))))),bg (n:=1) (m:=0) rfl h⟩
theorem ID :
  aQ P' w K mg base CX0 8 lE gq ["thing"] (spD vf):=by
 refine T.EM.ok Ia (fun vs H Q E h=>aE h) (fun cdv A outer s H vs Q E hr h=>?_)
 exact ⟨_,(aq (cL (eG (dN (ay (IC T) (Br.hm hr) rfl T.KZ T.EL.kp T.AF (aa (d_v 0) ah)))) (aq nY) bL)),bg (n:=1) (m:=0) rfl h⟩
theorem IE :
  aQ P' w K mg base CX0 6 lF gu ["n","record","k"] (spD vg):=by
 refine T.EN.ok AX (fun vs H Q E h=>aE h) (fun cdv A outer s H vs Q E hr h=>?_)
 exact ⟨_,(ai (s_a 3 AX.nd (ay (A3 T) (Br.hm hr) rfl T.Ep T.Ay.kp T.vJ (aa (d_v 0) (aa (d_v 1) (aa (d_v 2) ah)))))
  (aq (s_r (j4 (aa (d_v 0) (aa (d_v 2) (aa (yS ["n","record","k","numbers"] ["tie","number"] (c_t rfl (fun _ _ _ _ _=>(bh 4 vO (bh 5 vO iU)))) (J1 rfl T.Ky (aa (d_v 1) (aa (d_v 3) ah))) (fun _ _ _ _ _=>cH (yM (d_v 5) d_i)) (fun _ _ _ _ _=>(d_v 4))) ah))))))),bg (n:=3) (m:=1) rfl h⟩
theorem oN :
  aQ P' w K mg base CX0 6 iB i9 ["n","record","a","b","most","t"] (spD ju):=by
 refine T.l9.ok AY (fun vs H Q E h=>aE h) (fun cdv A outer s H vs Q E hr h=>?_)
 exact ⟨_,(ai (s_e (ay (Io T) (Br.hm hr) rfl T.KJ T.EB.kp T.AG (aa (d_v 0) (aa (d_v 2) (aa (d_v 3) ah)))))
  (ai (s_a 6 AY.nd (ay (vP T) (Br.hm hr) rfl T.C4 T.Ah.kp T.xF (a_c (d_v 0) (a_c (ay (A4 T) (Br.hm hr) rfl T.Er T.AD.kp T.vK (aa (d_v 1) (aa (d_v 5) ah))) (a_c (d_v 2) (a_c (d_v 3) (a_c (d_v 4) ah rfl) rfl) rfl) rfl) rfl)))
  (aq (s_r (j4 (aa (ia rfl T.iE (aa (aL (d_v 6) d_i) ah)) (aa (aL (d_v 6) d_i) (aa (aL (d_v 6) d_i) ah)))))))),bg (n:=6) (m:=1) rfl h⟩
theorem t8 :
  aQ P' w K mg base CX0 9 iD i_ ["net","a","b","t"] (spD kF):=by
 refine T.nD.ok Ib (fun vs H Q E h=>aE h) (fun cdv A outer s H vs Q E hr h=>?_)
 exact ⟨_,(ai (s_e (ay (ID T) (Br.hm hr) rfl T.K0 T.EM.kp T.AH (aa (d_v 0) ah)))
  (aq (s_r (ay (oN T) (Br.hm hr) rfl T.vE T.l9.kp T.vL (a_c (aL (d_v 0) d_i) (a_c (aL (d_v 0) d_i) (a_c (d_v 1) (a_c (d_v 2) (a_c (aL (d_v 0) d_i) (a_c (d_v 3) ah rfl) rfl) rfl) rfl) rfl) rfl))))),bg (n:=4) (m:=0) rfl h⟩
theorem IF :
  aQ P' w K mg base CX0 1 lG gv ["script","k"] (spD qk):=by
 refine T.EO.ok Ic (fun vs H Q E h=>aE h) (fun cdv A outer s H vs Q E hr h=>?_)
 exact ⟨_,(ai (cL (JN (d_v 1) (ia rfl T.iE (aa (d_v 0) ah))) (aq (s_r (aL (d_v 0) (d_v 1)))) bL)
  (aq (s_r d_i))),bg (n:=2) (m:=0) rfl h⟩
theorem A5 :
  aQ P' w K mg base CX0 2 lH gw ["script","at"] (spD nu):=by
 refine T.AJ.ok e7 (fun vs H Q E h=>aE h) (fun cdv A outer s H vs Q E hr h=>?_)
 exact ⟨_,(ai (s_a 2 e7.nd (ay (IF T) (Br.hm hr) rfl T.K2 T.EO.kp T.AI (aa (d_v 0) (aa (d_v 1) ah))))
  (ai (cL (Gk (d_v 2) (yL d_i d_i)) (aq (s_r (cN (aa (d_v 2) ah)))) bL)
  (ai (s_a 3 e7.nd d_i)
  (ai (dO PassesOwn.never rfl (sF rfl T.bJ (aa d_i ah)) (g_n 4 e7.nd)
  (ai (s_a 5 e7.nd (jf (g_ (bQ (bQ (bQ (jf (d_v 2) d_i) (g_ (g_ d_i (d_v 4)) (d_v 4))) (g_ d_i (d_v 1))) d_i) d_i) d_i))
  (ai (s_a 5 e7.nd (jf (g_ (d_v 5) (d_v 5)) d_i))
  (ai (s_a 5 e7.nd (jf (g_ (bQ (d_v 5) (g_ d_i (d_v 4))) d_i) d_i))
  (aq (s_a 3 e7.nd (bQ (g_ (d_v 3) d_i) (jf (D0 (d_v 5) d_i) d_i))))))))
  (aq (s_r (cN (aa (d_v 3) ah)))))))),bg (n:=2) (m:=4) rfl h⟩
theorem cu :
  aQ P' w K mg base CX0 1 lI gy ["pool","many"] (spM bX):=by
 refine T.dh.ok AZ (fun vs H Q E h=>jK h) (fun cdv A outer s H vs Q E hr h=>?_)
 exact ⟨_,(ai (s_a 2 AZ.nd (jf (aL (d_v 0) d_i) (d_v 1)))
  (ai (D3 0 d_i (D0 (aL (d_v 0) d_i) (d_v 1)))
  (aq (s_r (d_v 2))))),ze (n:=2) (m:=1) rfl h⟩
theorem IG :
  aQ P' w K mg base CX0 2 lJ gA ["pool","n","most"] (spM ql):=by
 refine T.ER.ok ck (fun vs H Q E h=>jK h) (fun cdv A outer s H vs Q E hr h=>?_)
 exact ⟨_,(ai (s_a 3 ck.nd (br (cu T) (Br.hm hr) rfl T.dS T.dh.kp T.cQ (aa (d_v 0) (aa (bQ (d_v 2) d_i) ah))))
  (ai (s_a 4 ck.nd (br (cu T) (Br.hm hr) rfl T.dS T.dh.kp T.cQ (aa (d_v 0) (aa d_i ah))))
  (ai (s_a 5 ck.nd (br (cu T) (Br.hm hr) rfl T.dS T.dh.kp T.cQ (aa (d_v 0) (aa d_i ah))))
  (ai (s_a 6 ck.nd (cN ah))
  (ai (dO PassesOwn.never rfl (sF rfl T.bJ (aa (d_v 3) ah)) (g_n 7 ck.nd)
  (ai (s_a 8 ck.nd (br (cu T) (Br.hm hr) rfl T.dS T.dh.kp T.cQ (aa (d_v 0) (aa (d_v 1) ah))))
  (ai (s_a 9 ck.nd (br (cu T) (Br.hm hr) rfl T.dS T.dh.kp T.cQ (aa (d_v 0) (aa (d_v 1) ah))))
  (ai (cL (t_w (w_and (yM (d_v 4) d_i) (sD (sC hr (d_v 8) (d_v 9))))) (aq (s_a 9 ck.nd (jf (bQ (d_v 8) d_i) (d_v 1)))) bL)
  (ai (cL (t_w (w_and (yM (d_v 7) d_i) (sD (sC hr (br (cu T) (Br.hm hr) rfl T.dS T.dh.kp T.cQ (aa (d_v 0) (aa d_i ah))) d_i)))) (ai (s_a 8 ck.nd (aL (aL (d_v 6) (g9 (d_v 7) d_i)) d_i))
  (aq (s_a 9 ck.nd (aL (aL (d_v 6) (g9 (d_v 7) d_i)) d_i)))) bL)
  (ai (pT 6 (j4 (aa (d_v 5) (aa (nX rfl rfl T.qI (aa (d_v 8) (aa (d_v 9) ah))) (aa (yN rfl rfl T.Ek (aa (d_v 8) (aa (d_v 9) ah))) ah)))))
  (aq (s_a 5 ck.nd (bQ (bQ (d_v 5) d_i) (g_ (br (cu T) (Br.hm hr) rfl T.dS T.dh.kp T.cQ (aa (d_v 0) (aa (aL (cN (aa d_i (aa d_i (aa d_i ah)))) (d_v 4)) ah))) (aL (cN (aa d_i (aa d_i (aa (yL d_i d_i) ah)))) (d_v 4))))))))))))
  (aq (s_r (d_v 6)))))))),ze (n:=3) (m:=7) rfl h⟩
theorem II :
  aQ P' w K mg base CX0 1 lK gB ["record","side"] (spD vh):=by
 refine T.ES.ok Ie (fun vs H Q E h=>aE h) (fun cdv A outer s H vs Q E hr h=>?_)
 exact ⟨_,(aq (s_r (cO 0 ["record","side"] ["moment","a","b"] (c_t rfl (fun _ _ _ _ _=>(bh 2 oK (bh 3 oK (bh 4 oK iU))))) (d_v 0) (fun _ _ _ _ _=>cH (h_ hr (wB hr (d_v 3) (d_v 1)) (wB hr (d_v 4) (d_v 1)))) (fun _ _ _ _ _=>(d_v 2))))),bg (n:=2) (m:=0) rfl h⟩
theorem IJ :
  aQ P' w K mg base CX0 1 lM gC ["n"] (spD qo):=by
 refine T.ET.ok t7 (fun vs H Q E h=>aE h) (fun cdv A outer s H vs Q E hr h=>?_)
 exact ⟨_,(ai (s_a 1 t7.nd (cN ah))
  (ai (dO PassesOwn.never rfl (Ce rfl T.bJ (aa d_i (aa (J2 d_i (g9 (d_v 0) d_i)) ah))) (g_n 2 t7.nd)
  (aq (pT 1 (uI rfl T.jO (aa (yS ["n","found","bits"] ["place"] (c_n 3 Dl rfl rfl) (Ce rfl T.bJ (aa d_i (aa (d_v 0) ah))) (fun _ _ _ _ _=>cH (sC hr (Gj (JL (d_v 2) (g9 (d_v 3) d_i)) d_i) d_i)) (fun _ _ _ _ _=>(d_v 3))) ah)))))
  (aq (s_r (d_v 1))))),bg (n:=1) (m:=2) rfl h⟩
theorem A6 :
  aQ P' w K mg base CX0 2 lO gD ["n","ties","a","b"] (spD qp):=by
 refine T.AM.ok Ig (fun vs H Q E h=>aE h) (fun cdv A outer s H vs Q E hr h=>?_)
 exact ⟨_,(aq (s_r (GZ rfl rfl T.qI (aa (yS ["n","ties","a","b"] ["side"] (c_n 4 Dq rfl rfl) (i_S (ay (IJ T) (Br.hm hr) rfl T.K5 T.ET.kp T.AL (aa (d_v 0) ah))) (fun _ _ _ _ _=>cH (h_ hr (wB hr (d_v 2) (d_v 4)) (wB hr (d_v 3) (d_v 4)))) (fun _ _ _ _ _=>(ia rfl T.iE (aa (ay (II T) (Br.hm hr) rfl T.K4 T.ES.kp T.AK (aa (d_v 1) (aa (d_v 4) ah))) ah)))) ah)))),bg (n:=4) (m:=0) rfl h⟩
theorem IK :
  aQ P' w K mg base CX0 10 lP gE ["n","record","k","t","a","b"] (spD (vj bD aV)):=by
 refine T.EU.ok gI (fun vs H Q E h=>aE h) (fun cdv A outer s H vs Q E hr h=>?_)
 exact ⟨_,(ai (s_a 6 gI.nd (ay (IE T) (Br.hm hr) rfl T.K1 T.EN.kp T.AQ (aa (d_v 0) (aa (iR rfl T.dJ (aa (d_v 1) ah)) (aa (d_v 2) ah)))))
  (ai (s_a 7 gI.nd (aL (ay (Iz T) (Br.hm hr) rfl T.KU T.EI.kp T.AO (aa (d_v 0) (aa (iR rfl T.dJ (aa (d_v 1) ah)) (aa (d_v 2) ah)))) d_i))
  (ai (uK 8 1 ["n","record","k","t","a","b","net","moments","kept","due","late"] ["tie"] gI.nd (c_n 11 Dr rfl rfl) (d_v 1) (fun _ _ _ _ _=>cH (LS hr (aL (d_v 11) d_i) (d_v 7))) (fun _ _ _ _ _=>(d_v 11)))
  (ai (s_a 9 gI.nd (nX rfl rfl T.qI (aa (d_v 2) (aa (ay (A6 T) (Br.hm hr) rfl T.Et T.AM.kp T.vM (aa (d_v 0) (aa (d_v 1) (aa (d_v 4) (aa (d_v 5) ah))))) ah))))
  (ai (cL (t_w (w_or (h_ hr (aL (jL (oN T) (Br.hm hr) rfl T.vE T.l9.kp T.oH (a_c (d_v 0) (a_c (iR rfl T.dJ (aa (d_v 1) ah)) (a_c (d_v 4) (a_c (d_v 5) (a_c (d_v 2) ah rfl) rfl) rfl) rfl) rfl)) d_i) (d_v 9)) (ji (h_ hr (aL (jL (t8 T) (Br.hm hr) rfl T.Ag T.nD.kp T.oJ (aa (d_v 6) (aa (d_v 4) (aa (d_v 5) ah)))) d_i) (d_v 9))))) (aq (s_r d_b)) bL)
  (ai (cL (t_w (w_or (h_ hr (aL (jL (oN T) (Br.hm hr) rfl T.vE T.l9.kp T.oH (a_c (d_v 0) (a_c (d_v 8) (a_c (d_v 4) (a_c (d_v 5) (a_c (d_v 2) ah rfl) rfl) rfl) rfl) rfl)) d_i) (d_v 9)) (ji (h_ hr (aL (jL (t8 T) (Br.hm hr) rfl T.Ag T.nD.kp T.oJ (aa (d_v 6) (aa (d_v 5) (aa (d_v 4) ah)))) d_i) (d_v 9))))) (aq (s_r d_b)) bL)
  (ai (uK 10 1 ["n","record","k","t","a","b","net","moments","kept","due","late"] ["tie"] gI.nd (c_n 11 Dt rfl rfl) (d_v 1) (fun _ _ _ _ _=>cH (Gk (aL (d_v 11) d_i) (d_v 3))) (fun _ _ _ _ _=>(d_v 11)))
  (ai (s_a 9 gI.nd (nX rfl rfl T.qI (aa (d_v 2) (aa (ay (A6 T) (Br.hm hr) rfl T.Et T.AM.kp T.vM (aa (d_v 0) (aa (d_v 10) (aa (d_v 4) (aa (d_v 5) ah))))) ah))))
  (ai (cL (t_w (w_or (h_ hr (aL (ay (oN T) (Br.hm hr) rfl T.vE T.l9.kp T.vL (a_c (d_v 0) (a_c (iR rfl T.dJ (aa (d_v 1) ah)) (a_c (d_v 4) (a_c (d_v 5) (a_c (d_v 2) (a_c (d_v 3) ah rfl) rfl) rfl) rfl) rfl) rfl)) d_i) (d_v 9)) (ji (h_ hr (aL (ay (t8 T) (Br.hm hr) rfl T.Ag T.nD.kp T.AR (aa (d_v 6) (aa (d_v 4) (aa (d_v 5) (aa (d_v 3) ah))))) d_i) (d_v 9))))) (aq (s_r d_b)) bL)
  (aq (s_r (LO hr (ay (A4 T) (Br.hm hr) rfl T.Er T.AD.kp T.vK (aa (iR rfl T.dJ (aa (d_v 1) ah)) (aa (d_v 3) ah))) (d_v 10))))))))))))),bg (n:=6) (m:=5) rfl h⟩
theorem IL :
  aQ P' w K mg base CX0 11 lQ ja ["script"] (spD (kG bD aV)):=by
 refine T.Ld.ok cK (fun vs H Q E h=>aE h) (fun cdv A outer s H vs Q E hr h=>?_)
 exact ⟨_,(ai (s_a 1 cK.nd (ay (A5 T) (Br.hm hr) rfl T.Es T.AJ.kp T.vN (aa (d_v 0) (aa d_i ah))))
  (ai (s_a 2 cK.nd (bQ d_i (br (cu T) (Br.hm hr) rfl T.dS T.dh.kp T.cQ (aa (d_v 1) (aa d_i ah)))))
  (ai (dO PassesOwn.never rfl (Ce rfl T.bJ (aa d_i (aa (yN rfl rfl T.Ek (aa d_i (aa (nX rfl rfl T.qI (aa d_i (aa (ia rfl T.iE (aa (d_v 0) ah)) ah))) ah))) ah))) (g_n 3 cK.nd)
  (ai (s_a 1 cK.nd (ay (A5 T) (Br.hm hr) rfl T.Es T.AJ.kp T.vN (aa (d_v 0) (aa (d_v 3) ah))))
  (ai (s_a 4 cK.nd (bQ d_i (br (cu T) (Br.hm hr) rfl T.dS T.dh.kp T.cQ (aa (d_v 1) (aa (aL (cN (aa d_i (aa d_i ah))) (br (cu T) (Br.hm hr) rfl T.dS T.dh.kp T.cQ (aa (d_v 1) (aa d_i ah)))) ah)))))
  (ai (s_a 5 cK.nd (br (IG T) (Br.hm hr) rfl T.K3 T.ER.kp T.AS (aa (d_v 1) (aa (d_v 2) (aa d_i ah)))))
  (ai (s_a 6 cK.nd (bQ (bQ (cN (aa d_i ah)) (cO 5 ["script","pool","n","at","k","record","moments","t","a","b"] ["tie"] (c_n 10 Du rfl rfl) (d_v 5) (fun _ _ _ _ _=>bR) (fun _ _ _ _ _=>(bQ (aL (d_v 10) d_i) d_i)))) (cO 5 ["script","pool","n","at","k","record","moments","t","a","b"] ["tie"] (c_n 10 Dv rfl rfl) (d_v 5) (fun _ _ _ _ _=>bR) (fun _ _ _ _ _=>(aL (d_v 10) d_i)))))
  (ai (s_a 7 cK.nd (aL (d_v 6) (br (cu T) (Br.hm hr) rfl T.dS T.dh.kp T.cQ (aa (d_v 1) (aa (ia rfl T.iE (aa (d_v 6) ah)) ah)))))
  (aq (dO PassesOwn.never rfl (sF rfl T.bJ (aa (d_v 2) ah)) (g_n 8 cK.nd)
  (ai (s_a 9 cK.nd (jf (bQ (bQ (d_v 8) d_i) (br (cu T) (Br.hm hr) rfl T.dS T.dh.kp T.cQ (aa (d_v 1) (aa (g9 (d_v 2) d_i) ah)))) (d_v 2)))
  (aq (cL (eG (dN (ay (IK T) (Br.hm hr) rfl T.K6 T.EU.kp T.AU (a_c (d_v 2) (a_c (d_v 5) (a_c (d_v 4) (a_c (d_v 7) (a_c (d_v 8) (a_c (d_v 9) ah rfl) rfl) rfl) rfl) rfl) rfl)))) (aq (s_r d_b)) bL)))))))))))
  (aq (s_r d_b))))),bg (n:=1) (m:=9) rfl h⟩
end
theorem all_mk {l:PySem.W.OpenLaw} {w:World} {K:PySem.W.Frag} {h:Heap} {mg:Str→Option Value} {fa tO tP tQ tR tS tT tU bD tW tX kP kQ kR kT kU kW kX kY kZ k7 k8 k9 k_ lg aV lq lu ly lz lA lB lC lD lE lF iB iD lG lH lI lJ lK lM lO lP lQ:Addr} {lR lT lU lV lW lX lY lZ l0 l6 fQ fR fS fT fU fV fW fX fY fZ f6 f7 f9 f_ gb gf gg gh gj gk gm gn gp gq gu gv gw gy gA gB gC gD gE ja:FuncData} (X:K.In h) (G:h.Ns mainGlobals mg) (hfa:mg "law" = some (.ref fa))
  {IM oO:Option Addr} {IP:Array (Option Value)} {IQ oQ oR oS mh oU:Value} {mj:Addr} {gF:Tok} {t_:Nat} {qN:Value} {qO:Option Addr} {qP:Array (Option Value)}
  {IS oV:Option Addr} {IT:Array (Option Value)} {IU oW oX oY mq oZ:Value} {mw:Addr} {gG:Tok} {Dw:Nat} {A7:Value} {A8:Option Addr} {A9:Array (Option Value)}
  {iF:Tok}
  (A_:aX K "steps_of" (top 3) tO lR)
  (Ba:aX K "free_steps" (top 4) tP lT)
  (Bb:aX K "led_steps" (top 5) tQ lU)
  (Bc:aX K "shortest_ways" (top 6) tR lV)
  (Bd:aX K "lead_along" (top 7) tS lW)
  (Be:aX K "parted" (top 8) tT lX)
  (Bf:aX K "ways_apart" (top 1) tU lY)
  (Bg:aX K "hang_often" (top 2) bD lZ)
  (Bh:aX K "is_whole" (top 15) tW l0)
  (Bj:aX K "is_within" (top 16) tX l6)
  (qQ:aX K "is_places" (top 17) kP fQ)
  (qR:aX K "is_place" (top 18) kQ fR)
  (qS:aX K "is_layers" (top 19) kR fS)
  (qT:aX K "is_moment" (top 20) kT fT)
  (qU:aX K "is_tie_either_way" (top 21) kU fU)
  (qV:aX K "is_tie" (top 22) kW fV)
  (qW:aX K "is_rising" (top 23) kX fW)
  (qX:aX K "is_pair" (top 24) kY fX)
  (qY:aX K "look_at_layers" (top 25) kZ fY)
  (qZ:aX K "look_at_pair" (top 26) k7 fZ)
  (q_:aX K "merged" (top 28) k8 f6)
  (rj:aX K "without" (top 32) k9 f7)
  (rm:aX K "kept_ties" (top 31) k_ f9)
  (rq:aX K "no_ways" (top 34) lg f_)
  (rz:aX K "ways_by_ties" (top 35) aV gb)
  (rA:aX K "ways_out" (top 33) lq gf)
  (rB:aX K "side_for" (top 36) lu gg)
  (rC:aX K "pared" (top 30) ly gh)
  (rD:aX K "least_layer" (top 39) lz gj)
  (rE:aX K "layered" (top 38) lA gk)
  (rF:aX K "is_record" (top 42) lB gm)
  (rG:aX K "since" (top 43) lC gn)
  (rH:aX K "is_net" (top 45) lD gp)
  (rJ:aX K "look_at_net" (top 46) lE gq)
  (rK:aX K "net_of" (top 47) lF gu)
  (Bk:PySem.W.nsIn K mainGlobals "hang_of" = some (some (.ref iB))) (Bl:K.lookup iB=some ⟨IQ,IM,.func (PySem.W.fnOf "hang_of" "hang_of" (aJ (top 49)) (aI (top 49)) (af (top 49)) (.ref mj) oQ oR oS oO mh oU),IP⟩) (Bm:PySem.W.codeIn K mh "hang_of" = true) (Bo:PySem.W.keepIn K (.ref iB)=true)
  (vR:K.lookup mj=some ⟨qN,qO,.seq #[.int 0 gF] t_,qP⟩)
  (Bp:PySem.W.nsIn K mainGlobals "hang" = some (some (.ref iD))) (Bq:K.lookup iD=some ⟨IU,IS,.func (PySem.W.fnOf "hang" "hang" (aJ (top 50)) (aI (top 50)) (af (top 50)) (.ref mw) oW oX oY oV mq oZ),IT⟩) (Bs:PySem.W.codeIn K mq "hang" = true) (Bt:PySem.W.keepIn K (.ref iD)=true)
  (vS:K.lookup mw=some ⟨A7,A8,.seq #[.int 0 gG] Dw,A9⟩)
  (rL:aX K "_law_cell_at" (top 52) lG gv)
  (rM:aX K "_law_pool" (top 53) lH gw)
  (rN:aX K "_law_take" (top 54) lI gy)
  (rO:aX K "_law_record" (top 55) lJ gA)
  (rP:aX K "_law_rim" (top 56) lK gB)
  (rQ:aX K "_law_sides" (top 57) lM gC)
  (rR:aX K "_law_often" (top 58) lO gD)
  (rS:aX K "_law_alike" (top 59) lP gE)
  (nF:aX K "law" (top 60) lQ ja)
  (Bu:PySem.W.nsIn K mainGlobals "all" = some none)
  (ua:PySem.W.nsIn K mainGlobals "bool" = some none)
  (uc:PySem.W.nsIn K mainGlobals "dict" = some none)
  (e8:PySem.W.nsIn K mainGlobals "enumerate" = some none)
  (Bv:PySem.W.nsIn K mainGlobals "int" = some none)
  (dM:PySem.W.nsIn K mainGlobals "isinstance" = some none)
  (Bw:PySem.W.nsIn K mainGlobals "len" = some none)
  (ud:PySem.W.nsIn K mainGlobals "list" = some none)
  (Bx:PySem.W.nsIn K mainGlobals "max" = some none)
  (By:PySem.W.nsIn K mainGlobals "min" = some none)
  (o6:PySem.W.nsIn K mainGlobals "range" = some none)
  (gJ:PySem.W.nsIn K mainGlobals "reversed" = some none)
  (mz:PySem.W.nsIn K mainGlobals "sorted" = some none)
  (o7:PySem.W.nsIn K mainGlobals "tuple" = some none)
  (BA:PySem.W.nsIn K mainGlobals "zip" = some none)
  (e_:PySem.W.nsIn K mainGlobals "MOST_TIES" = some (some (.int 60 iF))) :
  ∃ fd:FuncData,(∀ (s:Shared) (v:Value),BindsTo s fd ⟨[v],[]⟩ [("script",v)])∧∀ base:Heap,K.In base→base.Ns mainGlobals mg→aQ l.prog w K mg base CX0 11 fa fd ["script"] (spD (kG bD aV)):=by
 have e:=hfa.symm.trans (nF.m X G)
 cases e
 have Hu:=A_.F.bK (ps:=["n","ties"]) rfl fun _ _ _ _ _ _ _ _=>rfl
 have Hv:=Ba.F.bK (ps:=["steps","heads"]) rfl fun _ _ _ _ _ _ _ _=>rfl
 have Ht:=Bb.F.bK (ps:=["steps","heads"]) rfl fun _ _ _ _ _ _ _ _=>rfl
 have C6:=Bc.F.bK (ps:=["steps","a"]) rfl fun _ _ _ _ _ _ _ _=>rfl
 have Hw:=Bd.F.bK (ps:=["heads","way"]) rfl fun _ _ _ _ _ _ _ _=>rfl
 have Hx:=Be.F.kB (ps:=["steps","heads","a","b","count"]) rfl fun _ _ _ _ _ _ _ _ _ _ _=>rfl
 have xF:=Bf.F.kB (ps:=["n","ties","a","b","most"]) rfl fun _ _ _ _ _ _ _ _ _ _ _=>rfl
 have Hz:=Bg.F.kB (ps:=["n","ties","a","b","times"]) rfl fun _ _ _ _ _ _ _ _ _ _ _=>rfl
 have Hy:=Bh.F.cT (ps:=["thing"]) rfl fun _ _ _ _ _ _ _=>rfl
 have xG:=Bj.F.dI (ps:=["thing","low","high"]) rfl fun _ _ _ _ _ _ _ _ _=>rfl
 have Az:=qQ.F.cT (ps:=["thing"]) rfl fun _ _ _ _ _ _ _=>rfl
 have nC:=qR.F.bK (ps:=["n","thing"]) rfl fun _ _ _ _ _ _ _ _=>rfl
 have vF:=qS.F.cT (ps:=["thing"]) rfl fun _ _ _ _ _ _ _=>rfl
 have Ak:=qT.F.cT (ps:=["thing"]) rfl fun _ _ _ _ _ _ _=>rfl
 have Al:=qU.F.bK (ps:=["n","thing"]) rfl fun _ _ _ _ _ _ _ _=>rfl
 have AA:=qV.F.bK (ps:=["n","thing"]) rfl fun _ _ _ _ _ _ _ _=>rfl
 have AB:=qW.F.cT (ps:=["things"]) rfl fun _ _ _ _ _ _ _=>rfl
 have An:=qX.F.dI (ps:=["n","a","b"]) rfl fun _ _ _ _ _ _ _ _ _=>rfl
 have vH:=qY.F.cT (ps:=["k"]) rfl fun _ _ _ _ _ _ _=>rfl
 have AG:=qZ.F.dI (ps:=["n","a","b"]) rfl fun _ _ _ _ _ _ _ _ _=>rfl
 have Aw:=q_.F.dI (ps:=["groups","a","b"]) rfl fun _ _ _ _ _ _ _ _ _=>rfl
 have vG:=rj.F.bK (ps:=["ties","tie"]) rfl fun _ _ _ _ _ _ _ _=>rfl
 have As:=rm.F.sV (ps:=["n","record","k","often"]) rfl fun _ _ _ _ _ _ _ _ _ _=>rfl
 have Aq:=rq.F.cT (ps:=["k"]) rfl fun _ _ _ _ _ _ _=>rfl
 have Ar:=rz.F.kB (ps:=["n","kept","a","b","k"]) rfl fun _ _ _ _ _ _ _ _ _ _ _=>rfl
 have Au:=rA.F.kB (ps:=["n","record","kept","k","ways_of"]) rfl fun _ _ _ _ _ _ _ _ _ _ _=>rfl
 have Av:=rB.F.sV (ps:=["n","kept","tie","k"]) rfl fun _ _ _ _ _ _ _ _ _ _=>rfl
 have AO:=rC.F.dI (ps:=["n","record","k"]) rfl fun _ _ _ _ _ _ _ _ _=>rfl
 have Ax:=rD.F.dI (ps:=["layers","a","b"]) rfl fun _ _ _ _ _ _ _ _ _=>rfl
 have vJ:=rE.F.dI (ps:=["n","record","k"]) rfl fun _ _ _ _ _ _ _ _ _=>rfl
 have AE:=rF.F.bK (ps:=["n","thing"]) rfl fun _ _ _ _ _ _ _ _=>rfl
 have vK:=rG.F.bK (ps:=["record","t"]) rfl fun _ _ _ _ _ _ _ _=>rfl
 have AF:=rH.F.cT (ps:=["thing"]) rfl fun _ _ _ _ _ _ _=>rfl
 have AH:=rJ.F.cT (ps:=["thing"]) rfl fun _ _ _ _ _ _ _=>rfl
 have AQ:=rK.F.dI (ps:=["n","record","k"]) rfl fun _ _ _ _ _ _ _ _ _=>rfl
 have l9:=uQ (st:=top 49) Bl Bm Bo
 have vL:Binds K (PySem.W.fnOf "hang_of" "hang_of" (aJ (top 49)) (aI (top 49)) (af (top 49)) (.ref mj) oQ oR oS oO mh oU) ["n","record","a","b","most","t"] []:=fun s us hIn hl=>match us,hl with | [_,_,_,_,_,_],_=>PySem.W.binds_K hIn rfl vR rfl rfl rfl
 have oH:Binds K (PySem.W.fnOf "hang_of" "hang_of" (aJ (top 49)) (aI (top 49)) (af (top 49)) (.ref mj) oQ oR oS oO mh oU) ["n","record","a","b","most","t"] [.int 0 gF]:=fun s us hIn hl=>GX (C:=fun us=>BindsTo s (PySem.W.fnOf "hang_of" "hang_of" (aJ (top 49)) (aI (top 49)) (af (top 49)) (.ref mj) oQ oR oS oO mh oU) ⟨us,[]⟩ ((["n","record","a","b","most","t"]:List Str).zip (us++[.int 0 gF]))) (by simpa using hl) fun _ _ _ _ _=>PySem.W.binds_K hIn rfl vR rfl rfl rfl
 have nD:=uQ (st:=top 50) Bq Bs Bt
 have AR:Binds K (PySem.W.fnOf "hang" "hang" (aJ (top 50)) (aI (top 50)) (af (top 50)) (.ref mw) oW oX oY oV mq oZ) ["net","a","b","t"] []:=fun s us hIn hl=>match us,hl with | [_,_,_,_],_=>PySem.W.binds_K hIn rfl vS rfl rfl rfl
 have oJ:Binds K (PySem.W.fnOf "hang" "hang" (aJ (top 50)) (aI (top 50)) (af (top 50)) (.ref mw) oW oX oY oV mq oZ) ["net","a","b","t"] [.int 0 gG]:=fun s us hIn hl=>GW (C:=fun us=>BindsTo s (PySem.W.fnOf "hang" "hang" (aJ (top 50)) (aI (top 50)) (af (top 50)) (.ref mw) oW oX oY oV mq oZ) ⟨us,[]⟩ ((["net","a","b","t"]:List Str).zip (us++[.int 0 gG]))) (by simpa using hl) fun _ _ _=>PySem.W.binds_K hIn rfl vS rfl rfl rfl
 have AI:=rL.F.bK (ps:=["script","k"]) rfl fun _ _ _ _ _ _ _ _=>rfl
 have vN:=rM.F.bK (ps:=["script","at"]) rfl fun _ _ _ _ _ _ _ _=>rfl
 have cQ:=rN.F.bK (ps:=["pool","many"]) rfl fun _ _ _ _ _ _ _ _=>rfl
 have AS:=rO.F.dI (ps:=["pool","n","most"]) rfl fun _ _ _ _ _ _ _ _ _=>rfl
 have AK:=rP.F.bK (ps:=["record","side"]) rfl fun _ _ _ _ _ _ _ _=>rfl
 have AL:=rQ.F.cT (ps:=["n"]) rfl fun _ _ _ _ _ _ _=>rfl
 have vM:=rR.F.sV (ps:=["n","ties","a","b"]) rfl fun _ _ _ _ _ _ _ _ _ _=>rfl
 have AU:=rS.F.GY (ps:=["n","record","k","t","a","b"]) rfl fun _ _ _ _ _ _ _ _ _ _ _ _=>rfl
 refine ⟨_,fun s v=>nF.L6 (fun _ _ _ _ _ _ _=>rfl) s v,fun base Xb _=>?_⟩
 have T:Txt mg K base _ _ _ _ _ _ _ _ _ _ _ _ _ _ _ _ _ _ _ _ _ _ _ _ _ _ _ _ _ _ _ _ _ _ _ _ _ _ _ _ _ _ _ _ _ _ _ _ _ _ _ _ _ _ _ _ _ _ _ _ _ _ _ _ _ _ _ _ _ _ _ _ _ _ _ _ _ _ _ _ _ _ _ _ _ _ _ _ _ _ _ _ _ _:=⟨mno X G Bu,mno X G ua,mno X G uc,mno X G e8,mno X G Bv,mno X G dM,mno X G Bw,mno X G ud,mno X G Bx,mno X G By,mno X G o6,mno X G gJ,mno X G mz,mno X G o7,mno X G BA,⟨_,mgo X G e_⟩,A_.m X G,Ba.m X G,Bb.m X G,Bc.m X G,Bd.m X G,Be.m X G,Bf.m X G,Bg.m X G,Bh.m X G,Bj.m X G,qQ.m X G,qR.m X G,qS.m X G,qT.m X G,qU.m X G,qV.m X G,qW.m X G,qX.m X G,qY.m X G,qZ.m X G,q_.m X G,rj.m X G,rm.m X G,rq.m X G,rz.m X G,rA.m X G,rB.m X G,rC.m X G,rD.m X G,rE.m X G,rF.m X G,rG.m X G,rH.m X G,rJ.m X G,rK.m X G,mgo X G Bk,mgo X G Bp,rL.m X G,rM.m X G,rN.m X G,rO.m X G,rP.m X G,rQ.m X G,rR.m X G,rS.m X G,nF.m X G,A_.F,Ba.F,Bb.F,Bc.F,Bd.F,Ht,C6,Be.F,Hu,Hv,Hw,Hx,Bf.F,xF,Bg.F,Bh.F,Hy,Bj.F,xG,qQ.F,qR.F,qS.F,qT.F,nC,Ak,qU.F,Al,qV.F,qW.F,qX.F,vF,qY.F,An,qZ.F,q_.F,rj.F,Hz,vG,rm.F,rq.F,rz.F,Aq,Ar,rA.F,rB.F,vH,As,Au,Av,rC.F,rD.F,Aw,Ax,rE.F,Az,AA,AB,rF.F,rG.F,vJ,AE,rH.F,AF,rJ.F,rK.F,AG,vK,l9,AH,vL,oH,nD,rL.F,AI,rM.F,rN.F,cQ,rO.F,rP.F,rQ.F,AK,AL,rR.F,AO,AQ,AR,oJ,vM,rS.F,vN,AS,AU,nF.F⟩
 exact IL T
theorem walk {bD aV:Nat} {l:PySem.W.OpenLaw} {q:Program} {loose:List Str} {XP:(Str→Option Value)→Heap→Prop} {YP:World→Heap→Prop} {d:DefRec} {K:Params→PySem.W.Frag} (hn:l.most=some 63) (hdf:d.params.defaults=[])
  (hY:∀ (w:World) (h:Heap),YP w h→(K w.params).In h) (M:∀ ns:List Int,ns.length≤63→kG bD aV [.lst (ns.map Dat.int)]=some (.val (.bl true))) (hK:∀ w:World,yT (K w.params)=true)
  (F:∀ (w:World) (mg:Str→Option Value) (fa:Addr) (h:Heap),(K w.params).In h→h.Ns mainGlobals mg→mg d.name=some (.ref fa) →
   ∃ fd:FuncData,(∀ (s:Shared) (u:Value),BindsTo s fd ⟨[u],[]⟩ [("script",u)])∧∀ base:Heap,(K w.params).In base→base.Ns mainGlobals mg→aQ l.prog w (K w.params) mg base CX0 11 fa fd ["script"] (spD (kG bD aV))) :
  PySem.W.WalkO q loose XP YP l.row.toRowW d [] (fun f vs=>PySem.call f vs):=
 L2.BP (n:=63) (k:=11) (x := "script") (CX:=fun _=>CX0) (sp:=fun _=>spD (kG bD aV)) hn (by decide) hdf ⟨rfl,by decide,by decide⟩ hY F
  (fun w H a ns hl hO hS=>Gr (M ns hl) (hK w) hS) fun _ _ _ _ _ z=>z
open PySem PySem.W PySem.W.X
theorem BB {q:Program} {loose:List Str} {XP:(Str→Option Value)→Heap→Prop} {r:RowW} {d:DefRec} {kwd:List (Str×Expr)} {run:Value→List Value→Sem Value} {K:Params→Frag} {as:List Addr} {n t:Nat} (e:∀ P,as=(K P).map (·.1))
  (W:WalkO q loose XP (fun w h=>(K w.params).In h) r d kwd run):WalkX q loose XP (obsZ as) (valZ K n t) r d kwd run:=
 fun w s₀ s₁ mg mb G y a o pm cd doc dV kV ho hd hcd hD hmg hg args vals as' L=>W w s₀ s₁ mg mb G (InK.keeps w _ _ (z_facts e y).2.1 L.keeps) a o pm cd doc dV kV ho hd hcd hD hmg hg args vals as'
end Q
noncomputable def PySem.W.Fast.tw13288334869143104752:PySem.Program:=PySem.Challenge.pw_sinceply_k70_whole_often_four_ways
theorem PySem.W.Fast.te13288334869143104752:PySem.Challenge.pw_sinceply_k70_whole_often_four_ways=PySem.W.Fast.tw13288334869143104752:=rfl
namespace PySem.W.Fast
def tw5011277555966374442:=0
def tw18122395041122975255:=0
def tw2758873966660441325:=0
def tw15085770832371504608:=0
def tw5221150083366880922:=0
def tw11793234010634417651:=0
def tw17135369776327779179:=0
def tw8802418937800846547:=0
def tw5513289758691955032:=0
def tw17301679506566977098:=0
def tw18308506359856128115:=0
def tw7494138809768749051:=0
def tw8968384775974997282:=0
def tw9199800753181815477:=0
def tw18077808072481892666:=0
def tw12840915246799980059:=0
def tw3180541007394617783:=0
def tw2431329518190680181:=0
def tw9506111313993607773:=0
def tw8537927692283070144:=0
def tw2861653971994216668:=0
def tw14015365551369703730:=0
def tw4290142270581654248:=0
def tw4891383112421596664:=0
def tw13629642201586240707:=0
def tw807847994338004891:=0
def tw10875344621428712418:=0
def tw5398233192384899777:=0
def tw9159590915955421825:=0
def tw8115308501682363470:=0
def tw2249349541150720521:=0
def tw4397688953585163144:=0
def tw7375110735973240906:=0
def tw13270262961522523502:=0
def tw3692064244895606005:=0
def tw14885248418617973127:=0
def tw2523688834475712300:=0
def tw17459827726059386399:=0
def tw10987657866828900610:=0
def tw16747216200500649367:=0
def tw6925226884910915561:=0
def tw6275939923856842389:=0
def tw2310829067701210578:=0
def tw1283144131529545931:=0
def tw879705460039985210:=0
def tw14774949603432732713:=0
def tw12185060099113612167:=0
def tw6881566696490864545:=0
def tw14059156113797874626:=0
def tw2344942547395592428:=0
def tw16831003488875091614:=0
def tw1127746986152817822:=0
def tw6971381240049213417:=0
def tw7153680794911093075:=0
def tw12203123873218779626:=0
def tw17311438991426034867:=0
def tw5387819547866472718:=0
def tw5343876890169545955:=0
def tw3586320857174947177:=0
def tw18284781532281607692:=0
def tw14859051669784405292:=0
def tw17482974625965067480:=0
def tw8200948313721365984:=0
def tw15899665469779132978:=0
def tw10149939960597228682:=0
def tw488504039014775707:=0
def tw15401644707984972287:=0
def tw17282100835648703651:=0
def tw5066125885598433383:=0
def tw17846954707354150448:=0
def tw7675870138928147091:=0
def tw6233462787636607342:=0
def tw15283075977312009827:=0
def tw10765316061743055706:=0
def tw15702208613574295839:=0
def tw17020432465961977245:=0
def tw12870944957327449920:=0
def tw8976634301091353140:=0
def tw3153009990496460731:=0
def tw1647642462816768745:=0
def tw12348811093261538803:=0
def tw1933361534003463908:=0
def tw4454039225290583706:=0
def tw7508552028121537611:=0
def tw8154638944986844874:=0
def tw1926953228478383344:=0
def tw12246223727444379941:=0
def tw291974090467641764:=0
def tw16713148042142027057:=0
def tw12549078517124747760:=0
def tw7271815003937975999:=0
def tw12085215260076342834:=0
def tw8026922054451768194:=0
def tw1100910726174073563:=0
def tw15057880442990583735:=0
def tw4609457568004844444:=0
def tw787054472053727699:=0
def tw188431082091587332:=0
def tw14102274109590520531:=0
def tw1236523410253702615:=0
def tw1583423178147315344:=0
def tw5798706946531483640:=0
def tw8010509730781614798:=0
def tw15969418525105789812:=0
def tw17908643383014738030:=0
def tw5351857843812835172:=0
def tw18067972728636664711:=0
def tw12180010136859659074:=0
def tw18273607378214148858:=0
def tw2008246812407334705:=0
def tw15876698529928323639:=0
def tw2761192228169333186:=0
def tw8431196717803015944:=0
def tw5741134263743348440:=0
def tw6115786556465879456:=0
def tw13296423676792063437:=0
def tw13551306685334006261:=0
def tw261147996822615303:=0
def tw4640297257880972735:=0
def tw2500854329554476532:=0
def tw8228289741105727318:=0
def tw13026927521957283206:=0
def tw5582413896755220602:=0
def tw17000518649235281857:=0
def tw4859851375289008851:=0
def tw9364810137826333888:=0
def tw15543936047747296196:=0
def tw1513836870892949588:=0
def tw2621048250365669969:=0
def tw4233155255077883670:=0
def tw8688508068370877543:=0
def tw10036205772049656481:=0
def tw5156900016829096154:=0
def tw12047284055071218674:=0
def tw9009865433903614166:=0
def tw15608389840434844478:=0
def tw17370291930247272563:=0
def tw16401620453782223008:=0
def tw10805614941413057896:=0
def tw7024422658638342685:=0
def tw14330669609229112039:=0
def tw2741898622397812950:=0
def tw15553108671335259431:=0
def tw5238954551730438708:=0
def tw6236724316508486949:=0
def tw7987645846969125336:=0
def tw9301459903108111684:=0
def tw7419720229469297199:=0
def tw5669806869244570982:=0
def tw9511931338846049569:=0
def tw17651109028053652355:=0
def tw17359101998879769184:=0
def tw15903769965722404777:=0
def tw472160460347419720:=0
def tw1643656818356645915:=0
def tw7967585842726813603:=0
def tw7669114000290075762:=0
def tw5824909856153563434:=0
def tw10201958130925947708:=0
def tw11071602708976942462:=0
def tw9626094405922997289:=0
def tw13611378360824462273:=0
def tw196296890414694098:=0
def tw12768380995992168171:=0
def tw16786032881732228671:=0
def tw9461574532000617411:=0
def tw13100735684677582507:=0
def tw561383613326817480:=0
def tw16434372792637430890:=0
def tw8580754263315257535:=0
def tw9723976142288286815:=0
def tw9987527396591463078:=0
def tw9104716561206693620:=0
def tw7556541033626255183:=0
def tw13766628997927787478:=0
def tw11324042646282092475:=0
def tw526059266076444836:=0
def tw14717419882569532418:=0
def tw13540861140325563392:=0
def tw4956753018669360837:=0
def tw8792635956737835998:=0
def tw7916614788548131117:=0
def tw15824003472412931505:=0
def tw8351000562772228011:=0
def tw1681421639120367647:=0
def tw16519145365746076768:=0
def tw14679725577636105841:=0
def tw8501926082692079179:=0
def tw5105547790786346038:=0
def tw17215708693996554461:=0
def tw16609490503608379544:=0
def tw14775881689946754140:=0
def tw1915249640148945648:=0
def tw4370247510033184912:=0
def tw14983541262274793821:=0
def tw11949605138669298336:=0
def tw4245678834135400083:=0
def tw15716346607472612114:=0
def tw371172501370792306:=0
def tw5966729587418994793:=0
def tw18037998646924045932:=0
def tw8842255863627482214:=0
def tw18296051820487420543:=0
def tw15268129098482232950:=0
def tw13475191344909244939:=0
def tw11535696684191706753:=0
def tw16353431734629843507:=0
def tw7230775474458122491:=0
def tw9872165888988854423:=0
def tw8581850517702213646:=0
def tw12116496230947403756:=0
def tw16059616864405698948:=0
def tw256349059008175033:=0
def tw14516539769686709230:=0
def tw15000410081948556085:=0
def tw14288408387102364271:=0
def tw2976334218056448322:=0
def tw13635540728937062486:=0
def tw16560565304779008972:=0
def tw2623848895264683263:=0
def tw13960285831959639668:=0
def tw956978074785083580:=0
def tw14795700250432677134:=0
def tw10609010779355030220:=0
def tw2061626619598911234:=0
def tw8052176610509392450:=0
def tw8836181748060833203:=0
def tw15159898422510913541:=0
def tw7946206267906524581:=0
def tw12621199605409908165:=0
def tw89435739232561375:=0
def tw17018028986748362916:=0
def tw9867241935166752410:=0
def tw14553257231818556889:=0
def tw18178639505078527530:=0
def tw87933903496228709:=0
def tw1504638778207522535:=0
def tw4501224063305365966:=0
def tw13950212427630174261:=0
def tw16133903326774788893:=0
def tw2838832814221380594:=0
def tw5223998273985114027:=0
def tw13289804955289548255:=0
def tw4725611111248068100:=0
def tw5869751875076184023:=0
def tw13106706489883400584:=0
def tw9558305639888645037:=0
def tw6902697734673476565:=0
def tw8206216071976494435:=0
def tw5587295931845908185:=0
def tw7782557576877261155:=0
def tw15080610096334482932:=0
def tw17114891253591817476:=0
def tw1027164206143071271:=0
def tw1277219897264941975:=0
def tw5262052282996540820:=0
def tw8338311134153296488:=0
def tw3816329371754514726:=0
def tw8265049899679179657:=0
def tw7718356072832571899:=0
def tw9145643972305256283:=0
def tw4348610836407105206:=0
def tw12705198074406733498:=0
def tw4104030457484443908:=0
def tw7870192414863453752:=0
def tw2766261846614321371:=0
def tw11820232404954107772:=0
def tw10229651246305827710:=0
def tw17241045745982758090:=0
def tw11391717423177113067:=0
def tw9161194981025314608:=0
def tw15781179707823603767:=0
def tw1217670257450846491:=0
def tw471079513453306244:=0
def tw13422606504264542889:=0
def tw2834356838474589941:=0
def tw15506765764034888901:=0
def tw3164066159945200999:=0
def tw6336185848306893755:=0
def tw14045587876579795202:=0
def tw17403255535417905349:=0
def tw17602159100927436494:=0
def tw4782202852867883683:=0
def tw2039087547270249760:=0
def tw2367582249351341966:=0
def tw12417248607832415731:=0
def tw15422300522450046965:=0
def tw1622014388894233567:=0
def tw18160423501447414080:=0
def tw10320878487795762948:=0
def tw6618714539697453941:=0
def tw15538692916433339223:=0
def tw9971192929043645047:=0
def tw17045229780869475970:=0
def tw697166872556615166:=0
def tw9418605236075626804:=0
def tw11944384034181562855:=0
def tw3274009693328904182:=0
def tw616949690287514708:=0
def tw11741958999729494497:=0
def tw16659334771597678411:=0
def tw15142098392329518903:=0
def tw10550096525797607372:=0
def tw9980089082389080904:=0
def tw8834725257457965983:=0
def tw14245326120265681001:=0
def tw1937234830567153013:=0
def tw9425926168071230880:=0
def tw4227695550940837436:=0
def tw18111700776931526795:=0
def tw12332010719822602590:=0
def tw2390367581328075536:=0
def tw17980650443892394034:=0
def tw7628672164468369843:=0
def tw14706269860123038679:=0
def tw1475000595235014970:=0
def tw1414075517986942762:=0
end PySem.W.Fast
open PySem PySem.W PyProof.Rows
set_option maxRecDepth 100000 in
set_option maxHeartbeats 0 in
theorem PySem.Challenge.cw_sinceply_k70_whole_often_four_ways_holds : PySem.Challenge.rw_sinceply_k70_whole_often_four_ways.Holds := by
 w_on;o_law;z_head;(case hw=>w_witness2)
 k_fill
 refine' Q.BB (fun _=>rfl) (Q.walk (l:=PySem.Challenge.rw_sinceply_k70_whole_often_four_ways) rfl rfl (fun w h Y=>Y) (P.math _ _) ?noL ?fnS)
 case noL=>intro w;rfl
 case fnS=>
  intro w mg fa h KX G hmg
  refine' Q.all_mk KX G hmg ?A_ ?Ba ?Bb ?Bc ?Bd ?Be ?Bf ?Bg ?Bh ?Bj ?qQ ?qR ?qS ?qT ?qU ?qV ?qW ?qX ?qY ?qZ ?q_ ?rj ?rm ?rq ?rz ?rA ?rB ?rC ?rD ?rE ?rF ?rG ?rH ?rJ ?rK ?Bk ?Bl ?Bm ?Bo ?vR ?Bp ?Bq ?Bs ?Bt ?vS ?rL ?rM ?rN ?rO ?rP ?rQ ?rR ?rS ?nF ?Bu ?ua ?uc ?e8 ?Bv ?dM ?Bw ?ud ?Bx ?By ?o6 ?gJ ?mz ?o7 ?BA ?e_
  (case A_=>refine' Br.aF ?e ?l ?c ?k;(case e=>k_is);(case l=>k_is);(case c=>k_is);(case k=>k_is))
  (case Ba=>refine' Br.aF ?e ?l ?c ?k;(case e=>k_is);(case l=>k_is);(case c=>k_is);(case k=>k_is))
  (case Bb=>refine' Br.aF ?e ?l ?c ?k;(case e=>k_is);(case l=>k_is);(case c=>k_is);(case k=>k_is))
  (case Bc=>refine' Br.aF ?e ?l ?c ?k;(case e=>k_is);(case l=>k_is);(case c=>k_is);(case k=>k_is))
  (case Bd=>refine' Br.aF ?e ?l ?c ?k;(case e=>k_is);(case l=>k_is);(case c=>k_is);(case k=>k_is))
  (case Be=>refine' Br.aF ?e ?l ?c ?k;(case e=>k_is);(case l=>k_is);(case c=>k_is);(case k=>k_is))
  (case Bf=>refine' Br.aF ?e ?l ?c ?k;(case e=>k_is);(case l=>k_is);(case c=>k_is);(case k=>k_is))
  (case Bg=>refine' Br.aF ?e ?l ?c ?k;(case e=>k_is);(case l=>k_is);(case c=>k_is);(case k=>k_is))
  (case Bh=>refine' Br.aF ?e ?l ?c ?k;(case e=>k_is);(case l=>k_is);(case c=>k_is);(case k=>k_is))
  (case Bj=>refine' Br.aF ?e ?l ?c ?k;(case e=>k_is);(case l=>k_is);(case c=>k_is);(case k=>k_is))
  (case qQ=>refine' Br.aF ?e ?l ?c ?k;(case e=>k_is);(case l=>k_is);(case c=>k_is);(case k=>k_is))
  (case qR=>refine' Br.aF ?e ?l ?c ?k;(case e=>k_is);(case l=>k_is);(case c=>k_is);(case k=>k_is))
  (case qS=>refine' Br.aF ?e ?l ?c ?k;(case e=>k_is);(case l=>k_is);(case c=>k_is);(case k=>k_is))
  (case qT=>refine' Br.aF ?e ?l ?c ?k;(case e=>k_is);(case l=>k_is);(case c=>k_is);(case k=>k_is))
  (case qU=>refine' Br.aF ?e ?l ?c ?k;(case e=>k_is);(case l=>k_is);(case c=>k_is);(case k=>k_is))
  (case qV=>refine' Br.aF ?e ?l ?c ?k;(case e=>k_is);(case l=>k_is);(case c=>k_is);(case k=>k_is))
  (case qW=>refine' Br.aF ?e ?l ?c ?k;(case e=>k_is);(case l=>k_is);(case c=>k_is);(case k=>k_is))
  (case qX=>refine' Br.aF ?e ?l ?c ?k;(case e=>k_is);(case l=>k_is);(case c=>k_is);(case k=>k_is))
  (case qY=>refine' Br.aF ?e ?l ?c ?k;(case e=>k_is);(case l=>k_is);(case c=>k_is);(case k=>k_is))
  (case qZ=>refine' Br.aF ?e ?l ?c ?k;(case e=>k_is);(case l=>k_is);(case c=>k_is);(case k=>k_is))
  (case q_=>refine' Br.aF ?e ?l ?c ?k;(case e=>k_is);(case l=>k_is);(case c=>k_is);(case k=>k_is))
  (case rj=>refine' Br.aF ?e ?l ?c ?k;(case e=>k_is);(case l=>k_is);(case c=>k_is);(case k=>k_is))
  (case rm=>refine' Br.aF ?e ?l ?c ?k;(case e=>k_is);(case l=>k_is);(case c=>k_is);(case k=>k_is))
  (case rq=>refine' Br.aF ?e ?l ?c ?k;(case e=>k_is);(case l=>k_is);(case c=>k_is);(case k=>k_is))
  (case rz=>refine' Br.aF ?e ?l ?c ?k;(case e=>k_is);(case l=>k_is);(case c=>k_is);(case k=>k_is))
  (case rA=>refine' Br.aF ?e ?l ?c ?k;(case e=>k_is);(case l=>k_is);(case c=>k_is);(case k=>k_is))
  (case rB=>refine' Br.aF ?e ?l ?c ?k;(case e=>k_is);(case l=>k_is);(case c=>k_is);(case k=>k_is))
  (case rC=>refine' Br.aF ?e ?l ?c ?k;(case e=>k_is);(case l=>k_is);(case c=>k_is);(case k=>k_is))
  (case rD=>refine' Br.aF ?e ?l ?c ?k;(case e=>k_is);(case l=>k_is);(case c=>k_is);(case k=>k_is))
  (case rE=>refine' Br.aF ?e ?l ?c ?k;(case e=>k_is);(case l=>k_is);(case c=>k_is);(case k=>k_is))
  (case rF=>refine' Br.aF ?e ?l ?c ?k;(case e=>k_is);(case l=>k_is);(case c=>k_is);(case k=>k_is))
  (case rG=>refine' Br.aF ?e ?l ?c ?k;(case e=>k_is);(case l=>k_is);(case c=>k_is);(case k=>k_is))
  (case rH=>refine' Br.aF ?e ?l ?c ?k;(case e=>k_is);(case l=>k_is);(case c=>k_is);(case k=>k_is))
  (case rJ=>refine' Br.aF ?e ?l ?c ?k;(case e=>k_is);(case l=>k_is);(case c=>k_is);(case k=>k_is))
  (case rK=>refine' Br.aF ?e ?l ?c ?k;(case e=>k_is);(case l=>k_is);(case c=>k_is);(case k=>k_is))
  (case Bk=>k_is)
  (case Bl=>k_is)
  (case Bm=>k_is)
  (case Bo=>k_is)
  (case vR=>k_is)
  (case Bp=>k_is)
  (case Bq=>k_is)
  (case Bs=>k_is)
  (case Bt=>k_is)
  (case vS=>k_is)
  (case rL=>refine' Br.aF ?e ?l ?c ?k;(case e=>k_is);(case l=>k_is);(case c=>k_is);(case k=>k_is))
  (case rM=>refine' Br.aF ?e ?l ?c ?k;(case e=>k_is);(case l=>k_is);(case c=>k_is);(case k=>k_is))
  (case rN=>refine' Br.aF ?e ?l ?c ?k;(case e=>k_is);(case l=>k_is);(case c=>k_is);(case k=>k_is))
  (case rO=>refine' Br.aF ?e ?l ?c ?k;(case e=>k_is);(case l=>k_is);(case c=>k_is);(case k=>k_is))
  (case rP=>refine' Br.aF ?e ?l ?c ?k;(case e=>k_is);(case l=>k_is);(case c=>k_is);(case k=>k_is))
  (case rQ=>refine' Br.aF ?e ?l ?c ?k;(case e=>k_is);(case l=>k_is);(case c=>k_is);(case k=>k_is))
  (case rR=>refine' Br.aF ?e ?l ?c ?k;(case e=>k_is);(case l=>k_is);(case c=>k_is);(case k=>k_is))
  (case rS=>refine' Br.aF ?e ?l ?c ?k;(case e=>k_is);(case l=>k_is);(case c=>k_is);(case k=>k_is))
  (case nF=>refine' Br.aF ?e ?l ?c ?k;(case e=>k_is);(case l=>k_is);(case c=>k_is);(case k=>k_is))
  (case Bu=>k_is)
  (case ua=>k_is)
  (case uc=>k_is)
  (case e8=>k_is)
  (case Bv=>k_is)
  (case dM=>k_is)
  (case Bw=>k_is)
  (case ud=>k_is)
  (case Bx=>k_is)
  (case By=>k_is)
  (case o6=>k_is)
  (case gJ=>k_is)
  (case mz=>k_is)
  (case o7=>k_is)
  (case BA=>k_is)
  (case e_=>k_is)
end
