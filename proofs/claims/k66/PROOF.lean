import PyProof.Rows.All
import Wide.All
import OpenK.AllK
import Wide.FinOn
import Lean
import PyProof.EqAt
import PyProof.EqKinds
import PyProof.TupleCall
import KE.KRevIter
import PyProof.EnumMake
import PyProof.EnumFor
import PyProof.ListRange
import PyProof.Rows.Range3
import PyProof.ZipIter
import PyProof.SumWalk
import PyProof.WalksMore
import PyProof.Rows.SetFrom
import PyProof.SetRoads
import PyProof.Rows.SortRunsK
import PyProof.Rows.SortWalk
import KE.KSortTup
import PyProof.Rows.Own
import PyProof.StationsW
import OpenK.KRaise
import KE.KIsAll
import PyProof.ExcArgsOwn
import PyProof.RulesAs
import PyProof.Ns1
import PyProof.Rows.Catch
import OpenK.KOwn
import PyProof.ExcBaseAll.ValueError
import KE.KDictSum
import PyProof.AttrMiss
import PyProof.IsiH_list
import KE.KDictOf
import PyProof.DictList
import KE.KDictList
import PyProof.FactsAll.set
import PyProof.Rows.TupAdd
import KE.KDictMeth
import PyProof.DictWalks
import PyProof.TupleKey
import PyProof.DictStraight
import PyProof.IsRules
import KE.KRevSl
import PySem.Challenge.RW_sinceply_k66_whole_every_side_and_moment
noncomputable section
set_option Elab.async false
set_option bootstrap.genMatcherCode false
set_option genSizeOf false
set_option linter.all false

set_option maxRecDepth 100000
theorem bc {G : Prop} (h : (G→False)→False) : G:=Classical.byContradiction h
namespace _l
theorem a0 {P : Prop} (h : P:=by rfl) : P:=h
theorem a1 {P : Prop} (h : P:=by decide) : P:=h
theorem a2 {P : Prop} (h : P:=by intro _; rfl) : P:=h
theorem a3 {P : Prop} (h : P:=by first | exact .inl rfl | exact .inr rfl | assumption) : P:=h
theorem a4 {P : Prop} (h : P:=by first | exact Or.inl rfl | exact Or.inr rfl) : P:=h
theorem a5 {P : Prop} (h : P:=by first | exact Or.inl rfl | exact Or.inr (Or.inl rfl) | exact Or.inr (Or.inr rfl)) : P:=h
theorem a6 {P : Prop} (h : P:=by intro _ _; rfl) : P:=h
theorem a7 {P : Prop} (h : P:=by with_unfolding_all rfl) : P:=h
open PySem PySem.Spec PyProof.Rows
noncomputable abbrev Key:=Sum Int Str
noncomputable def keyIs : Key→Value→Bool
 | .inl k,v=>Value.isInt k v
 | .inr x,v=>Value.isStrOf x v
noncomputable def keyH (w : World) : Key→Int
 | .inl k=>hashInt k
 | .inr x=>hashStr w x
theorem keyIs_shape : ∀ {k : Key} {v : Value},keyIs k v = true→(∃ i t,k = Sum.inl i∧v = Value.int i t)∨(∃ x t,k = Sum.inr x∧v = Value.str x t)
 | .inl i,v,h=>by
  obtain ⟨t,e⟩:=Value.isInt_shape (k:=i) (v:=v) h
  exact .inl ⟨i,t,rfl,e⟩
 | .inr x,v,h=>by
  obtain ⟨t,e⟩:=Value.isStrOf_shape (x:=x) (v:=v) h
  exact .inr ⟨x,t,rfl,e⟩
theorem key_ll (a b : Int) : decide ((Sum.inl a : Key) = Sum.inl b) = (a == b):=by
 by_cases e : a = b
 ·subst e; simp
 ·have h : ¬ (Sum.inl a : Key) = Sum.inl b:=fun q=>e (Sum.inl.inj q)
  rw [decide_eq_false h]
  exact (beq_eq_false_iff_ne.mpr e).symm
theorem key_rr (a b : Str) : decide ((Sum.inr a : Key) = Sum.inr b) = decide (a = b):=by
 by_cases e : a = b
 ·subst e; simp
 ·have h : ¬ (Sum.inr a : Key) = Sum.inr b:=fun q=>e (Sum.inr.inj q)
  rw [decide_eq_false h,decide_eq_false e]
theorem key_lr (a : Int) (b : Str) : decide ((Sum.inl a : Key) = Sum.inr b) = false:=decide_eq_false (fun q=>nomatch q)
theorem key_rl (a : Str) (b : Int) : decide ((Sum.inr a : Key) = Sum.inl b) = false:=decide_eq_false (fun q=>nomatch q)
noncomputable def mixKind (prog : Program) (w : World) : PySem.KeyKind prog w Key where
 is:=keyIs
 hash:=keyH w
 inj:=fun v a b ha hb=>by
  rcases keyIs_shape ha with ⟨i,t,rfl,rfl⟩ | ⟨x,t,rfl,rfl⟩
  ·rcases keyIs_shape hb with ⟨j,u,rfl,e⟩ | ⟨y,u,rfl,e⟩
   ·injection e with e1 _; rw [e1]
   ·exact nomatch e
  ·rcases keyIs_shape hb with ⟨j,u,rfl,e⟩ | ⟨y,u,rfl,e⟩
   ·exact nomatch e
   ·injection e with e1 _; rw [e1]
 byValue:=fun k v h=>by
  rcases keyIs_shape h with ⟨i,t,rfl,rfl⟩ | ⟨x,t,rfl,rfl⟩ <;> rfl
 pyHash:=fun hv h=>by
  rcases keyIs_shape hv with ⟨i,t,rfl,rfl⟩ | ⟨x,t,rfl,rfl⟩
  ·exact wpAny_pyHash_int h
  ·exact wpAny_pyHash_str h
 eqBool:=fun hu hv h=>by
  rcases keyIs_shape hu with ⟨i,t,rfl,rfl⟩ | ⟨x,t,rfl,rfl⟩
  ·rcases keyIs_shape hv with ⟨j,u,rfl,rfl⟩ | ⟨y,u,rfl,rfl⟩
   ·rw [key_ll] at h; exact wpAny_eqBool_int h
   ·rw [key_lr] at h; exact SeqAt.EqAt.int_str i t y u _ _ _ _ h
  ·rcases keyIs_shape hv with ⟨j,u,rfl,rfl⟩ | ⟨y,u,rfl,rfl⟩
   ·rw [key_rl] at h; exact SeqAt.EqAt.str_int x t j u _ _ _ _ h
   ·rw [key_rr] at h; exact wpAny_eqBool_str h
 «strs»:=fun k x t v h=>by
  rcases keyIs_shape h with ⟨i,u,rfl,e⟩ | ⟨y,u,rfl,e⟩
  ·exact nomatch e
  ·injection e with e1 _
   subst e1
   cases v <;> rfl
inductive V where
 | non | bl (b : Bool) | int (i : Int) | str (x : Str) | byt (b : Array UInt8) | flt (b : UInt64) | ref (a : Addr) | ty (n : String)
 deriving DecidableEq
noncomputable def RelV : V→Value→Prop
 | .non,u=>u = Value.none
 | .bl b,u=>u = Value.bool b
 | .int i,u=>∃ t,u = Value.int i t
 | .str x,u=>∃ t,u = Value.str x t
 | .byt b,u=>∃ t,u = Value.bytes b t
 | .flt b,u=>∃ t,u = Value.float b t
 | .ref a,u=>u = Value.ref a
 | .ty n,u=>u = Value.type n
noncomputable abbrev Vals : List V→List Value→Prop:=Paired RelV
theorem Vals.length {xs : List V} {us : List Value} (r : Vals xs us) : xs.length = us.length:=Paired.length r
theorem Vals.get : ∀ {xs : List V} {us : List Value} {i : Nat} {x : V},Vals xs us→xs[i]? = some x→∃ u,us[i]? = some u∧RelV x u
 | _,_,_,_,.nil,e=>by simp at e
 | _,_,0,_,.cons r _,e=>by simp at e; subst e; exact ⟨_,rfl,r⟩
 | _,_,i + 1,x,.cons _ t,e=>by
  refine bc fun ζ=>?_
  obtain ⟨u,h1,h2⟩:=Vals.get (i:=i) (x:=x) t (by simpa using e)
  apply ζ;clear ζ
  exact ⟨u,by simpa using h1,h2⟩
theorem Vals.set {x : V} {u : Value} (r : RelV x u) : ∀ {xs : List V} {us : List Value} (i : Nat),Vals xs us→Vals (xs.set i x) (us.set i u)
 | _,_,_,.nil=>.nil
 | _,_,0,.cons _ t=>.cons r t
 | _,_,i + 1,.cons q t=>.cons q (Vals.set r i t)
theorem Vals.append : ∀ {xs ys : List V} {us ws : List Value},Vals xs us→Vals ys ws→Vals (xs ++ ys) (us ++ ws)
 | _,_,_,_,.nil,s=>s
 | _,_,_,_,.cons r t,s=>.cons r (Vals.append t s)
theorem Vals.take : ∀ {xs : List V} {us : List Value} (n : Nat),Vals xs us→Vals (xs.take n) (us.take n)
 | _,_,0,_=>.nil
 | _,_,_ + 1,.nil=>.nil
 | _,_,n + 1,.cons r t=>.cons r (Vals.take n t)
theorem Vals.drop : ∀ {xs : List V} {us : List Value} (n : Nat),Vals xs us→Vals (xs.drop n) (us.drop n)
 | _,_,0,r=>r
 | _,_,_ + 1,.nil=>.nil
 | _,_,n + 1,.cons _ t=>Vals.drop n t
noncomputable def RelO : Option V→Option Value→Prop
 | some v,some u=>RelV v u
 | none,none=>True
 | _,_=>False
noncomputable def KV {κ : Type} : List (κ×V)→List (κ×Value)→Prop:=Paired fun (p : κ×V) (q : κ×Value)=>p.1 = q.1∧RelV p.2 q.2
noncomputable def kV : Key→V
 | .inl i=>.int i
 | .inr x=>.str x
inductive HO where
 | lst (xs : List V)
 | tup (xs : List V)
 | dK (kvs : List (Key×V)) | dT (kvs : List (List Key×V))
 | set (S : Int→Bool) (n : Nat)
 | ins (C dx : Addr) (fs : List (Str×V))
 | own (x : Addr)
 | xd (fs : List (Str×V))
 | met (f x : Addr)
 | rng (lo hi : Int)
 | frz (o : Obj) (u : HO)
 | tbl (ps : Array Value)
 | ext (φ : Heap→Prop)
noncomputable abbrev Hp:=Addr→Option HO
noncomputable def upd (H : Hp) (a : Addr) (o : HO) : Hp:=fun b=>if b = a then some o else H b
theorem upd_same {H : Hp} {a : Addr} {o : HO} : upd H a o a = some o:=by unfold upd; rw [if_pos rfl]
theorem upd_ne {H : Hp} {a b : Addr} {o : HO} (h : b≠a) : upd H a o b = H b:=by unfold upd; rw [if_neg h]
theorem ne_of_none {H : Hp} {a b : Addr} {o : HO} (h : H a = some o) (h' : H b = none) : a≠b:=by
 intro e; subst e; rw [h] at h'; cases h'
section
variable (P : Program) (w : World)
noncomputable def ObjOk (H : Hp) (h : Heap) (a : Addr) : HO→Prop
 | .lst xs=>xs.length≤sizeLine∧∃ (its : List Value) (n : Nat), Vals xs its∧h.get? a = some { cls:=.type "list", data:=.seq its.toArray n }
 | .tup xs=>xs.length≤sizeLine∧∃ its : List Value,Vals xs its∧IsTup h a its.toArray
 | .dK kvs=>kvs.length≤sizeLine∧(a == sysModules) = false∧∃ vs,KV kvs vs∧h.DictOf (mixKind P w) a vs
 | .dT kvs=>kvs.length≤sizeLine∧(a == sysModules) = false∧∃ xs : List (List Key×Addr×Value),
   Paired (fun (p : List Key×V) (q : List Key×Addr×Value)=>p.1 = q.1∧H q.2.1 = some (.tup (p.1.map kV))∧RelV p.2 q.2.2) kvs xs ∧
   ∃ o es ep,h.get? a = some o∧o.ExactDict∧o.data = .dict es ep∧es.toList = xs.map (entryOfKey (tupleKind (mixKind P w)))∧(xs.map (·.1)).Nodup
 | .set S n=>h.SetOf (intKind P w) a S n
 | .ins C dx fs=>H dx = some (.own a)∧fs.length≤1000∧dx≠a∧h.get? a = some (PySem.W.instObj C dx) ∧
   ∃ mA,h.Ns1 dx mA∧(∀ f,RelO (fs.lookup f) (mA f))∧PySem.Within mA (fs.map (·.1))
 | .own _=>∃ o,h.get? a = some o
 | .xd fs=>∃ mA,h.Ns1 a mA∧∀ f,RelO (fs.lookup f) (mA f)
 | .rng lo hi=>∃ t u v, h.get? a = some { cls:=.type "range", data:=.fields #[.int lo t, .int hi u, .int 1 v] }
 | .frz o u=>h.get? a = some o∧ObjOk H h a u
 | .tbl ps=>h.get? a = some { cls:=.none,data:=.fields ps }
 | .met f x=>h.get? a = some (PySem.W.methodObj (.ref f) (.ref x))
 | .ext φ=>φ h∧(∃ o,h.get? a = some o)∧∀ h1 h2 : Heap,φ h1→(∀ o,h1.get? a = some o→h2.get? a = some o)→φ h2
noncomputable def HOk (H : Hp) (h : Heap) : Prop:=∀ a o,H a = some o→ObjOk P w H h a o
end
section
variable {P : Program} {w : World} {H H' : Hp} {h h' : Heap} {a : Addr} {o : HO}
theorem ObjOk.lt (x : ObjOk P w H h a o) : a < h.objs.size:=by
 cases o with
 | lst xs=>obtain ⟨_,_,_,_,e⟩:=x; exact Heap.lt_size e
 | tup xs=>obtain ⟨_,_,_,p⟩:=x; exact p.lt
 | dK kvs=>obtain ⟨_,_,_,_,o,_,_,e,_⟩:=x; exact Heap.lt_size e
 | dT kvs=>obtain ⟨_,_,_,_,o,_,_,e,_⟩:=x; exact Heap.lt_size e
 | set S n=>obtain ⟨o,_,_,_,e,_⟩:=x; exact Heap.lt_size e
 | ins C dx fs=>obtain ⟨_,_,_,e,_⟩:=x; exact Heap.lt_size e
 | own y=>obtain ⟨_,e⟩:=x; exact Heap.lt_size e
 | xd fs=>obtain ⟨_,⟨_,_,_,e,_⟩,_⟩:=x; exact Heap.lt_size e
 | rng lo hi=>obtain ⟨_,_,_,e⟩:=x; exact Heap.lt_size e
 | frz ob u=>obtain ⟨e,_⟩:=x; exact Heap.lt_size e
 | tbl ps=>exact Heap.lt_size (show h.get? a = some _ from x)
 | met f y=>exact Heap.lt_size (show h.get? a = some _ from x)
 | ext φ=>obtain ⟨_,⟨_,e⟩,_⟩:=x; exact Heap.lt_size e
theorem Paired.mapP {α β : Type} {F G : α→β→Prop} : ∀ {l₁ : List α} {l₂ : List β},Paired F l₁ l₂→(∀ a b,F a b→G a b)→Paired G l₁ l₂
 | _,_,.nil,_=>.nil
 | _,_,.cons r t,f=>.cons (f _ _ r) (Paired.mapP t f)
theorem ObjOk.stay (x : ObjOk P w H h a o) (k : ∀ b u,(b = a∨H b = some (.own a))→h.get? b = some u→h'.get? b = some u)
  (ho : ∀ b,H b = some (.own a)→H' b = some (.own a)) (ht : ∀ b xs,H b = some (.tup xs)→H' b = some (.tup xs)) : ObjOk P w H' h' a o:=by
 induction o with
 | lst xs=>obtain ⟨z,its,n,r,e⟩:=x; exact ⟨z,its,n,r,k _ _ (.inl rfl) e⟩
 | tup xs=>obtain ⟨z,its,r,ob,e,c⟩:=x; exact ⟨z,its,r,ob,k _ _ (.inl rfl) e,c⟩
 | dK kvs=>obtain ⟨z,y,vs,r,ob,es,ep,e,c⟩:=x; exact ⟨z,y,vs,r,ob,es,ep,k _ _ (.inl rfl) e,c⟩
 | dT kvs =>
  obtain ⟨z,y,xs,r,ob,es,ep,e,c⟩:=x
  exact ⟨z,y,xs,Paired.mapP r fun p q z=>⟨z.1,ht _ _ z.2.1,z.2.2⟩,ob,es,ep,k _ _ (.inl rfl) e,c⟩
 | set S n=>obtain ⟨ob,es,ep,t,e,c⟩:=x; exact ⟨ob,es,ep,t,k _ _ (.inl rfl) e,c⟩
 | ins C dx fs =>
  obtain ⟨d,z,ne,e,mA,⟨od,es,ep,e2,c⟩,r⟩:=x
  exact ⟨ho _ d,z,ne,k _ _ (.inl rfl) e,mA,⟨od,es,ep,k _ _ (.inr d) e2,c⟩,r⟩
 | own y=>obtain ⟨ob,e⟩:=x; exact ⟨ob,k _ _ (.inl rfl) e⟩
 | xd fs=>obtain ⟨mA,⟨od,es,ep,e,c⟩,r⟩:=x; exact ⟨mA,⟨od,es,ep,k _ _ (.inl rfl) e,c⟩,r⟩
 | rng lo hi=>obtain ⟨t,u,v,e⟩:=x; exact ⟨t,u,v,k _ _ (.inl rfl) e⟩
 | frz ob u ih=>obtain ⟨e,q⟩:=x; exact ⟨k _ _ (.inl rfl) e,ih q⟩
 | tbl ps =>
  have e : h.get? a = some { cls:=.none,data:=.fields ps }:=x
  show h'.get? a = some { cls:=.none,data:=.fields ps }
  exact k a _ (.inl rfl) e
 | met f y =>
  have e : h.get? a = some (PySem.W.methodObj (.ref f) (.ref y)):=x
  show h'.get? a = some (PySem.W.methodObj (.ref f) (.ref y))
  exact k a _ (.inl rfl) e
 | ext φ=>obtain ⟨p,⟨o,e⟩,st⟩:=x; exact ⟨st _ _ p fun o q=>k _ _ (.inl rfl) q,⟨o,k _ _ (.inl rfl) e⟩,st⟩
theorem HOk.lt (x : HOk P w H h) (e : H a = some o) : a < h.objs.size:=(x a o e).lt
theorem HOk.fresh (x : HOk P w H h) (e : h.objs.size≤a) : H a = none:=by
 cases q : H a with
 | none=>rfl
 | some u=>exact absurd (Nat.lt_of_lt_of_le (x.lt q) e) (Nat.lt_irrefl _)
theorem HOk.kept (x : HOk P w H h) (k : ∀ b u,h.get? b = some u→h'.get? b = some u) : HOk P w H h':=fun a o e =>
 (x a o e).stay (fun b u _ q=>k b u q) (fun _ q=>q) fun _ _ q=>q
theorem HOk.laid (x : HOk P w H h) (k : ∀ b u,h.get? b = some u→h'.get? b = some u) (hp : h.objs.size≤a) (new : ObjOk P w (upd H a o) h' a o) : HOk P w (upd H a o) h':=fun b u e=>by
 have hn:=x.fresh hp
 by_cases hb : b = a
 ·subst hb; rw [upd_same] at e; cases e; exact new
 ·rw [upd_ne hb] at e
  exact (x b u e).stay (fun c v _ q=>k c v q) (fun c q=>by rw [upd_ne (ne_of_none q hn)]; exact q) fun c xs q=>by rw [upd_ne (ne_of_none q hn)]; exact q
end
noncomputable def Rd (H : Hp) (a : Addr) (u : HO) : Prop:=H a = some u∨∃ o,H a = some (.frz o u)
theorem Rd.ok {P : Program} {w : World} {H : Hp} {h : Heap} {a : Addr} {u : HO} (r : Rd H a u) (x : HOk P w H h) : ObjOk P w H h a u:=by
 rcases r with r | ⟨o,r⟩
 ·exact x a u r
 ·obtain ⟨_,q⟩:=x a _ r
  exact q
noncomputable def Mut : Option HO→Prop
 | some (.lst _)=>True
 | some (.dK _)=>True
 | some (.dT _)=>True
 | some (.set _ _)=>True
 | some (.ins _ _ _)=>True
 | some (.ext _)=>True
 | _=>False
section
variable {P : Program} {w : World} {H : Hp} {h h' : Heap} {x e : Addr} {o' : HO}
theorem HOk.write (ok : HOk P w H h) (mu : Mut (H x)) (he : e = x∨H e = some (.own x)) (k : ∀ b u,b≠e→h.get? b = some u→h'.get? b = some u) (heo : ∃ u,h'.get? e = some u)
  (new : ObjOk P w (upd H x o') h' x o') : HOk P w (upd H x o') h':=fun b u q=>by
 have nown : ∀ c y,H c = some (.own y)→c≠x:=fun c y r z=>by subst z; rw [r] at mu; exact mu
 have ntup : ∀ c xs,H c = some (.tup xs)→c≠x:=fun c xs r z=>by subst z; rw [r] at mu; exact mu
 by_cases hb : b = x
 ·subst hb; rw [upd_same] at q; cases q; exact new
 ·rw [upd_ne hb] at q
  by_cases hbe : b = e
  ·have q' : H b = some (.own x):=by
    rcases he with z | z
    ·exact absurd (hbe.trans z) hb
    ·rw [hbe]; exact z
   rw [q] at q'; cases q'
   obtain ⟨v,hv⟩:=heo
   exact ⟨v,by rw [hbe]; exact hv⟩
  ·refine (ok b u q).stay (fun c v hc r=>k c v ?_ r) (fun c r=>by rw [upd_ne (nown c b r)]; exact r) fun c xs r=>by rw [upd_ne (ntup c xs r)]; exact r
   rcases hc with rfl | hc
   ·exact hbe
   ·rintro rfl
    rcases he with z | z
    ·exact nown c b hc z
    ·rw [hc] at z; cases z; exact hb rfl
end
structure Un (fs ex : List Addr) (H H' : Hp) (h h' : Heap) : Prop where
 keep : ∀ b o,h.get? b = some o→H b = none→b ∉ fs→b ∉ ex→h'.get? b = some o
 slot : ∀ b o,h.get? b = some o→H b = none→b∈fs→b ∉ ex→∃ sl,h'.get? b = some { o with slots:=sl }
 free : ∀ b o,h.get? b = some o→H b = none→b ∉ ex→H' b = none
 there : ∀ b o,h.get? b = some o→b ∉ ex→∃ o',h'.get? b = some o'
 tups : ∀ b xs,H b = some (.tup xs)→H' b = some (.tup xs)
 frzs : ∀ b o u,H b = some (.frz o u)→H' b = some (.frz o u)
 tbls : ∀ b ps,H b = some (.tbl ps)→∃ more,H' b = some (.tbl (ps ++ more))
section
variable {fs fs' ex ex' : List Addr} {H H1 H2 : Hp} {h h1 h2 h' : Heap} {a x e : Addr} {o : HO}
theorem Un.any (u : Un fs ex H H1 h h1) {b : Addr} {ob : Obj} (q : h.get? b = some ob) (n : H b = none) (hx : b ∉ ex) : ∃ sl,h1.get? b = some { ob with slots:=sl }:=by
 by_cases hb : b∈fs
 ·exact u.slot b ob q n hb hx
 ·exact ⟨ob.slots,u.keep b ob q n hb hx⟩
theorem Un.kept (k : ∀ b u,h.get? b = some u→h'.get? b = some u) : Un fs ex H H h h' :=
 ⟨fun b ob q _ _ _=>k b ob q,fun b ob q _ _ _=>⟨ob.slots,k b ob q⟩,fun _ _ _ n _=>n,fun b ob q _=>⟨ob,k b ob q⟩,fun _ _ q=>q,fun _ _ _ q=>q,fun _ ps q=>⟨#[],by rw [q]; simp⟩⟩
theorem Un.refl : Un fs ex H H h h:=Un.kept fun _ _ q=>q
theorem Un.laid (k : ∀ b u,h.get? b = some u→h'.get? b = some u) (hp : h.objs.size≤a) (hn : H a = none) : Un fs ex H (upd H a o) h h' where
 keep:=fun b u q _ _ _=>k b u q
 slot:=fun b u q _ _ _=>⟨u.slots,k b u q⟩
 free:=fun b u q n _=>by rw [upd_ne (Nat.ne_of_lt (Nat.lt_of_lt_of_le (Heap.lt_size q) hp))]; exact n
 there:=fun b u q _=>⟨u,k b u q⟩
 tups:=fun b xs q=>by rw [upd_ne (ne_of_none q hn)]; exact q
 frzs:=fun b u xs q=>by rw [upd_ne (ne_of_none q hn)]; exact q
 tbls:=fun b ps q=>⟨#[],by rw [upd_ne (ne_of_none q hn),q]; simp⟩
theorem Un.write (mu : Mut (H x)) (he : e = x∨H e = some (.own x)) (k : ∀ b u,b≠e→h.get? b = some u→h'.get? b = some u) (heo : ∃ u,h'.get? e = some u) : Un fs ex H (upd H x o) h h':=by
 have hx : ∀ b,H b = none→b≠x:=fun b n z=>by subst z; rw [n] at mu; exact mu
 have hb : ∀ b,H b = none→b≠e:=fun b n z=>by
  subst z
  rcases he with r | r
  ·exact hx b n r
  ·rw [n] at r; cases r
 have hm : ∀ b u,H b = some u→¬ Mut (some u)→b≠x:=fun b u q nm z=>by subst z; rw [q] at mu; exact nm mu
 refine ⟨fun b u q n _ _=>k b u (hb b n) q,fun b u q n _ _=>⟨u.slots,k b u (hb b n) q⟩,fun b u q n _=>by rw [upd_ne (hx b n)]; exact n,fun b u q _=>?_,
  fun b xs q=>by rw [upd_ne (hm b _ q fun z=>z)]; exact q,fun b u xs q=>by rw [upd_ne (hm b _ q fun z=>z)]; exact q,fun b ps q=>⟨#[],by rw [upd_ne (hm b _ q fun z=>z),q]; simp⟩⟩
 by_cases hbe : b = e
 ·subst hbe; exact heo
 ·exact ⟨u,k b u hbe q⟩
end
noncomputable def trk (h : Heap) (H : Hp) : List Addr:=(List.range h.objs.size).filter fun a=>(H a).isSome
noncomputable def hidT (h : Heap) (H : Hp) : Heap:=PySem.W.hideAll h (trk h H)
theorem hidT_size (h : Heap) (H : Hp) : (hidT h H).objs.size = h.objs.size:=PySem.W.hideAll_size _ _
theorem hidT_get {h : Heap} {H : Hp} {b : Addr} {o : Obj} (e : h.get? b = some o) (n : H b = none) : (hidT h H).get? b = some o :=
 PySem.W.hideAll_get _ e fun hm=>by
  have q : (H b).isSome = true:=(List.mem_filter.mp hm).2
  rw [n] at q; simp at q
theorem of_hidT {h : Heap} {H : Hp} {b : Addr} {o : Obj} (e : (hidT h H).get? b = some o) : h.get? b = some o∧H b = none:=by
 have e' : h.get? b = some o:=PySem.W.of_hideAll (trk h H) e
 refine ⟨e',?_⟩
 cases q : H b with
 | none=>rfl
 | some x =>
  have hm : b∈trk h H:=List.mem_filter.mpr ⟨List.mem_range.mpr (Heap.lt_size e'),by simp [q]⟩
  have z : (hidT h H).get? b = none:=PySem.W.hideAll_none (trk h H) hm
  rw [z] at e; cases e
structure Mod (K : PySem.W.Frag) (mg : Str→Option Value) (base : Heap) : Prop where
 kin : K.In base
 glob : base.Ns mainGlobals mg
 blt : ∃ mb, base.Ns builtinsNs mb∧∀ x : Str, x≠"__name__"→mb x = bootBuiltins x
 nolimit : base.NoLimit
structure Cx where
 prog : Program
 w : World
 K : PySem.W.Frag
 mg : Str→Option Value
 base : Heap
 A : Around
 N : List Str
 s₀ : Shared
 H₀ : Hp
 env : Env
 outer : List Env
 stack : List Env
 ex : List Addr
 fn : Str→Bool
 calm : Bool
 pn : List (Addr×Obj)
 xe : Value→Shared→Prop
noncomputable def frs (l : List Env) : List Addr:=l.filterMap (·.frame)
noncomputable abbrev Cx.fs (X : Cx) : List Addr:=frs X.outer
noncomputable def Vis (sc : Scope) (x : Str) : Prop:=sc.names.lookup x = some .local∨sc.names.lookup x = some .cell∨sc.names.lookup x = some .free
noncomputable def Loc (sc : Scope) (x : Str) : Prop:=sc.names.lookup x = some .local∨sc.names.lookup x = some .cell
noncomputable def Look (env : Env) (h : Heap) (m : Str→Option Value) (x : Str) (u : Value) : Prop :=
 (env.kindOf x = some .local∧m x = some u)∨((env.kindOf x = some .cell∨env.kindOf x = some .free)∧∃ c,env.cells.lookup x = some c∧h.IsCell c (some u))
structure Cx.Ok (X : Cx) : Prop where
 mod : Mod X.K X.mg X.base
 kind : X.env.scope.kind = .function
 glob : X.env.globals = mainGlobals
 blt : X.env.builtins = builtinsNs
 above : X.s₀.heap.objs.size≤X.env.locals
 inj : ∀ x y c,X.env.cells.lookup x = some c→X.env.cells.lookup y = some c→x = y
 has : ∀ x,(X.env.kindOf x = some .cell∨X.env.kindOf x = some .free)→∃ c,X.env.cells.lookup x = some c
 cab : ∀ x c,X.fn x = true→X.env.cells.lookup x = some c→X.s₀.heap.objs.size≤c
 hd : X.calm = true→X.A.handled = none
 frames : X.A.frames = some X.stack
 stk : X.stack = X.outer∨(X.stack = X.env :: X.outer∧X.env.frame = some X.env.locals)
 exf : ∀ b∈X.ex,b≠X.env.locals∧∀ x c,X.env.cells.lookup x = some c→c≠b
 bs : ∀ b o,X.base.get? b = some o→X.s₀.heap.get? b = some o∧X.H₀ b = none
 bsz : X.base.objs.size≤X.s₀.heap.objs.size
 noex : ∀ b o,X.base.get? b = some o→b ∉ X.ex
 exfs : ∀ b∈X.ex,b ∉ X.fs
 funs : X.s₀.heap.FunFrames X.base X.outer
 frf : ∀ b∈X.fs,X.H₀ b = none
structure Inv (X : Cx) (pins : List (Addr×Obj)) (σ : List (Option V)) (H : Hp) (s : Shared) : Prop where
 ok : X.Ok
 os : s.os = X.s₀.os
 bare : AllBare s.gens
 base : Un X.fs X.ex X.H₀ H X.s₀.heap s.heap
 loc : ∃ m,s.heap.Ns X.env.locals m∧∀ (i : Nat) (x : Str) (v : V),X.N[i]? = some x→σ[i]? = some (some v)→Vis X.env.scope x→∃ u,RelV v u∧Look X.env s.heap m x u
 cell : ∀ x c,X.env.cells.lookup x = some c→∃ v,s.heap.IsCell c v
 free : H X.env.locals = none
 freeC : ∀ x c,X.env.cells.lookup x = some c→H c = none
 pin : ∀ p∈X.pn ++ pins,s.heap.get? p.1 = some p.2∧H p.1 = none∧p.1≠X.env.locals∧p.1 ∉ X.fs∧∀ v,p.2.data≠.cell v
 hok : HOk X.prog X.w H s.heap
 len : σ.length = X.N.length
section
variable {X : Cx} {pins : List (Addr×Obj)} {σ : List (Option V)} {H H' : Hp} {s : Shared} {h' : Heap}
theorem Cx.Ok.nofr (ok : X.Ok) {b : Addr} {o : Obj} (e : X.base.get? b = some o) : b ∉ X.fs:=fun hb=>by
 have:=(ok.funs.mem hb).1
 rw [e] at this; cases this
theorem Inv.bs (I : Inv X pins σ H s) : ∀ b o,X.base.get? b = some o→s.heap.get? b = some o∧H b = none:=fun b o e =>
 ⟨I.base.keep b o (I.ok.bs b o e).1 (I.ok.bs b o e).2 (I.ok.nofr e) (I.ok.noex b o e),I.base.free b o (I.ok.bs b o e).1 (I.ok.bs b o e).2 (I.ok.noex b o e)⟩
theorem Inv.bk (I : Inv X pins σ H s) : ∀ b o,X.base.get? b = some o→s.heap.get? b = some o:=fun b o e=>(I.bs b o e).1
theorem Inv.mod (I : Inv X pins σ H s) : Mod X.K X.mg X.base:=I.ok.mod
theorem Inv.kIn (I : Inv X pins σ H s) : X.K.In s.heap:=I.ok.mod.kin.keeps I.bk
theorem Inv.lt (I : Inv X pins σ H s) : X.env.locals < s.heap.objs.size:=let ⟨_,hn,_⟩:=I.loc; hn.lt
theorem Inv.sz (I : Inv X pins σ H s) : X.s₀.heap.objs.size≤s.heap.objs.size:=Nat.le_trans I.ok.above (Nat.le_of_lt I.lt)
theorem Inv.nofs (I : Inv X pins σ H s) {a : Addr} (h : s.heap.objs.size≤a) : a ∉ X.fs:=fun hb=>by
 obtain ⟨_,o,ho,_⟩:=I.ok.funs.mem hb
 exact absurd (Nat.lt_of_lt_of_le (Heap.lt_size ho) (Nat.le_trans I.sz h)) (Nat.lt_irrefl _)
theorem Inv.cne (I : Inv X pins σ H s) : ∀ x c,X.env.cells.lookup x = some c→c≠X.env.locals:=fun x c e z=>by
 obtain ⟨v,o,ho,hd⟩:=I.cell x c e
 obtain ⟨m,⟨o',es,ep,ho',hd',_⟩,_⟩:=I.loc
 rw [z,ho'] at ho; cases ho; rw [hd'] at hd; cases hd
theorem Inv.funs (I : Inv X pins σ H s) : s.heap.FunFrames X.base X.outer:=by
 have all : ∀ (l : List Env),(∀ b∈frs l,b∈X.fs)→X.s₀.heap.FunFrames X.base l→s.heap.FunFrames X.base l:=by
  intro l
  induction l with
  | nil=>intro _ _; trivial
  | cons env r ih =>
   intro hs hl
   obtain ⟨hk,⟨L,o,hf,hn,ho,hd⟩,hr⟩:=hl
   have hL : L∈X.fs:=hs L (by unfold frs; rw [List.filterMap_cons,hf]; exact List.mem_cons_self)
   obtain ⟨sl,e⟩:=I.base.slot L o ho (I.ok.frf L hL) hL fun z=>I.ok.exfs L z hL
   exact ⟨hk,⟨L,_,hf,hn,e,hd⟩,ih (fun b hb=>hs b (by unfold frs; rw [List.filterMap_cons,hf]; exact List.mem_cons_of_mem _ hb)) hr⟩
 exact all X.outer (fun _ hb=>hb) I.ok.funs
theorem Inv.stack (I : Inv X pins σ H s) : s.heap.FunFrames X.base X.stack:=by
 rcases I.ok.stk with e | ⟨e,hf⟩
 ·rw [e]; exact I.funs
 ·rw [e]
  refine bc fun ζ=>?_
  obtain ⟨m,hn,_⟩:=I.loc
  apply ζ;clear ζ
  refine .cons (by rw [I.ok.kind]; decide) hf hn ?_ I.funs
  exact Heap.get?_none_of_le (Nat.le_trans I.ok.bsz I.ok.above)
theorem Inv.stkSub (I : Inv X pins σ H s) : ∀ b∈frs X.stack,b∈X.env.locals :: X.fs:=fun b hb=>by
 rcases I.ok.stk with e | ⟨e,hf⟩
 ·rw [e] at hb; exact List.mem_cons_of_mem _ hb
 ·rw [e] at hb
  unfold frs at hb
  rw [List.filterMap_cons,hf] at hb
  exact hb
theorem Inv.stkFree (I : Inv X pins σ H s) : ∀ b∈frs X.stack,H b = none:=fun b hb=>by
 rcases List.mem_cons.mp (I.stkSub b hb) with e | hb
 ·rw [e]; exact I.free
 ·obtain ⟨_,o,ho,_⟩:=I.ok.funs.mem hb
  exact I.base.free b o ho (I.ok.frf b hb) fun z=>I.ok.exfs b z hb
theorem Inv.step {g' : Array GenState} {t' : Nat} {d' : Drawn} {ch : List Addr} (I : Inv X pins σ H s)
  (hch : ∀ b∈ch,(b∈X.ex∨X.s₀.heap.objs.size≤b)∧b≠X.env.locals∧(∀ x c,X.env.cells.lookup x = some c→c≠b)∧∀ p∈X.pn ++ pins,p.1≠b)
  (keep : ∀ b o,b≠X.env.locals→b ∉ X.fs→b ∉ ch→s.heap.get? b = some o→H b = none→h'.get? b = some o)
  (slot : ∀ b o,b≠X.env.locals→b∈X.fs→b ∉ ch→s.heap.get? b = some o→H b = none→∃ sl,h'.get? b = some { o with slots:=sl }) (free : ∀ b o,b ∉ ch→s.heap.get? b = some o→H b = none→H' b = none)
  (there : ∀ b o,b ∉ ch→s.heap.get? b = some o→∃ o',h'.get? b = some o')
  (tups : ∀ b xs,H b = some (.tup xs)→H' b = some (.tup xs)) (frzs : ∀ b o u,H b = some (.frz o u)→H' b = some (.frz o u)) (tbls : ∀ b ps,H b = some (.tbl ps)→∃ more,H' b = some (.tbl (ps ++ more)))
  (ns : ∀ m,s.heap.Ns X.env.locals m→h'.Ns X.env.locals m) (hok : HOk X.prog X.w H' h') (hg : AllBare g') :
  Inv X pins σ H' { s with heap:=h',gens:=g',drawn:=d',toks:=t' }:=by
 have neL : ∀ b o,X.s₀.heap.get? b = some o→b≠X.env.locals:=fun b o e=>Nat.ne_of_lt (Nat.lt_of_lt_of_le (Heap.lt_size e) I.ok.above)
 have neC : ∀ b o,X.s₀.heap.get? b = some o→b ∉ X.ex→b ∉ ch:=fun b o e hx hb=>by
  rcases (hch b hb).1 with z | z
  ·exact hx z
  ·exact absurd (Nat.lt_of_lt_of_le (Heap.lt_size e) z) (Nat.lt_irrefl _)
 have cellK : ∀ x c,X.env.cells.lookup x = some c→∀ v,s.heap.IsCell c v→h'.IsCell c v:=fun x c e v ⟨o,ho,hd⟩=>by
  have nch : c ∉ ch:=fun z=>(hch c z).2.2.1 x c e rfl
  by_cases hc : c∈X.fs
  ·obtain ⟨sl,q⟩:=slot c o (I.cne x c e) hc nch ho (I.freeC x c e)
   exact ⟨_,q,hd⟩
  ·exact ⟨o,keep c o (I.cne x c e) hc nch ho (I.freeC x c e),hd⟩
 refine ⟨I.ok,I.os,hg,⟨fun b o e n hb hx=>?_,fun b o e n hb hx=>?_,fun b o e n hx=>?_,fun b o e hx=>?_,fun b xs e=>tups b xs (I.base.tups b xs e),fun b o xs e=>frzs b o xs (I.base.frzs b o xs e),fun b ps e=>?_⟩,?_,fun x c e=>?_,?_,fun x c e=>?_,fun p hp=>?_,hok,I.len⟩
 ·exact keep b o (neL b o e) hb (neC b o e hx) (I.base.keep b o e n hb hx) (I.base.free b o e n hx)
 ·obtain ⟨sl,e1⟩:=I.base.slot b o e n hb hx
  obtain ⟨sl',e2⟩:=slot b _ (neL b o e) hb (neC b o e hx) e1 (I.base.free b o e n hx)
  exact ⟨sl',e2⟩
 ·obtain ⟨o',e1⟩:=I.base.there b o e hx
  exact free b o' (neC b o e hx) e1 (I.base.free b o e n hx)
 ·obtain ⟨o',e1⟩:=I.base.there b o e hx
  exact there b o' (neC b o e hx) e1
 ·obtain ⟨m1,e1⟩:=I.base.tbls b ps e
  obtain ⟨m2,e2⟩:=tbls b _ e1
  exact ⟨m1 ++ m2,by rw [e2,Array.append_assoc]⟩
 ·obtain ⟨m,hn,hl⟩:=I.loc
  refine ⟨m,ns m hn,fun i x v e1 e2 e3=>?_⟩
  obtain ⟨u,r,l⟩:=hl i x v e1 e2 e3
  refine ⟨u,r,?_⟩
  rcases l with l | ⟨k,c,e,z⟩
  ·exact .inl l
  ·exact .inr ⟨k,c,e,cellK x c e _ z⟩
 ·obtain ⟨v,z⟩:=I.cell x c e
  exact ⟨v,cellK x c e v z⟩
 ·obtain ⟨m,⟨o,_,_,ho,_⟩,_⟩:=I.loc
  exact free _ o (fun z=>(hch _ z).2.1 rfl) ho I.free
 ·obtain ⟨v,o,ho,hd⟩:=I.cell x c e
  exact free c o (fun z=>(hch c z).2.2.1 x c e rfl) ho (I.freeC x c e)
 ·obtain ⟨e,n,ne,nf,d⟩:=I.pin p hp
  have nch : p.1 ∉ ch:=fun z=>(hch p.1 z).2.2.2 p hp rfl
  exact ⟨keep p.1 p.2 ne nf nch e n,free p.1 p.2 nch e n,ne,nf,d⟩
theorem Inv.un {t' : Nat} (I : Inv X pins σ H s) (u : Un X.fs [] H H' s.heap h') (hok : HOk X.prog X.w H' h') : Inv X pins σ H' { s with heap:=h',toks:=t' }:=by
 refine bc fun ζ=>?_
 obtain ⟨m,⟨o,es,ep,ho,r⟩,_⟩:=id I.loc
 obtain ⟨sl,hL⟩:=u.any ho I.free (by simp)
 apply ζ;clear ζ
 exact I.step (g':=s.gens) (d':=s.drawn) (ch:=[]) (fun _ z=>nomatch z) (fun b o _ hb _ e n=>u.keep b o e n hb (by simp)) (fun b o _ hb _ e n=>u.slot b o e n hb (by simp)) (fun b o _ e n=>u.free b o e n (by simp)) (fun b o _ e=>u.there b o e (by simp)) u.tups u.frzs u.tbls (fun m' hm=>by
  refine bc fun ζ=>?_
  obtain ⟨o',es',ep',ho',r'⟩:=hm
  apply ζ;clear ζ
  rw [ho] at ho'; cases ho'
  exact ⟨_,es',ep',hL,r'⟩) hok I.bare
theorem Inv.call {g' : Array GenState} {t' : Nat} {d' : Drawn} {ch : List Addr} (I : Inv X pins σ H s) (u : Un (frs X.stack) ch H H' s.heap h') (hok : HOk X.prog X.w H' h') (hg : AllBare g')
  (hch : ∀ b∈ch,(b∈X.ex∨X.s₀.heap.objs.size≤b)∧b≠X.env.locals∧(∀ x c,X.env.cells.lookup x = some c→c≠b)∧∀ p∈X.pn ++ pins,p.1≠b) :
  Inv X pins σ H' { s with heap:=h',gens:=g',drawn:=d',toks:=t' }:=by
 refine bc fun ζ=>?_
 obtain ⟨m,⟨o,es,ep,ho,r⟩,_⟩:=id I.loc
 obtain ⟨sl,hL⟩:=u.any ho I.free fun z=>(hch _ z).2.1 rfl
 apply ζ;clear ζ
 exact I.step (ch:=ch) hch (fun b o hL hb hc e n=>u.keep b o e n (fun z=>(List.mem_cons.mp (I.stkSub b z)).elim hL hb) hc) (fun b o _ _ hc e n=>u.any e n hc) (fun b o hc e n=>u.free b o e n hc) (fun b o hc e=>u.there b o e hc) u.tups u.frzs u.tbls (fun m' hm=>by
  refine bc fun ζ=>?_
  obtain ⟨o',es',ep',ho',r'⟩:=hm
  apply ζ;clear ζ
  rw [ho] at ho'; cases ho'
  exact ⟨_,es',ep',hL,r'⟩) hok hg
theorem Inv.turned {t' : Nat} {it : Addr} (I : Inv X pins σ H s) (k : ∀ b o,b≠it→s.heap.get? b = some o→h'.get? b = some o) (hn : H it = none) (hL : it≠X.env.locals)
  (h1 : it∈X.ex∨X.s₀.heap.objs.size≤it) (h2 : ∀ x c,X.env.cells.lookup x = some c→c≠it) (h3 : ∀ p∈X.pn ++ pins,p.1≠it) : Inv X pins σ H { s with heap:=h',toks:=t' }:=by
 have nit : ∀ b u,H b = some u→b≠it:=fun b u e z=>by rw [z,hn] at e; cases e
 refine I.step (g':=s.gens) (d':=s.drawn) (ch:=[it]) (fun b hb=>?_) (fun b o _ _ hc e _=>k b o (fun z=>hc (by simp [z])) e) (fun b o _ _ hc e _=>⟨o.slots,k b o (fun z=>hc (by simp [z])) e⟩) (fun _ _ _ _ n=>n)
  (fun b o hc e=>⟨o,k b o (fun z=>hc (by simp [z])) e⟩) (fun _ _ e=>e) (fun _ _ _ e=>e) (fun b ps e=>⟨#[],by rw [e]; simp⟩) (fun m hm=>?_) (fun b u e=>?_) I.bare
 ·have e : b = it:=by simpa using hb
  subst e
  exact ⟨h1,hL,h2,h3⟩
 ·obtain ⟨o,es,ep,ho,r⟩:=hm
  exact ⟨o,es,ep,k _ o (Ne.symm hL) ho,r⟩
 ·refine (I.hok b u e).stay (fun c v hc q=>k c v ?_ q) (fun _ q=>q) fun _ _ q=>q
  rcases hc with z | z
  ·rw [z]; exact nit b u e
  ·exact nit c _ z
theorem Inv.tok (I : Inv X pins σ H s) (t : Nat) : Inv X pins σ H { s with toks:=t }:=I.un (h':=s.heap) (t':=t) Un.refl I.hok
theorem Inv.kept {t' : Nat} (I : Inv X pins σ H s) (k : ∀ b u,s.heap.get? b = some u→h'.get? b = some u) : Inv X pins σ H { s with heap:=h',toks:=t' }:=I.un (Un.kept k) (I.hok.kept k)
theorem Inv.laid {a : Addr} {o : HO} {t' : Nat} (I : Inv X pins σ H s) (k : ∀ b u,s.heap.get? b = some u→h'.get? b = some u) (hp : s.heap.objs.size≤a) (new : ObjOk X.prog X.w (upd H a o) h' a o) :
  Inv X pins σ (upd H a o) { s with heap:=h',toks:=t' }:=I.un (Un.laid k hp (I.hok.fresh hp)) (I.hok.laid k hp new)
theorem Inv.write {x e : Addr} {o : HO} {t' : Nat} (I : Inv X pins σ H s) (mu : Mut (H x)) (he : e = x∨H e = some (.own x)) (k : ∀ b u,b≠e→s.heap.get? b = some u→h'.get? b = some u) (heo : ∃ u,h'.get? e = some u)
  (new : ObjOk X.prog X.w (upd H x o) h' x o) : Inv X pins σ (upd H x o) { s with heap:=h',toks:=t' }:=I.un (Un.write mu he k heo) (I.hok.write mu he k heo new)
theorem Inv.pins_of {pins' : List (Addr×Obj)} (I : Inv X pins σ H s) (h : ∀ p∈pins',s.heap.get? p.1 = some p.2∧H p.1 = none∧p.1≠X.env.locals∧p.1 ∉ X.fs∧∀ v,p.2.data≠.cell v) : Inv X pins' σ H s :=
 ⟨I.ok,I.os,I.bare,I.base,I.loc,I.cell,I.free,I.freeC,fun p hp=>(List.mem_append.mp hp).elim (fun z=>I.pin p (List.mem_append_left _ z)) (h p),I.hok,I.len⟩
theorem nodup_ix {N : List Str} (hN : N.Nodup) {i j : Nat} {x : Str} (a : N[i]? = some x) (b : N[j]? = some x) : i = j:=by
 refine bc fun ζ=>?_
 obtain ⟨h1,e1⟩:=List.getElem?_eq_some_iff.mp a
 obtain ⟨h2,e2⟩:=List.getElem?_eq_some_iff.mp b
 exact ζ ((List.getElem_inj hN).mp (e1.trans e2.symm))
theorem store_ok2 {M : Model} {A : Around} {E : Value→Shared→Prop} {i : Nat} {x : Str} {v : V} {u : Value} {Q : Unit→Shared→Prop} (I : Inv X pins σ H s) (hN : X.N.Nodup) (hi : X.N[i]? = some x) (hx : Loc X.env.scope x) (r : RelV v u)
  (h : ∀ s',Inv X pins (σ.set i (some v)) H s'→(∃ a,Heap.SameBut a s.heap s'.heap∧(a = X.env.locals∨X.env.cells.lookup x = some a))→Q () s') (hf : autoParam (X.fn x = true∨X.env.scope.names.lookup x = some .local) _l.a3._auto_1) : wpAny M A (storeName X.env x u) Q E s:=by
 refine bc fun ζ=>?_
 obtain ⟨m,hn,hl⟩:=id I.loc
 apply ζ;clear ζ
 have hcls : (X.env.scope.kind == .class || (X.env.scope.kind == .module && X.env.locals != X.env.globals)) = false:=by rw [I.ok.kind]; rfl
 have hiσ : i < σ.length:=by rw [I.len]; exact (List.getElem?_eq_some_iff.mp hi).1
 have cne:=I.cne
 have tracked : ∀ {a : Addr} {h' : Heap},(∃ o,s.heap.get? a = some o∧H a = none)→Heap.SameBut a s.heap h'→HOk X.prog X.w H h':=fun {a h'} ha hs b ob e=>by
  refine bc fun ζ=>?_
  obtain ⟨_,_,hfree⟩:=ha
  apply ζ;clear ζ
  refine (I.hok b ob e).stay (fun c w' hc q=>(hs.2 c ?_).trans q) (fun _ q=>q) fun _ _ q=>q
  rintro rfl
  rcases hc with rfl | hc
  ·rw [hfree] at e; cases e
  ·rw [hfree] at hc; cases hc
 rcases hx with hk | hk
 ·refine wpAny_storeName_local hk hn (fun h' hn' hs=>?_) hcls
  refine bc fun ζ=>?_
  obtain ⟨oL,_,_,hoL,_⟩:=id hn
  apply ζ;clear ζ
  refine h _ ⟨I.ok,I.os,I.bare,⟨fun b o e n hb hx=>?_,fun b o e n hb hx=>?_,I.base.free,fun b o e hx=>?_,I.base.tups,I.base.frzs,I.base.tbls⟩,⟨_,hn',fun j y v' e1 e2 e3=>?_⟩,fun y c e=>?_,I.free,I.freeC,fun p hp=>?_,tracked ⟨oL,hoL,I.free⟩ hs,by simpa using I.len⟩ ⟨_,hs,.inl rfl⟩
  ·exact (hs.2 b (Nat.ne_of_lt (Nat.lt_of_lt_of_le (Heap.lt_size e) I.ok.above))).trans (I.base.keep b o e n hb hx)
  ·obtain ⟨sl,e1⟩:=I.base.slot b o e n hb hx
   exact ⟨sl,(hs.2 b (Nat.ne_of_lt (Nat.lt_of_lt_of_le (Heap.lt_size e) I.ok.above))).trans e1⟩
  ·obtain ⟨o',e1⟩:=I.base.there b o e hx
   exact ⟨o',(hs.2 b (Nat.ne_of_lt (Nat.lt_of_lt_of_le (Heap.lt_size e) I.ok.above))).trans e1⟩
  ·by_cases hj : j = i
   ·subst hj
    rw [hi] at e1; cases e1
    rw [List.getElem?_set_self hiσ] at e2
    cases e2
    exact ⟨u,r,.inl ⟨hk,by simp⟩⟩
   ·rw [List.getElem?_set_ne (Ne.symm hj)] at e2
    refine bc fun ζ=>?_
    obtain ⟨u',r',q⟩:=hl j y v' e1 e2 e3
    apply ζ;clear ζ
    refine ⟨u',r',?_⟩
    rcases q with ⟨k,e⟩ | ⟨k,c,e,z⟩
    ·refine .inl ⟨k,?_⟩
     have : y≠x:=fun e=>hj (nodup_ix hN e1 (e ▸ hi))
     simp [this,e]
    ·exact .inr ⟨k,c,e,z.sameBut hs (cne y c e)⟩
  ·obtain ⟨w',z⟩:=I.cell y c e
   exact ⟨w',z.sameBut hs (cne y c e)⟩
  ·refine bc fun ζ=>?_
   obtain ⟨e,n,ne,nf,d⟩:=I.pin p hp
   exact ζ (⟨(hs.2 p.1 ne).trans e,n,ne,nf,d⟩)
 ·have hfn : X.fn x = true:=by
   rcases hf with z | z
   ·exact z
   ·rw [z] at hk; cases hk
  refine bc fun ζ=>?_
  obtain ⟨c,hc⟩:=I.ok.has x (.inl hk)
  obtain ⟨w',z⟩:=I.cell x c hc
  apply ζ;clear ζ
  refine wpAny_storeName_cell I.ok.kind hk hc z (fun h' hc' hs=>?_)
  refine bc fun ζ=>?_
  obtain ⟨oc,hoc,hocd⟩:=id z
  apply ζ;clear ζ
  refine h { s with heap:=h' } ⟨I.ok,I.os,I.bare,⟨fun b o e n hb hx=>?_,fun b o e n hb hx=>?_,I.base.free,fun b o e hx=>?_,I.base.tups,I.base.frzs,I.base.tbls⟩,⟨m,hn.sameBut hs (Ne.symm (cne x c hc)),fun j y v' e1 e2 e3=>?_⟩,fun y c' e=>?_,I.free,I.freeC,fun p hp=>?_,tracked ⟨oc,hoc,I.freeC x c hc⟩ hs,by simpa using I.len⟩ ⟨c,hs,.inr hc⟩
  ·exact (hs.2 b (Nat.ne_of_lt (Nat.lt_of_lt_of_le (Heap.lt_size e) (I.ok.cab x c hfn hc)))).trans (I.base.keep b o e n hb hx)
  ·obtain ⟨sl,e1⟩:=I.base.slot b o e n hb hx
   exact ⟨sl,(hs.2 b (Nat.ne_of_lt (Nat.lt_of_lt_of_le (Heap.lt_size e) (I.ok.cab x c hfn hc)))).trans e1⟩
  ·obtain ⟨o',e1⟩:=I.base.there b o e hx
   exact ⟨o',(hs.2 b (Nat.ne_of_lt (Nat.lt_of_lt_of_le (Heap.lt_size e) (I.ok.cab x c hfn hc)))).trans e1⟩
  ·by_cases hj : j = i
   ·subst hj
    rw [hi] at e1; cases e1
    rw [List.getElem?_set_self hiσ] at e2
    cases e2
    exact ⟨u,r,.inr ⟨.inl hk,c,hc,hc'⟩⟩
   ·rw [List.getElem?_set_ne (Ne.symm hj)] at e2
    refine bc fun ζ=>?_
    obtain ⟨u',r',q⟩:=hl j y v' e1 e2 e3
    apply ζ;clear ζ
    refine ⟨u',r',?_⟩
    rcases q with q | ⟨k,c',e,z'⟩
    ·exact .inl q
    ·refine .inr ⟨k,c',e,z'.sameBut hs ?_⟩
     rintro rfl
     exact hj (nodup_ix hN e1 (I.ok.inj _ _ _ e hc ▸ hi))
  ·by_cases hcc : c' = c
   ·subst hcc; exact ⟨_,hc'⟩
   ·obtain ⟨w2,z2⟩:=I.cell y c' e
    exact ⟨w2,z2.sameBut hs hcc⟩
  ·refine bc fun ζ=>?_
   obtain ⟨e,n,ne,nf,d⟩:=I.pin p hp
   apply ζ;clear ζ
   refine ⟨(hs.2 p.1 ?_).trans e,n,ne,nf,d⟩
   intro q
   rw [q,hoc] at e
   have q' : oc = p.2:=Option.some.inj e
   exact d w' (by rw [← q']; exact hocd)
theorem store_ok {M : Model} {A : Around} {E : Value→Shared→Prop} {i : Nat} {x : Str} {v : V} {u : Value} {Q : Unit→Shared→Prop} (I : Inv X pins σ H s) (hN : X.N.Nodup) (hi : X.N[i]? = some x) (hx : Loc X.env.scope x) (r : RelV v u)
  (h : ∀ s',Inv X pins (σ.set i (some v)) H s'→Q () s') (hf : autoParam (X.fn x = true∨X.env.scope.names.lookup x = some .local) _l.a3._auto_1) : wpAny M A (storeName X.env x u) Q E s :=
 store_ok2 I hN hi hx r (fun s' I' _=>h s' I') hf
theorem Inv.call' {s' : Shared} {ch : List Addr} (I : Inv X pins σ H s) (ho : s'.os = s.os) (u : Un (frs X.stack) ch H H' s.heap s'.heap) (hok : HOk X.prog X.w H' s'.heap) (hg : AllBare s'.gens)
  (hch : ∀ b∈ch,(b∈X.ex∨X.s₀.heap.objs.size≤b)∧b≠X.env.locals∧(∀ x c,X.env.cells.lookup x = some c→c≠b)∧∀ p∈X.pn ++ pins,p.1≠b) : Inv X pins σ H' s':=by
 obtain ⟨h',g',d',t',o'⟩:=s'
 have e : o' = s.os:=ho
 subst e
 exact I.call (g':=g') (t':=t') (d':=d') u hok hg hch
end
noncomputable abbrev XK:=Value→Option Addr→Hp→Prop
noncomputable abbrev St:=List (Option V)
noncomputable abbrev VK:=V→Hp→Prop
noncomputable abbrev TE:=St→Hp→VK→Prop
noncomputable abbrev TT:=St→Hp→(Bool→Hp→Prop)→Prop
noncomputable abbrev TA:=St→Hp→(List V→Hp→Prop)→Prop
structure Ends where
 nx : St→Hp→Prop
 rt : VK
 bk : St→Hp→Prop:=fun _ _=>False
 ct : St→Hp→Prop:=fun _ _=>False
noncomputable abbrev TS:=Ends→St→Hp→Prop
noncomputable def EP (X : Cx) (pins : List (Addr×Obj)) (σ : St) (Q : VK) (u : Value) (s' : Shared) : Prop:=∃ v H',Inv X pins σ H' s'∧RelV v u∧Q v H'
noncomputable def TP (X : Cx) (pins : List (Addr×Obj)) (σ : St) (Q : Bool→Hp→Prop) (b : Bool) (s' : Shared) : Prop:=∃ H',Inv X pins σ H' s'∧Q b H'
noncomputable def AP (X : Cx) (pins : List (Addr×Obj)) (σ : St) (Q : List V→Hp→Prop) (us : List Value) (s' : Shared) : Prop:=∃ vs H',Inv X pins σ H' s'∧Vals vs us∧Q vs H'
noncomputable def SP (X : Cx) (pins : List (Addr×Obj)) (D : Ends) (f : Flow) (s' : Shared) : Prop :=
 match f with
 | .next=>∃ σ' H',Inv X pins σ' H' s'∧D.nx σ' H'
 | .brk=>∃ σ' H',Inv X pins σ' H' s'∧D.bk σ' H'
 | .cont=>∃ σ' H',Inv X pins σ' H' s'∧D.ct σ' H'
 | .ret u=>∃ v σ' H',Inv X pins σ' H' s'∧RelV v u∧D.rt v H'
noncomputable def PE (X : Cx) (e : Expr) (t : TE) : Prop :=
 ∀ (pins : List (Addr×Obj)) (s : Shared) (σ : St) (H : Hp) (Q : VK),Inv X pins σ H s→t σ H Q→wpAny (model X.prog X.w) X.A (eval e X.env) (EP X pins σ Q) X.xe s
noncomputable def PT (X : Cx) (e : Expr) (t : TT) : Prop :=
 ∀ (pins : List (Addr×Obj)) (s : Shared) (σ : St) (H : Hp) (Q : Bool→Hp→Prop),Inv X pins σ H s→t σ H Q→wpAny (model X.prog X.w) X.A (isTrue e X.env (eval e X.env)) (TP X pins σ Q) X.xe s
noncomputable def PW (X : Cx) (e : Expr) (t : TT) : Prop :=
 ∀ (whole : Sem Value) (pins : List (Addr×Obj)) (s : Shared) (σ : St) (H : Hp) (Q : Bool→Hp→Prop),Inv X pins σ H s→t σ H Q→wpAny (model X.prog X.w) X.A (isTrue e X.env whole) (TP X pins σ Q) X.xe s
theorem PW.pt {X : Cx} {e : Expr} {t : TT} (h : PW X e t) : PT X e t:=h _
noncomputable def PA (X : Cx) (es : List Expr) (t : TA) : Prop :=
 ∀ (pos : Pos) (pins : List (Addr×Obj)) (s : Shared) (σ : St) (H : Hp) (Q : List V→Hp→Prop),Inv X pins σ H s→t σ H Q→wpAny (model X.prog X.w) X.A (spliced (backTo pos (starEach es X.env))) (AP X pins σ Q) X.xe s
noncomputable def PS (X : Cx) (st : Stmt) (t : TS) : Prop :=
 ∀ (pins : List (Addr×Obj)) (s : Shared) (σ : St) (H : Hp) (D : Ends),Inv X pins σ H s→t D σ H→wpAny (model X.prog X.w) X.A (exec st X.env) (SP X pins D) X.xe s
noncomputable def PSs (X : Cx) (st : List Stmt) (t : TS) : Prop :=
 ∀ (pins : List (Addr×Obj)) (s : Shared) (σ : St) (H : Hp) (D : Ends),Inv X pins σ H s→t D σ H→wpAny (model X.prog X.w) X.A (execs st X.env) (SP X pins D) X.xe s
theorem thn {α : Type} {t : Sem α} {Q Q' : α→Shared→Prop} {M : Model} {A : Around} {E : Value→Shared→Prop} {s : Shared} (h : wpAny M A t Q E s) (hQ : ∀ a s,Q a s→Q' a s) : wpAny M A t Q' E s:=wpAny_mono h hQ fun _ _ x=>x
section
variable {X : Cx}
noncomputable def tVar (i : Nat) : TE:=fun σ H Q=>∃ v,σ[i]? = some (some v)∧Q v H
noncomputable def tC (v : V) : TE:=fun _ H Q=>Q v H
theorem pe_var {i : Nat} {x : Str} {pos : Pos} (hN : X.N[i]? = some x) (hv : Vis X.env.scope x) (hd : autoParam ((x == ("__debug__" : Str)) = false) _l.a1._auto_1) (hcd : autoParam ((x == ("__classdict__" : Str)) = false) _l.a1._auto_1) : PE X (.Name x pos) (tVar i):=by
 intro pins s σ H Q I h
 refine bc fun ζ=>?_
 obtain ⟨v,e,h⟩:=h
 obtain ⟨m,hn,hl⟩:=I.loc
 obtain ⟨u,r,l⟩:=hl i x v hN e hv
 apply ζ;clear ζ
 have fin : EP X pins σ Q u s:=⟨v,H,I,r,h⟩
 rcases l with ⟨hk,hm⟩ | ⟨hk,c,hc,hcell⟩
 ·exact wpAny_Name (wpAny_loadName_local I.ok.kind hk hn hm fin) hd
 ·rcases hk with hk | hk
  ·exact wpAny_Name (wpAny_loadName_cell I.ok.kind hk hc hcell fin) hd
  ·exact wpAny_Name (wpAny_loadName_free I.ok.kind hk hc hcell fin hcd) hd
theorem pe_int {i j pos} : PE X (.Constant (.int i) j pos) (tC (.int i)):=fun _ _ _ H _ I h=>wpAny_Constant_int ⟨.int i,H,I.tok _,⟨_,rfl⟩,h⟩
theorem pe_bl {b j pos} : PE X (.Constant (.bool b) j pos) (tC (.bl b)):=fun _ _ _ H _ I h=>Constant_bool ⟨.bl b,H,I,rfl,h⟩
noncomputable def Gl (X : Cx) (x : Str) : Prop:=X.env.kindOf x = some .globalImplicit
theorem ld_glob {E : Value→Shared→Prop} {pins : List (Addr×Obj)} {s : Shared} {σ : St} {H : Hp} {x : Str} {u : Value} {pos : Pos} {Q : Value→Shared→Prop} (I : Inv X pins σ H s) (hg : Gl X x) (hm : X.mg x = some u) (h : Q u s)
  (hd : autoParam ((x == ("__debug__" : Str)) = false) _l.a1._auto_1) : wpAny (model X.prog X.w) X.A (eval (.Name x pos) X.env) Q E s :=
 Calls.Name_function_global I.ok.kind hg (Calls.loadGlobal_global (by rw [I.ok.glob]; exact I.mod.glob.keeps I.bk) hm h) hd
theorem ld_blt {E : Value→Shared→Prop} {pins : List (Addr×Obj)} {s : Shared} {σ : St} {H : Hp} {x : Str} {u : Value} {pos : Pos} {Q : Value→Shared→Prop} (I : Inv X pins σ H s) (hg : Gl X x) (hm : X.mg x = none) (hv : bootBuiltins x = some u) (h : Q u s)
  (hn : autoParam (x≠"__name__") _l.a1._auto_1) (hd : autoParam ((x == ("__debug__" : Str)) = false) _l.a1._auto_1) : wpAny (model X.prog X.w) X.A (eval (.Name x pos) X.env) Q E s:=by
 refine bc fun ζ=>?_
 obtain ⟨mb,h1,h2⟩:=I.mod.blt
 apply ζ;clear ζ
 exact Calls.Name_function_global I.ok.kind hg (Calls.loadGlobal_builtin (by rw [I.ok.glob]; exact I.mod.glob.keeps I.bk) hm (by rw [I.ok.blt]; exact h1.keeps I.bk) ((h2 x hn).trans hv) h) hd
theorem pe_glob {x : Str} {v : V} {u : Value} {pos : Pos} (hg : Gl X x) (hm : X.mg x = some u) (r : RelV v u) (hd : autoParam ((x == ("__debug__" : Str)) = false) _l.a1._auto_1) : PE X (.Name x pos) (tC v) :=
 fun _ _ _ H _ I h=>ld_glob I hg hm ⟨v,H,I,r,h⟩ hd
theorem pe_bltn {x : Str} {v : V} {u : Value} {pos : Pos} (hg : Gl X x) (hm : X.mg x = none) (hv : bootBuiltins x = some u) (r : RelV v u) (hn : autoParam (x≠"__name__") _l.a1._auto_1) (hd : autoParam ((x == ("__debug__" : Str)) = false) _l.a1._auto_1) : PE X (.Name x pos) (tC v) :=
 fun _ _ _ H _ I h=>ld_blt I hg hm hv ⟨v,H,I,r,h⟩ hn hd
variable {a b : Expr} {ta tb : TE} {pos : Pos}
noncomputable def tB (t : TE) : TT:=fun σ H Q=>t σ H fun x H1=>∃ c,x = .bl c∧Q c H1
theorem pt_val {e : Expr} {t : TE} (h : PE X e t) (he : autoParam (∀ whole,isTrue e X.env whole = (do let v ← whole; standAt e.pos; holding [v] (truthy v))) _l.a2._auto_1) : PT X e (tB t):=by
 intro pins s σ H Q I hw
 refine isTrue_plain (thn (h pins s σ H _ I hw) fun v s1 ⟨x,H1,I1,r1,q1⟩=>?_) (he _)
 obtain ⟨d,rfl,q⟩:=q1
 cases r1
 exact wpAny_truthy_bool ⟨H1,I1,q⟩
variable {tA tB' : TT} {rest : List Expr}
noncomputable def tAnd (t u : TT) : TT:=fun σ H Q=>t σ H fun c H1=>if c = true then u σ H1 Q else Q false H1
noncomputable def tOr (t u : TT) : TT:=fun σ H Q=>t σ H fun c H1=>if c = true then Q true H1 else u σ H1 Q
noncomputable def tNot (t : TT) : TT:=fun σ H Q=>t σ H fun c H1=>Q (!c) H1
theorem pw_and1 (ha : PT X a tA) : PW X (.BoolOp .And [a] pos) tA:=by
 intro wh pins s σ H Q I h
 refine isTrue_and (thn (ha pins s σ H Q I h) fun c s1 e=>?_)
 cases c with
 | true=>exact isTrue_and_nil e
 | false=>exact e
theorem pw_or1 (ha : PT X a tA) : PW X (.BoolOp .Or [a] pos) tA:=by
 intro wh pins s σ H Q I h
 refine isTrue_or (thn (ha pins s σ H Q I h) fun c s1 e=>?_)
 cases c with
 | false=>exact isTrue_or_nil e
 | true=>exact e
theorem pw_and (ha : PT X a tA) (hb : PW X (.BoolOp .And (b :: rest) pos) tB') : PW X (.BoolOp .And (a :: b :: rest) pos) (tAnd tA tB'):=by
 intro wh pins s σ H Q I h
 refine isTrue_and (thn (ha pins s σ H _ I h) fun c s1 ⟨H1,I1,q1⟩=>?_)
 cases c with
 | true=>exact hb wh pins s1 σ H1 Q I1 q1
 | false=>exact ⟨H1,I1,q1⟩
theorem pw_or (ha : PT X a tA) (hb : PW X (.BoolOp .Or (b :: rest) pos) tB') : PW X (.BoolOp .Or (a :: b :: rest) pos) (tOr tA tB'):=by
 intro wh pins s σ H Q I h
 refine isTrue_or (thn (ha pins s σ H _ I h) fun c s1 ⟨H1,I1,q1⟩=>?_)
 cases c with
 | true=>exact ⟨H1,I1,q1⟩
 | false=>exact hb wh pins s1 σ H1 Q I1 q1
theorem pt_not (ha : PT X a tA) : PT X (.UnaryOp .Not a pos) (tNot tA):=by
 intro pins s σ H Q I h
 exact isTrue_not (ha pins s σ H (fun c H1=>Q (!c) H1) I h)
noncomputable def tAndV (ta tb : TE) : TE:=fun σ H Q=>ta σ H fun x H1=>∃ c,x = .bl c∧if c = true then tb σ H1 Q else Q (.bl false) H1
noncomputable def tNotV (ta : TE) : TE:=fun σ H Q=>ta σ H fun x H1=>∃ c,x = .bl c∧Q (.bl (!c)) H1
theorem pe_one {op} {t : TE} (h : PE X a t) : PE X (.BoolOp op [a] pos) t:=fun pins s σ H Q I hw=>BoolOp_one (h pins s σ H Q I hw)
theorem pe_and (ha : PE X a ta) (hb : PE X (.BoolOp .And (b :: rest) pos) tb) : PE X (.BoolOp .And (a :: b :: rest) pos) (tAndV ta tb):=by
 intro pins s σ H Q I h
 refine BoolOp_and (thn (ha pins s σ H _ I h) fun v s1 ⟨x,H1,I1,r1,q1⟩=>?_)
 obtain ⟨c,rfl,q1⟩:=q1
 cases r1
 refine wpAny_truthy_bool ?_
 cases c with
 | true=>exact hb pins s1 σ H1 Q I1 q1
 | false=>exact ⟨.bl false,H1,I1,rfl,q1⟩
theorem pe_not (ha : PE X a ta) : PE X (.UnaryOp .Not a pos) (tNotV ta):=by
 intro pins s σ H Q I h
 refine UnaryOp_ (thn (ha pins s σ H _ I h) fun v s1 ⟨x,H1,I1,r1,q1⟩=>?_)
 obtain ⟨c,rfl,q1⟩:=q1
 cases r1
 exact not_of (wpAny_truthy_bool ⟨.bl (!c),H1,I1,rfl,q1⟩)
noncomputable def tIf (t : TT) (ta tb : TE) : TE:=fun σ H Q=>t σ H fun c H1=>if c = true then ta σ H1 Q else tb σ H1 Q
theorem pe_ifExp {c : Expr} (hc : PT X c tA) (ha : PE X a ta) (hb : PE X b tb) : PE X (.IfExp c a b pos) (tIf tA ta tb):=by
 intro pins s σ H Q I h
 refine wpAny_IfExp (thn (hc pins s σ H _ I h) fun d s1 ⟨H1,I1,q1⟩=>?_)
 cases d with
 | true=>exact ha pins s1 σ H1 Q I1 q1
 | false=>exact hb pins s1 σ H1 Q I1 q1
end
noncomputable def SqL (K : PySem.W.Frag) (H : Hp) (a : Addr) (xs : List V) : Prop :=
 Rd H a (.lst xs) ∨
  ∃ (o : Obj) (its : Array Value) (n : Nat), K.lookup a = some o∧o.cls = .type "list"∧o.dict = none∧o.data = .seq its n∧its.size≤sizeLine∧Vals xs its.toList
noncomputable def SqT (K : PySem.W.Frag) (H : Hp) (a : Addr) (xs : List V) : Prop :=
 Rd H a (.tup xs) ∨
  ∃ (o : Obj) (its : Array Value) (n : Nat), K.lookup a = some o∧o.cls = .type "tuple"∧o.data = .seq its n∧its.size≤sizeLine∧Vals xs its.toList
noncomputable def absV : Value→Option V
 | .none=>some .non
 | .bool b=>some (.bl b)
 | .int i _=>some (.int i)
 | .str x _=>some (.str x)
 | .bytes b _=>some (.byt b)
 | .float b _=>some (.flt b)
 | .ref a=>some (.ref a)
 | .type n=>some (.ty n)
 | _=>none
theorem RelV.abs {x : V} {u : Value} (r : RelV x u) : absV u = some x:=by
 cases x with
 | non=>cases r; rfl
 | bl _=>cases r; rfl
 | int _=>obtain ⟨t,rfl⟩:=r; rfl
 | str _=>obtain ⟨t,rfl⟩:=r; rfl
 | byt _=>obtain ⟨t,rfl⟩:=r; rfl
 | flt _=>obtain ⟨t,rfl⟩:=r; rfl
 | ref _=>cases r; rfl
 | ty _=>cases r; rfl
theorem RelV.inj {x y : V} {u : Value} (r : RelV x u) (q : RelV y u) : x = y:=Option.some.inj (r.abs.symm.trans q.abs)
theorem Vals.inj : ∀ {xs ys : List V} {us : List Value},Vals xs us→Vals ys us→xs = ys
 | _,_,_,.nil,.nil=>rfl
 | _,_,_,.cons r t,.cons r' t'=>by rw [r.inj r',Vals.inj t t']
section
variable {X : Cx} {pins : List (Addr×Obj)} {σ : St} {H : Hp} {s : Shared} {a : Addr} {xs ys : List V}
theorem SqT.of {K : PySem.W.Frag} (h : H a = some (.tup xs)) : SqT K H a xs:=.inl (.inl h)
theorem Inv.list (I : Inv X pins σ H s) (h : SqL X.K H a xs) : ∃ its : List Value,Vals xs its∧PlainL s.heap a its.toArray∧xs.length≤sizeLine:=by
 rcases h with h | ⟨o,its,n,hk,hc,hd,hs,hz,r⟩
 ·obtain ⟨z,its,n,r,e⟩:=h.ok I.hok
  exact ⟨its,r,⟨_,n,e,rfl,rfl,rfl⟩,z⟩
 ·refine ⟨its.toList,r,⟨o,n,I.kIn a o hk,hc,hd,by simpa using hs⟩,?_⟩
  have e:=r.length
  simp only [Array.length_toList] at e
  lia
theorem Inv.tuple (I : Inv X pins σ H s) (h : SqT X.K H a xs) : ∃ its : List Value,Vals xs its∧IsTup s.heap a its.toArray∧xs.length≤sizeLine:=by
 rcases h with h | ⟨o,its,n,hk,hc,hs,hz,r⟩
 ·refine bc fun ζ=>?_
  obtain ⟨z,its,r,p⟩:=h.ok I.hok
  exact ζ (⟨its,r,p,z⟩)
 ·refine ⟨its.toList,r,⟨o,I.kIn a o hk,hc,n,by simpa using hs⟩,?_⟩
  have e:=r.length
  simp only [Array.length_toList] at e
  lia
theorem Inv.list_inj (I : Inv X pins σ H s) (h : SqL X.K H a xs) (h' : SqL X.K H a ys) : xs = ys:=by
 obtain ⟨its,r,⟨o,n,e,_,_,d⟩,_⟩:=I.list h
 obtain ⟨its',r',⟨o',n',e',_,_,d'⟩,_⟩:=I.list h'
 rw [e] at e'; cases e'
 rw [d] at d'
 injection d' with d1 _
 have : its = its':=by simpa using congrArg Array.toList d1
 subst this
 exact r.inj r'
theorem Inv.tuple_inj (I : Inv X pins σ H s) (h : SqT X.K H a xs) (h' : SqT X.K H a ys) : xs = ys:=by
 obtain ⟨its,r,⟨o,e,_,n,d⟩,_⟩:=I.tuple h
 obtain ⟨its',r',⟨o',e',_,n',d'⟩,_⟩:=I.tuple h'
 rw [e] at e'; cases e'
 rw [d] at d'
 injection d' with d1 _
 have : its = its':=by simpa using congrArg Array.toList d1
 subst this
 exact r.inj r'
end
noncomputable abbrev Cx.wish (X : Cx) (E : Value→Shared→Prop) : Cx:={ X with xe:=E }
noncomputable abbrev Cx.nox (X : Cx) : Cx:=X.wish fun _ _=>False
theorem Cx.Ok.wish {X : Cx} (ok : X.Ok) (E : Value→Shared→Prop) : (X.wish E).Ok :=
 ⟨ok.mod,ok.kind,ok.glob,ok.blt,ok.above,ok.inj,ok.has,ok.cab,ok.hd,ok.frames,ok.stk,ok.exf,ok.bs,ok.bsz,ok.noex,ok.exfs,ok.funs,ok.frf⟩
theorem Cx.Ok.unwish {X : Cx} {E : Value→Shared→Prop} (ok : (X.wish E).Ok) : X.Ok :=
 ⟨ok.mod,ok.kind,ok.glob,ok.blt,ok.above,ok.inj,ok.has,ok.cab,ok.hd,ok.frames,ok.stk,ok.exf,ok.bs,ok.bsz,ok.noex,ok.exfs,ok.funs,ok.frf⟩
section
variable {X : Cx} {pins : List (Addr×Obj)} {σ : St} {H : Hp} {s : Shared} {E : Value→Shared→Prop}
theorem Inv.wish (I : Inv X pins σ H s) (E : Value→Shared→Prop) : Inv (X.wish E) pins σ H s:=⟨I.ok.wish E,I.os,I.bare,I.base,I.loc,I.cell,I.free,I.freeC,I.pin,I.hok,I.len⟩
theorem Inv.unwish (I : Inv (X.wish E) pins σ H s) : Inv X pins σ H s:=⟨I.ok.unwish,I.os,I.bare,I.base,I.loc,I.cell,I.free,I.freeC,I.pin,I.hok,I.len⟩
theorem SP.unwish {D : Ends} {f : Flow} {s' : Shared} (h : SP (X.wish E) pins D f s') : SP X pins D f s':=by
 cases f with
 | next=>obtain ⟨σ',H',I,q⟩:=h; exact ⟨σ',H',I.unwish,q⟩
 | brk=>obtain ⟨σ',H',I,q⟩:=h; exact ⟨σ',H',I.unwish,q⟩
 | cont=>obtain ⟨σ',H',I,q⟩:=h; exact ⟨σ',H',I.unwish,q⟩
 | ret u=>obtain ⟨v,σ',H',I,r,q⟩:=h; exact ⟨v,σ',H',I.unwish,r,q⟩
theorem PSs.nox {st : List Stmt} {t : TS} (h : PSs X.nox st t) : PSs X st t:=fun pins s σ H D I hw =>
 wpAny_mono (h pins s σ H D (I.wish _) hw) (fun _ _ q=>q.unwish) fun _ _ z=>False.elim z
end
section
variable {X : Cx} {st : Stmt} {rest : List Stmt} {t u : TS} {e : Expr} {te : TE} {pos : Pos}
noncomputable def tNext : TS:=fun D σ H=>D.nx σ H
noncomputable def tSeq (t u : TS) : TS:=fun D σ H=>t { D with nx:=u D } σ H
theorem pss_nil : PSs X [] tNext:=fun _ _ σ H _ I h=>wpAny_execs_nil ⟨σ,H,I,h⟩
theorem pss_cons (h1 : PS X st t) (h2 : PSs X rest u) : PSs X (st :: rest) (tSeq t u):=by
 intro pins s σ H D I h
 refine wpAny_execs_cons (thn (h1 pins s σ H { D with nx:=u D } I h) fun f s1 q=>?_)
 cases f with
 | next =>
  obtain ⟨σ',H',I',q⟩:=q
  exact h2 pins s1 σ' H' D I' q
 | ret v=>exact q
 | brk=>exact q
 | cont=>exact q
theorem pss_one (h1 : PS X st t) : PSs X [st] t:=by
 intro pins s σ H D I h
 refine wpAny_execs_cons (thn (h1 pins s σ H D I h) fun f s1 q=>?_)
 cases f with
 | next=>exact wpAny_execs_nil q
 | ret v=>exact q
 | brk=>exact q
 | cont=>exact q
theorem Inv.quiet {pins : List (Addr×Obj)} {σ : St} {H : Hp} {s : Shared} (I : Inv X pins σ H s) : interactive X.env = false:=by simp [interactive,I.ok.kind]
noncomputable def tDrop (te : TE) : TS:=fun D σ H=>te σ H fun _ H1=>D.nx σ H1
theorem ps_expr (he : PE X e te) (hs : autoParam (swapsWith e none pos.line X.env = pure false) _l.a0._auto_1) : PS X (.Expr e pos) (tDrop te):=by
 intro pins s σ H D I h
 exact wpAny_Expr_any (thn (he pins s σ H _ I h) fun v s1 ⟨x,H1,I1,r1,q1⟩=>⟨σ,H1,I1,q1⟩) I.quiet hs
noncomputable def tRet (te : TE) : TS:=fun D σ H=>te σ H D.rt
theorem ps_ret (he : PE X e te) : PS X (.Return (some e) pos) (tRet te):=by
 intro pins s σ H D I h
 exact wpAny_Return_some (thn (he pins s σ H _ I h) fun v s1 ⟨x,H1,I1,r1,q1⟩=>⟨x,σ,H1,I1,r1,q1⟩)
noncomputable def tIfS (c : TT) (t u : TS) : TS:=fun D σ H=>c σ H fun b H1=>if b = true then t D σ H1 else u D σ H1
theorem ps_if {c : Expr} {a b : List Stmt} {tc : TT} (hc : PT X c tc) (ha : PSs X a t) (hb : PSs X b u) : PS X (.If c a b pos) (tIfS tc t u):=by
 intro pins s σ H D I h
 refine wpAny_If (thn (hc pins s σ H _ I h) fun d s1 ⟨H1,I1,q1⟩=>?_)
 cases d with
 | true=>exact ha pins s1 σ H1 D I1 q1
 | false=>exact hb pins s1 σ H1 D I1 q1
noncomputable def tNever : TS:=fun _ _ _=>False
theorem ps_never : PS X st tNever:=fun _ _ _ _ _ _ h=>h.elim
end
noncomputable abbrev TG:=V→St→Hp→(St→Hp→Prop)→Prop
noncomputable abbrev TGs:=List V→St→Hp→(St→Hp→Prop)→Prop
noncomputable def PG (X : Cx) (target : Expr) (t : TG) : Prop :=
 ∀ (pins : List (Addr×Obj)) (s : Shared) (σ : St) (H : Hp) (v : V) (u : Value) (Q : St→Hp→Prop),Inv X pins σ H s→RelV v u→t v σ H Q →
  wpAny (model X.prog X.w) X.A (assign target X.env u) (fun _ s'=>∃ σ' H',Inv X pins σ' H' s'∧Q σ' H') X.xe s
noncomputable def PGs (X : Cx) (ts : List Expr) (t : TGs) : Prop :=
 ∀ (pins : List (Addr×Obj)) (s : Shared) (σ : St) (H : Hp) (vs : List V) (us : List Value) (Q : St→Hp→Prop),Inv X pins σ H s→Vals vs us→t vs σ H Q →
  wpAny (model X.prog X.w) X.A (assignInOrder ((assignEach ts X.env).map (·.2)) us) (fun _ s'=>∃ σ' H',Inv X pins σ' H' s'∧Q σ' H') X.xe s
noncomputable abbrev TSet:=V→V→V→Hp→(Hp→Prop)→Prop
noncomputable def PSet (X : Cx) (t : TSet) : Prop :=
 ∀ (pins : List (Addr×Obj)) (s : Shared) (σ : St) (H : Hp) (o i v : V) (ov iv u : Value) (Q : Hp→Prop),Inv X pins σ H s→RelV o ov→RelV i iv→RelV v u→t o i v H Q →
  wpAny (model X.prog X.w) X.A (setItem ov iv u) (fun _ s'=>∃ H',Inv X pins σ H' s'∧Q H') X.xe s
section
variable {X : Cx} {pos : Pos}
noncomputable def gName (i : Nat) : TG:=fun v σ H Q=>Q (σ.set i (some v)) H
theorem pg_name {i : Nat} {x : Str} (hN : X.N.Nodup) (hi : X.N[i]? = some x) (hx : Loc X.env.scope x) (hf : autoParam (X.fn x = true∨X.env.scope.names.lookup x = some .local) _l.a3._auto_1) : PG X (.Name x pos) (gName i):=by
 intro pins s σ H v u Q I r h
 exact wpAny_assign_Name (store_ok I hN hi hx r (fun s' I'=>⟨_,H,I',h⟩) hf)
noncomputable def gNil : TGs:=fun vs σ H Q=>vs = []∧Q σ H
noncomputable def gCons (t : TG) (u : TGs) : TGs:=fun vs σ H Q=>∃ v r,vs = v :: r∧t v σ H fun σ' H'=>u r σ' H' Q
theorem pgs_nil : PGs X [] gNil:=by
 intro pins s σ H vs us Q I r h
 refine bc fun ζ=>?_
 obtain ⟨e,h⟩:=h
 subst e
 cases r
 exact ζ (assignInOrder_nil ⟨σ,H,I,h⟩)
theorem pgs_cons {e : Expr} {es : List Expr} {t : TG} {u : TGs} (h1 : PG X e t) (h2 : PGs X es u)
  (hs : autoParam ((assignEach (e :: es) X.env).map (·.2) = assign e X.env :: (assignEach es X.env).map (·.2)) _l.a0._auto_1) : PGs X (e :: es) (gCons t u):=by
 intro pins s σ H vs us Q I r h
 refine bc fun ζ=>?_
 obtain ⟨v,vr,e1,h⟩:=h
 subst e1
 apply ζ;clear ζ
 cases r with
 | cons r rr =>
  rw [hs]
  refine assignInOrder_cons (thn (h1 pins s σ H _ _ _ I r h) fun _ s1 ⟨σ1,H1,I1,q1⟩=>?_)
  exact h2 pins s1 σ1 H1 _ _ Q I1 rr q1
noncomputable def gTup (K : PySem.W.Frag) (n : Nat) (t : TGs) : TG:=fun v σ H Q=>∃ a xs,v = .ref a∧SqT K H a xs∧xs.length = n∧t xs σ H Q
theorem pg_tup {es : List Expr} {k : Nat} {t : TGs} {n : Nat} (hc : X.calm = true) (h : PGs X es t)
  (hn : autoParam ((assignEach es X.env).length = n) _l.a0._auto_1) (hst : autoParam ((assignEach es X.env).findIdx? (·.1) = none) _l.a0._auto_1) : PG X (.Tuple es k pos) (gTup X.K n t):=by
 intro pins s σ H v u Q I r hw
 refine bc fun ζ=>?_
 obtain ⟨a,xs,e1,hq,hl,hw⟩:=hw
 subst e1
 cases r
 obtain ⟨its,rv,ht,hz⟩:=I.tuple hq
 apply ζ;clear ζ
 refine assign_Tuple_tuple (I.ok.hd hc) ht (by simp [hn,← hl,rv.length]) hst fun h' hx=>?_
 have I1 : Inv X pins σ H { s with heap:=h' }:=I.kept (t':=s.toks) fun b o e=>hx b o (Nat.ne_of_lt (Heap.lt_size e)) e
 exact h pins _ σ H xs _ Q I1 (by simpa using rv) hw
noncomputable def gSub (to ti : TE) (t : TSet) : TG:=fun v σ H Q=>to σ H fun o H1=>ti σ H1 fun i H2=>t o i v H2 fun H3=>Q σ H3
theorem pg_sub {o i : Expr} {to ti : TE} {t : TSet} (ho : PE X o to) (hi : PE X i ti) (hs : PSet X t)
  (ha : autoParam (∀ v,assign (.Subscript o i pos) X.env v = (do
   let ov ← holding [v] (eval o X.env)
   let iv ← holding [v,ov] (eval i X.env)
   standAt pos
   holding [v,ov,iv] (setItem ov iv v)
   release [v,ov,iv] [])) _l.a2._auto_1) : PG X (.Subscript o i pos) (gSub to ti t):=by
 intro pins s σ H v u Q I r h
 rw [ha]
 refine wpAny_bind (wpAny_holding (thn (ho pins s σ H _ I h) fun ov s1 ⟨x,H1,I1,r1,q1⟩=>?_))
 refine wpAny_bind (wpAny_holding (thn (hi pins s1 σ H1 _ I1 q1) fun iv s2 ⟨y,H2,I2,r2,q2⟩=>?_))
 refine wpAny_bind (wpAny_standAt (wpAny_bind (wpAny_holding (thn (hs pins s2 σ H2 x y v ov iv u _ I2 r1 r2 r q2) fun _ s3 ⟨H3,I3,q3⟩=>?_))))
 exact wpAny_release ⟨σ,H3,I3,q3⟩
noncomputable def tAsg (te : TE) (g : TG) : TS:=fun D σ H=>te σ H fun x H1=>g x σ H1 D.nx
theorem ps_asg {tg e : Expr} {te : TE} {g : TG} (he : PE X e te) (hg : PG X tg g) (hs : autoParam (swapsWithSole [tg] e pos.line X.env = pure false) _l.a0._auto_1) (hw : autoParam (swappedStores [tg] e X.env = pure none) _l.a0._auto_1)
  (h1 : autoParam ((assignEach [tg] X.env).map (·.2) = [assign tg X.env]) _l.a0._auto_1) : PS X (.Assign [tg] e pos) (tAsg te g):=by
 intro pins s σ H D I h
 refine wpAny_Assign_stores (thn (he pins s σ H _ I h) fun v s1 ⟨x,H1,I1,r1,q1⟩=>?_) hs hw
 rw [h1]
 exact thn (hg pins s1 σ H1 x v _ I1 r1 q1) fun _ s2 q=>q
theorem ps_set {i : Nat} {x : Str} {e : Expr} {te : TE} {pos' : Pos} (hN : X.N.Nodup) (hi : X.N[i]? = some x) (hx : Loc X.env.scope x) (he : PE X e te) (hs : autoParam (swapsWith e (some (.Name x pos')) pos.line X.env = pure false) _l.a0._auto_1) (hf : autoParam (X.fn x = true∨X.env.scope.names.lookup x = some .local) _l.a3._auto_1) :
  PS X (.Assign [.Name x pos'] e pos) (tAsg te (gName i)):=by
 intro pins s σ H D I h
 refine wpAny_Assign_Name (thn (he pins s σ H _ I h) fun v s1 ⟨y,H1,I1,r1,q1⟩=>?_) hs
 exact store_ok I1 hN hi hx r1 (fun s2 I2=>⟨_,H1,I2,q1⟩) hf
noncomputable def tPar (i j : Nat) (ta : TA) : TS:=fun D σ H=>ta σ H fun vs H1=>∃ v w,vs = [v,w]∧D.nx ((σ.set i (some v)).set j (some w)) H1
theorem ps_par {i j : Nat} {x y : Str} {a b : Expr} {ta : TA} {px py pt : Pos} {kt k2 pt2} (hc : X.calm = true) (hN : X.N.Nodup) (hi : X.N[i]? = some x) (hj : X.N[j]? = some y) (hij : i≠j)
  (hx : X.env.scope.names.lookup x = some .local) (hy : X.env.scope.names.lookup y = some .local) (ha : PA X [a,b] ta)
  (hw : swappedStores [.Tuple [.Name x px,.Name y py] kt pt] (.Tuple [a,b] k2 pt2) X.env = pure (some [x,y]))
  (hs : autoParam (swapsWithSole [.Tuple [.Name x px,.Name y py] kt pt] (.Tuple [a,b] k2 pt2) pos.line X.env = pure false) _l.a0._auto_1) :
  PS X (.Assign [.Tuple [.Name x px,.Name y py] kt pt] (.Tuple [a,b] k2 pt2) pos) (tPar i j ta):=by
 intro pins s σ H D I h
 rw [exec_Assign_arm]
 refine wpAny_bind (wpAny_standAt ?_)
 rw [hs]
 refine wpAny_bind (wpAny_pure ?_)
 rw [if_neg (by decide)]
 refine wpAny_bind (Tuple_ (thn (ha _ pins s σ H _ I h) fun us s1 ⟨vs,H1,I1,r1,q1⟩=>?_))
 obtain ⟨v,w,e1,q1⟩:=q1
 subst e1
 obtain ⟨u1,u2,rfl,rv,rw'⟩ : ∃ u1 u2,us = [u1,u2]∧RelV v u1∧RelV w u2:=by
  cases r1 with
  | cons p q =>
   cases q with
   | cons p' q' =>
    cases q'
    exact ⟨_,_,rfl,p,p'⟩
 refine wpAny_newObj_type ?_ (by show 2≤sizeLine; decide)
 have I2 : Inv X pins σ H1 { s1 with heap:=s1.heap.push { cls:=.type "tuple", data:=.seq [u1, u2].toArray } }:=I1.kept (t':=s1.toks) fun b o e=>Heap.get?_push_of_some _ e
 rw [hw]
 refine wpAny_bind (wpAny_pure ?_)
 show wpAny (model X.prog X.w) X.A (do rule "assign.swapped-stores"; let items ← unpackItems (.ref s1.heap.objs.size) 2 none; assignInOrder [fun v=>bindName X.env y v, fun v=>bindName X.env x v] items.reverse; pure Flow.next) _ _ _
 refine wpAny_bind (wpAny_rule (wpAny_bind (unpackItems_tuple (items:=#[u1,u2]) (I.ok.hd hc) (IsTup.new s1.heap _) fun h' hx'=>?_)))
 have I3:=I2.kept (h':=h') (t':=s1.toks) fun b o e=>hx' b o (Nat.ne_of_lt (Heap.lt_size e)) e
 show wpAny _ _ (assignInOrder [fun v=>bindName X.env y v,fun v=>bindName X.env x v] [u2,u1] >>= fun _=>pure Flow.next) _ _ _
 refine wpAny_bind (assignInOrder_cons (wpAny_bindName (store_ok I3 hN hj (.inl hy) rw' (fun s2 I4=>?_) (.inr hy))))
 refine assignInOrder_cons (wpAny_bindName (store_ok I4 hN hi (.inl hx) rv (fun s3 I5=>assignInOrder_nil (wpAny_pure ?_)) (.inr hx)))
 rw [List.set_comm _ _ (Ne.symm hij)] at I5
 exact ⟨_,H1,I5,q1⟩
end
section
variable {X : Cx} {pos : Pos}
end
structure It where
 go : Nat→Hp→Prop
 yld : Nat→Hp→V→Hp→Prop
 stop : Nat→Hp→Prop
noncomputable def FpOk (X : Cx) (pins : List (Addr×Obj)) (H : Hp) (b : Addr) : Prop :=
 H b = none∧b≠X.env.locals∧b ∉ X.fs∧(b∈X.ex∨X.s₀.heap.objs.size≤b)∧(∀ x c,X.env.cells.lookup x = some c→c≠b)∧∀ p∈X.pn ++ pins,p.1≠b
theorem Inv.fpOk {X : Cx} {pins : List (Addr×Obj)} {σ : St} {H H' : Hp} {s : Shared} {b : Addr} (I : Inv X pins σ H s) (hb : s.heap.objs.size≤b) (hn : H' b = none) : FpOk X pins H' b:=by
 refine ⟨hn,Nat.ne_of_gt (Nat.lt_of_lt_of_le I.lt hb),I.nofs hb,.inr (Nat.le_trans I.sz hb),fun x c e z=>?_,fun p hp z=>?_⟩
 ·obtain ⟨v,q⟩:=I.cell x c e
  exact absurd (Nat.lt_of_lt_of_le q.lt (by rw [z]; exact hb)) (Nat.lt_irrefl _)
 ·exact absurd (Nat.lt_of_lt_of_le (Heap.lt_size (I.pin p hp).1) (by rw [z]; exact hb)) (Nat.lt_irrefl _)
structure Turn (P : Program) (w : World) (K : PySem.W.Frag) (tg : Expr) (J : It) (fp : List Addr) (it : Addr) (tn : Nat→Heap→Prop) : Prop where
 mem : it∈fp
 obj : ∀ i h,tn i h→∀ b∈fp,∃ o,h.get? b = some o∧∀ v,o.data≠.cell v
 keep : ∀ i h h',tn i h→(∀ b∈fp,∀ o,h.get? b = some o→h'.get? b = some o)→tn i h'
 item : ∀ (X : Cx),X.prog = P→X.w = w→X.K = K→X.calm = true→∀ (i : Nat) (pins : List (Addr×Obj)) (s : Shared) (σ : St) (H : Hp) (E : Value→Shared→Prop),Inv X pins σ H s→(∀ b∈fp,FpOk X pins H b)→tn i s.heap→J.go i H →
  wpAny (model P w) X.A (pyNext (.ref it)) (fun r s1=>∃ u,r = some u ∧
   wpAny (model P w) X.A (letOwnedTupleGo tg (.ref it) u) (fun _ s2=>∃ x H',Inv X pins σ H' s2∧RelV x u∧J.yld i H x H'∧tn (i + 1) s2.heap∧∀ b∈fp,H' b = none) E s1) E s
 done : ∀ (X : Cx),X.prog = P→X.w = w→X.K = K→X.calm = true→∀ (i : Nat) (pins : List (Addr×Obj)) (s : Shared) (σ : St) (H : Hp) (E : Value→Shared→Prop),Inv X pins σ H s→(∀ b∈fp,FpOk X pins H b)→tn i s.heap→J.stop i H →
  wpAny (model P w) X.A (pyNext (.ref it)) (fun r s1=>r = none∧Inv X pins σ H s1) E s
 self : ∀ (A : Around) (i : Nat) (s : Shared) (Q : Value→Shared→Prop) (E : Value→Shared→Prop),tn i s.heap→Q (.ref it) s→wpAny (model P w) A (pyIter (.ref it)) Q E s
noncomputable abbrev TI:=St→Hp→(It→Hp→Prop)→Prop
noncomputable def PIE (X : Cx) (pins : List (Addr×Obj)) (σ : St) (tg : Expr) (R : It→Hp→Prop) (itv : Value) (s2 : Shared) : Prop :=
 ∃ (it : Addr) (fp : List Addr) (tn : Nat→Heap→Prop) (J : It) (H' : Hp),itv = .ref it∧Inv X pins σ H' s2∧Turn X.prog X.w X.K tg J fp it tn∧tn 0 s2.heap∧(∀ b∈fp,FpOk X pins H' b)∧R J H'
noncomputable def PI (X : Cx) (tg iter : Expr) (wi : TI) : Prop :=
 ∀ (pins : List (Addr×Obj)) (s : Shared) (σ : St) (H : Hp) (R : It→Hp→Prop),Inv X pins σ H s→wi σ H R →
  wpAny (model X.prog X.w) X.A (eval iter X.env) (fun v s1=>wpAny (model X.prog X.w) X.A (pyIter v) (PIE X pins σ tg R) X.xe s1) X.xe s
theorem go_of {M : Model} {A : Around} {E : Value→Shared→Prop} {s : Shared} {tg : Expr} {it : Addr} {u : Value} {o : Obj} {n : String} {vs : Array Value} {Q : Unit→Shared→Prop} (ho : s.heap.get? it = some o) (hc : o.cls = .type n) (hd : o.data = .fields vs)
  (hn : ["enumerate", "zip", "dict_itemiterator", "dict_reverseitemiterator", "odict_iterator", "itertools.zip_longest", "itertools.pairwise"].contains n = false) (hQ : Q () s) : wpAny M A (letOwnedTupleGo tg (.ref it) u) Q E s:=by
 unfold letOwnedTupleGo
 cases tg <;> first
  | exact wpAny_pure hQ
  | (cases u <;> first
    | exact wpAny_pure hQ
    | (refine wpAny_bind (wpAny_load ho ?_)
       rw [hc,hd]
       show wpAny M A (if (["enumerate", "zip", "dict_itemiterator", "dict_reverseitemiterator", "odict_iterator", "itertools.zip_longest", "itertools.pairwise"].contains n && vs[0]? == some (rawInt _)) = true then _ else _) Q E s
       rw [if_neg (by intro h; rw [hn,Bool.false_and] at h; cases h)]
       exact wpAny_pure hQ))
noncomputable def Itl (K : PySem.W.Frag) (a : Addr) : It :=
 ⟨fun i H=>∃ xs x,SqL K H a xs∧xs[i]? = some x,fun i H x H'=>H' = H∧∀ xs,SqL K H a xs→xs[i]? = some x,fun i H=>∃ xs,SqL K H a xs∧xs.length≤i⟩
noncomputable def Itt (K : PySem.W.Frag) (a : Addr) : It :=
 ⟨fun i H=>∃ xs x,SqT K H a xs∧xs[i]? = some x,fun i H x H'=>H' = H∧∀ xs,SqT K H a xs→xs[i]? = some x,fun i H=>∃ xs,SqT K H a xs∧xs.length≤i⟩
noncomputable def Itr (lo : Int) (n : Nat) : It:=⟨fun i _=>i < n,fun i H x H'=>H' = H∧x = .int (lo + i),fun i _=>n≤i⟩
theorem turn_one {P : Program} {w : World} {K : PySem.W.Frag} {tg : Expr} {J : It} {it : Addr} {tn : Nat→Heap→Prop} (n : String) (hn : ["enumerate", "zip", "dict_itemiterator", "dict_reverseitemiterator", "odict_iterator", "itertools.zip_longest", "itertools.pairwise"].contains n = false)
  (fld : ∀ i h,tn i h→∃ o vs,h.get? it = some o∧o.cls = .type n∧o.data = .fields vs) (keep : ∀ i h h',tn i h→(∀ o,h.get? it = some o→h'.get? it = some o)→tn i h')
  (item : ∀ (X : Cx),X.prog = P→X.w = w→X.K = K→X.calm = true→∀ i pins s σ H E,Inv X pins σ H s→tn i s.heap→J.go i H→∀ Q : Option Value→Shared→Prop,
   (∀ u x h' tk,RelV x u→J.yld i H x H→tn (i + 1) h'→(∀ b o,b≠it→s.heap.get? b = some o→h'.get? b = some o)→Q (some u) { s with heap:=h',toks:=tk })→wpAny (model P w) X.A (pyNext (.ref it)) Q E s)
  (done : ∀ (X : Cx),X.prog = P→X.w = w→X.K = K→X.calm = true→∀ i pins s σ H E,Inv X pins σ H s→tn i s.heap→J.stop i H→∀ Q : Option Value→Shared→Prop,
   (∀ h',(∀ b o,b≠it→s.heap.get? b = some o→h'.get? b = some o)→Q none { s with heap:=h' })→wpAny (model P w) X.A (pyNext (.ref it)) Q E s)
  (self : ∀ (A : Around) (i : Nat) (s : Shared) (Q : Value→Shared→Prop) (E : Value→Shared→Prop),tn i s.heap→Q (.ref it) s→wpAny (model P w) A (pyIter (.ref it)) Q E s) : Turn P w K tg J [it] it tn where
 mem:=List.mem_singleton.mpr rfl
 obj:=fun i h st b hb=>by
  refine bc fun ζ=>?_
  obtain ⟨o,vs,e,_,d⟩:=fld i h st
  apply ζ;clear ζ
  exact ⟨o,List.mem_singleton.mp hb ▸ e,fun v z=>by rw [d] at z; cases z⟩
 keep:=fun i h h' st k=>keep i h h' st fun o e=>k it (List.mem_singleton.mpr rfl) o e
 item:=fun X hP hw hK hc i pins s σ H E I hf st hg=>by
  refine bc fun ζ=>?_
  obtain ⟨f0,f1,f2,f3,f4,f5⟩:=hf it (List.mem_singleton.mpr rfl)
  apply ζ;clear ζ
  refine item X hP hw hK hc i pins s σ H E I st hg _ fun u x h' tk ru hy st' sb=>?_
  refine bc fun ζ=>?_
  obtain ⟨o,vs,e,c,d⟩:=fld _ _ st'
  exact ζ (⟨u,rfl,go_of (s:={ s with heap:=h',toks:=tk }) e c d hn ⟨x,H,I.turned sb f0 f1 f3 f4 f5,ru,hy,st',fun b hb=>(hf b hb).1⟩⟩)
 done:=fun X hP hw hK hc i pins s σ H E I hf st hg=>by
  refine bc fun ζ=>?_
  obtain ⟨f0,f1,f2,f3,f4,f5⟩:=hf it (List.mem_singleton.mpr rfl)
  exact ζ (done X hP hw hK hc i pins s σ H E I st hg _ fun h' eb=>⟨rfl,I.turned (t':=s.toks) eb f0 f1 f3 f4 f5⟩)
 self:=self
theorem turn_list {P : Program} {w : World} {K : PySem.W.Frag} {tg : Expr} (a it : Addr) : Turn P w K tg (Itl K a) [it] it (fun i h=>h.IsListIter it a i):=by
 refine turn_one _ ?_ (fun i h st=>st.elim fun o z=>⟨o,_,z.1,z.2.1,z.2.2⟩) (fun i h h' st k=>st.at fun o e=>k o e) (fun X hP hw hK hc i pins s σ H E I st hg Q k=>?_) (fun X hP hw hK hc i pins s σ H E I st hg Q k=>?_) fun _ _ _ _ _ st h=>wpAny_pyIter_listiter st h
 ·decide
 ·subst hP hw hK
  refine bc fun ζ=>?_
  obtain ⟨xs,x,hq,hx⟩:=hg
  obtain ⟨its,rv,p,hz⟩:=I.list hq
  obtain ⟨u,hu,ru⟩:=rv.get hx
  apply ζ;clear ζ
  exact wpAny_pyNext_list_item st p.isList (x:=u) (by simpa using hu) fun h' st' sb=>k u x h' s.toks ru ⟨rfl,fun ys hy=>by rw [I.list_inj hy hq]; exact hx⟩ st' fun b o hb e=>(sb.2 b hb).trans e
 ·subst hP hw hK
  refine bc fun ζ=>?_
  obtain ⟨xs,hq,hx⟩:=hg
  obtain ⟨its,rv,p,hz⟩:=I.list hq
  apply ζ;clear ζ
  have hl:=rv.length
  exact wpAny_pyNext_list_end (I.ok.hd hc) st p.isList (by simp; lia) fun h' eb=>k h' fun b o hb e=>eb b o hb e
theorem turn_tuple {P : Program} {w : World} {K : PySem.W.Frag} {tg : Expr} (a it : Addr) : Turn P w K tg (Itt K a) [it] it (fun i h=>h.IsTupleIter it a i):=by
 refine turn_one _ ?_ (fun i h st=>st.elim fun o z=>⟨o,_,z.1,z.2.1,z.2.2⟩) (fun i h h' st k=>st.at fun o e=>k o e) (fun X hP hw hK hc i pins s σ H E I st hg Q k=>?_) (fun X hP hw hK hc i pins s σ H E I st hg Q k=>?_) fun _ _ _ _ _ st h=>wpAny_pyIter_tupleiter st h
 ·decide
 ·subst hP hw hK
  refine bc fun ζ=>?_
  obtain ⟨xs,x,hq,hx⟩:=hg
  obtain ⟨its,rv,p,hz⟩:=I.tuple hq
  obtain ⟨u,hu,ru⟩:=rv.get hx
  apply ζ;clear ζ
  exact wpAny_pyNext_tuple_item st (show s.heap.IsTuple a its.toArray from p) (x:=u) (by simpa using hu) fun h' st' sb=>k u x h' s.toks ru ⟨rfl,fun ys hy=>by rw [I.tuple_inj hy hq]; exact hx⟩ st' fun b o hb e=>(sb.2 b hb).trans e
 ·subst hP hw hK
  refine bc fun ζ=>?_
  obtain ⟨xs,hq,hx⟩:=hg
  obtain ⟨its,rv,p,hz⟩:=I.tuple hq
  apply ζ;clear ζ
  have hl:=rv.length
  exact wpAny_pyNext_tuple_end (I.ok.hd hc) st (show s.heap.IsTuple a its.toArray from p) (by simp; lia) fun h' eb=>k h' fun b o hb e=>eb b o hb e
theorem turn_range {P : Program} {w : World} {K : PySem.W.Frag} {tg : Expr} (it : Addr) (lo : Int) (n : Nat) : Turn P w K tg (Itr lo n) [it] it (fun i h=>IsRangeIter h it (lo + (i : Nat) * 1) ((n : Int) - (i : Nat)) 1):=by
 refine turn_one "range_iterator" (by decide) (fun i h st=>⟨_,_,st,rfl,rfl⟩) (fun i h h' st k=>k _ st) (fun X hP hw hK hc i pins s σ H E I st hg Q k=>?_) (fun X hP hw hK hc i pins s σ H E I st hg Q k=>?_) fun _ _ _ _ _ st h=>wpAny_pyIter_rangeiter st h
 ·subst hP hw hK
  refine (Walks.range (prog:=X.prog) (w:=X.w) (I.ok.hd hc) it lo 1 n).item i s _ _ hg st fun v h' tk hv st' kk=>?_
  obtain ⟨t,rfl⟩:=hv
  exact k _ (.int (lo + i)) h' tk ⟨t,by rw [Int.mul_one]⟩ ⟨rfl,rfl⟩ st' fun b o hb e=>kk b o (fun z=>hb (List.mem_singleton.mp z)) e
 ·subst hP hw hK
  exact wpAny_pyNext_range_end (I.ok.hd hc) st (by have : n≤i:=hg; lia) fun h' eb=>k h' fun b o hb e=>eb b o hb e
section
variable {X : Cx} {tg : Expr}
noncomputable def iList (K : PySem.W.Frag) (tl : TE) : TI:=fun σ H R=>tl σ H fun x H1=>∃ a,x = .ref a∧(∃ xs,SqL K H1 a xs)∧R (Itl K a) H1
noncomputable def iTup (K : PySem.W.Frag) (tl : TE) : TI:=fun σ H R=>tl σ H fun x H1=>∃ a,x = .ref a∧(∃ xs,SqT K H1 a xs)∧R (Itt K a) H1
theorem pi_list {l : Expr} {tl : TE} (hl : PE X l tl) : PI X tg l (iList X.K tl):=by
 intro pins s σ H R I h
 refine thn (hl pins s σ H _ I h) fun v s1 ⟨x,H1,I1,r1,q1⟩=>?_
 refine bc fun ζ=>?_
 obtain ⟨a,e,⟨xs,hq⟩,q⟩:=q1
 subst e
 cases r1
 obtain ⟨its,rv,p,hz⟩:=I1.list hq
 apply ζ;clear ζ
 refine wpAny_pyIter_list p.isList ?_
 refine ⟨s1.heap.objs.size,[s1.heap.objs.size],_,_,H1,rfl,I1.kept (t':=s1.toks) fun b o e=>Heap.get?_push_of_some _ e,turn_list a _,⟨_,Heap.get?_push_size _ rfl,rfl,rfl⟩,fun b hb=>?_,q⟩
 have e : b = s1.heap.objs.size:=by simpa using hb
 subst e
 exact I1.fpOk (Nat.le_refl _) (I1.hok.fresh (Nat.le_refl _))
theorem pi_tup {l : Expr} {tl : TE} (hl : PE X l tl) : PI X tg l (iTup X.K tl):=by
 intro pins s σ H R I h
 refine thn (hl pins s σ H _ I h) fun v s1 ⟨x,H1,I1,r1,q1⟩=>?_
 refine bc fun ζ=>?_
 obtain ⟨a,e,⟨xs,hq⟩,q⟩:=q1
 subst e
 cases r1
 obtain ⟨its,rv,p,hz⟩:=I1.tuple hq
 apply ζ;clear ζ
 refine wpAny_pyIter_tuple (show s1.heap.IsTuple a its.toArray from p) ?_
 refine ⟨s1.heap.objs.size,[s1.heap.objs.size],_,_,H1,rfl,I1.kept (t':=s1.toks) fun b o e=>Heap.get?_push_of_some _ e,turn_tuple a _,⟨_,Heap.get?_push_size _ rfl,rfl,rfl⟩,fun b hb=>?_,q⟩
 have e : b = s1.heap.objs.size:=by simpa using hb
 subst e
 exact I1.fpOk (Nat.le_refl _) (I1.hok.fresh (Nat.le_refl _))
theorem range_it {pins : List (Addr×Obj)} {σ : St} {H : Hp} {s : Shared} {R : It→Hp→Prop} {E : Value→Shared→Prop} {lo hi : Int} {t u v : Tok} {tk : Nat} (I : Inv X pins σ H s) (h1 : -(2 ^ 62)≤lo) (h2 : lo < 2 ^ 62) (h3 : -(2 ^ 62)≤hi) (h4 : hi < 2 ^ 62)
  (q : R (Itr lo (hi - lo).toNat) H) : wpAny (model X.prog X.w) X.A (pyIter (.ref s.heap.objs.size)) (PIE X pins σ tg R) E { s with heap:=s.heap.push { cls:=.type "range", data:=.fields #[.int lo t, .int hi u, .int 1 v] }, toks:=tk }:=by
 refine wpAny_pyIter_range (IsRange.new ..) (small_one h1 h2 h3 h4) ?_
 have I1 : Inv X pins σ H { s with heap:=s.heap.push { cls:=.type "range", data:=.fields #[.int lo t, .int hi u, .int 1 v] }, toks:=tk }:=I.kept fun b o e=>Heap.get?_push_of_some _ e
 refine ⟨(s.heap.push { cls:=.type "range", data:=.fields #[.int lo t, .int hi u, .int 1 v] }).objs.size, [(s.heap.push { cls:=.type "range", data:=.fields #[.int lo t, .int hi u, .int 1 v] }).objs.size], _, _, H, rfl,
  I1.kept (t':=tk) fun b o e=>Heap.get?_push_of_some _ e,turn_range _ lo (hi - lo).toNat,?_,fun b hb=>?_,q⟩
 ·have e1 : lo + ((0 : Nat) : Int) * 1 = lo:=by simp
  have e2 : (((hi - lo).toNat : Nat) : Int) - ((0 : Nat) : Int) = Builtin.Range.rangeSize lo hi 1:=by rw [rangeSize_one]; split <;> lia
  show IsRangeIter _ _ (lo + ((0 : Nat) : Int) * 1) ((((hi - lo).toNat : Nat) : Int) - ((0 : Nat) : Int)) 1
  rw [e1,e2]
  exact Heap.get?_push_size _ rfl
 ·have e : b = (s.heap.push { cls:=.type "range", data:=.fields #[.int lo t, .int hi u, .int 1 v] }).objs.size:=by simpa using hb
  subst e
  exact I1.fpOk (Nat.le_refl _) (I1.hok.fresh (Nat.le_refl _))
noncomputable def iRng1 (ta : TA) : TI:=fun σ H R=>ta σ H fun vs H1=>∃ j : Int,vs = [.int j]∧-(2 ^ 62)≤j∧j < 2 ^ 62∧R (Itr 0 j.toNat) H1
noncomputable def iRng2 (ta : TA) : TI:=fun σ H R=>ta σ H fun vs H1=>∃ i j : Int,vs = [.int i,.int j]∧(-(2 ^ 62)≤i∧i < 2 ^ 62∧-(2 ^ 62)≤j∧j < 2 ^ 62)∧R (Itr i (j - i).toNat) H1
theorem pi_range1 {a : Expr} {ta : TA} {p pos : Pos} (hg : Gl X "range") (hm : X.mg "range" = none) (ha : PA X [a] ta) (hs : autoParam (starEach [a] X.env = [(false, eval a X.env)]) _l.a0._auto_1) : PI X tg (.Call (.Name "range" p) [a] [] pos) (iRng1 ta):=by
 intro pins s σ H R I h
 refine Call_ (ld_blt I hg hm boot_range (PyProof.Rows.callWith_type1 (thn (ha pos pins s σ H _ I h) fun us s1 ⟨vs,H1,I1,r1,q1⟩=>?_) hs rfl))
 refine bc fun ζ=>?_
 obtain ⟨j,e,q1,q2,q⟩:=q1
 subst e
 apply ζ;clear ζ
 cases r1 with
 | cons r rr =>
  cases rr
  obtain ⟨t,rfl⟩:=r
  exact call_range_1 (range_it I1 (by lia) (by lia) q1 q2 (by simpa using q))
theorem pi_range2 {a b : Expr} {ta : TA} {p pos : Pos} (hg : Gl X "range") (hm : X.mg "range" = none) (ha : PA X [a, b] ta) (hs : autoParam (starEach [a, b] X.env = [(false, eval a X.env), (false, eval b X.env)]) _l.a0._auto_1) (hs2 : autoParam (starEach [b] X.env = [(false, eval b X.env)]) _l.a0._auto_1) :
  PI X tg (.Call (.Name "range" p) [a, b] [] pos) (iRng2 ta):=by
 intro pins s σ H R I h
 refine Call_ (ld_blt I hg hm boot_range (PyProof.Rows.callWith_type1 (thn (ha pos pins s σ H _ I h) fun us s1 ⟨vs,H1,I1,r1,q1⟩=>?_) (by rw [hs,hs2]) (by rw [hs2]; rfl)))
 refine bc fun ζ=>?_
 obtain ⟨i,j,e,⟨q1,q2,q3,q4⟩,q⟩:=q1
 subst e
 apply ζ;clear ζ
 cases r1 with
 | cons r rr =>
  cases rr with
  | cons r' rr =>
   cases rr
   refine bc fun ζ=>?_
   obtain ⟨t,rfl⟩:=r
   obtain ⟨t',rfl⟩:=r'
   exact ζ (call_range_2 (range_it I1 q1 q2 q3 q4 q))
noncomputable def tFor (wi : TI) (g : TG) (tb : TS) : TS:=fun D σ H=>wi σ H fun J H1=>∃ W : Nat→Nat→St→Hp→Prop,(∃ m,W 0 m σ H1)∧∀ i m σ H,W i m σ H →
 (J.stop i H∧D.nx σ H)∨(J.go i H∧∃ N : St→Hp→Prop,(∀ σ' H',N σ' H'→∃ m',m' < m∧W (i + 1) m' σ' H')∧∀ x H',J.yld i H x H'→g x σ H' fun σ2 H2=>tb { D with nx:=N,ct:=N,bk:=D.nx } σ2 H2)
noncomputable def pinsAt (fp : List Addr) (h : Heap) : List (Addr×Obj):=fp.filterMap fun b=>(h.get? b).map fun o=>(b,o)
theorem mem_pinsAt {fp : List Addr} {h : Heap} {b : Addr} {o : Obj} (hb : b∈fp) (e : h.get? b = some o) : (b,o)∈pinsAt fp h:=List.mem_filterMap.mpr ⟨b,hb,by rw [e]; rfl⟩
theorem of_pinsAt {fp : List Addr} {h : Heap} {p : Addr×Obj} (hp : p∈pinsAt fp h) : p.1∈fp∧h.get? p.1 = some p.2:=by
 refine bc fun ζ=>?_
 obtain ⟨b,hb,e⟩:=List.mem_filterMap.mp hp
 apply ζ;clear ζ
 cases q : h.get? b with
 | none=>rw [q] at e; cases e
 | some o =>
  rw [q] at e
  have e' : (b,o) = p:=Option.some.inj e
  subst e'
  exact ⟨hb,q⟩
theorem Inv.pinned {pins : List (Addr×Obj)} {σ : St} {H : Hp} {s : Shared} {fp : List Addr} (I : Inv X pins σ H s) (hf : ∀ b∈fp,FpOk X pins H b) (ho : ∀ b∈fp,∃ o,s.heap.get? b = some o∧∀ v,o.data≠.cell v) : Inv X (pins ++ pinsAt fp s.heap) σ H s :=
 I.pins_of fun p hp=>(List.mem_append.mp hp).elim (fun z=>I.pin p (List.mem_append_right _ z)) fun z=>by
  refine bc fun ζ=>?_
  obtain ⟨hb,e⟩:=of_pinsAt z
  obtain ⟨f0,f1,f2,_⟩:=hf p.1 hb
  obtain ⟨o,e',d⟩:=ho p.1 hb
  apply ζ;clear ζ
  rw [e] at e'; cases e'
  exact ⟨e,f0,f1,f2,d⟩
theorem Inv.unpinned {pins pl : List (Addr×Obj)} {σ : St} {H : Hp} {s : Shared} (I : Inv X (pins ++ pl) σ H s) : Inv X pins σ H s:=I.pins_of fun p hp=>I.pin p (List.mem_append_right _ (List.mem_append_left _ hp))
theorem ps_for {iter : Expr} {body : List Stmt} {wi : TI} {g : TG} {tb : TS} {pos : Pos} (hp : PassesOwn (model X.prog X.w) X.A X.env X.xe) (hc : X.calm = true) (hi : PI X tg iter wi) (hg : PG X tg g) (hb : PSs X body tb)
  (hs : autoParam (∀ x,foldedSetIterable iter X.env x = pure x) _l.a2._auto_1) : PS X (.For tg iter body [] pos) (tFor wi g tb):=by
 intro pins s σ H D I h
 refine wpAny_For (thn (hi pins s σ H _ I h) fun v s1 h1=>thn h1 fun itv s2 h2=>?_) hs
 refine bc fun ζ=>?_
 obtain ⟨it,fp,tn,J,H2,e,I2,T,st2,f2,W,⟨m0,w0⟩,turn⟩:=h2
 subst e
 apply ζ;clear ζ
 have stat : ∀ {H' : Hp},(∀ b∈fp,H' b = none)→∀ b∈fp,FpOk X pins H' b:=fun hn b hb=>⟨hn b hb,(f2 b hb).2⟩
 refine codeAny_forLoop_any (fun n s'=>∃ i σ' H',Inv X pins σ' H' s'∧tn i s'.heap∧(∀ b∈fp,H' b = none)∧W i n σ' H') ?_ m0 ⟨0,σ,H2,I2,st2,fun b hb=>(f2 b hb).1,w0⟩
 intro n s3 zP2
 refine bc fun ζ=>?_
 obtain ⟨i,σ3,H3,I3,st3,fr3,w3⟩:=zP2
 apply ζ;clear ζ
 rcases turn i n σ3 H3 w3 with ⟨stop,qn⟩ | ⟨go,N,hN,step⟩
 ·refine wpAny_passesOwn hp (thn (T.done X rfl rfl rfl hc i pins s3 σ3 H3 X.xe I3 (stat fr3) st3 stop) fun r s4 ⟨hr,I4⟩=>?_)
  subst hr
  exact wpAny_execs_nil ⟨σ3,H3,I4,qn⟩
 ·refine wpAny_passesOwn hp (thn (T.item X rfl rfl rfl hc i pins s3 σ3 H3 X.xe I3 (stat fr3) st3 go) fun r s4 ⟨u,hr,h4⟩=>?_)
  subst hr
  refine wpAny_passesOwn hp (thn h4 fun _ s5 ⟨x,H5,I5,r5,y5,st5,fr5⟩=>?_)
  have I5':=I5.pinned (stat fr5) (T.obj _ _ st5)
  refine wpAny_passesOwn hp (thn (hg _ s5 σ3 H5 x u _ I5' r5 (step x H5 y5)) fun _ s6 ⟨σ6,H6,I6,q6⟩=>?_)
  refine wpAny_passesOwn hp (thn (hb _ s6 σ6 H6 _ I6 q6) fun f s7 q7=>?_)
  have again : ∀ {σ7 : St} {H7 : Hp},Inv X (pins ++ pinsAt fp s5.heap) σ7 H7 s7→N σ7 H7→∃ m,m < n∧∃ i σ' H',Inv X pins σ' H' s7∧tn i s7.heap∧(∀ b∈fp,H' b = none)∧W i m σ' H':=fun {σ7 H7} I7 n7=>by
   refine bc fun ζ=>?_
   obtain ⟨m',hm,w7⟩:=hN σ7 H7 n7
   apply ζ;clear ζ
   refine ⟨m',hm,i + 1,σ7,H7,I7.unpinned,T.keep _ _ _ st5 fun b hb o e=>(I7.pin (b,o) (List.mem_append_right _ (List.mem_append_right _ (mem_pinsAt hb e)))).1,fun b hb=>?_,w7⟩
   refine bc fun ζ=>?_
   obtain ⟨o,e,d⟩:=T.obj _ _ st5 b hb
   exact ζ ((I7.pin (b,o) (List.mem_append_right _ (List.mem_append_right _ (mem_pinsAt hb e)))).2.1)
  cases f with
  | next=>obtain ⟨σ7,H7,I7,n7⟩:=q7; exact again I7 n7
  | cont=>obtain ⟨σ7,H7,I7,n7⟩:=q7; exact again I7 n7
  | brk=>obtain ⟨σ7,H7,I7,q7⟩:=q7; exact ⟨σ7,H7,I7.unpinned,q7⟩
  | ret v=>obtain ⟨x7,σ7,H7,I7,r7,q7⟩:=q7; exact ⟨x7,σ7,H7,I7.unpinned,r7,q7⟩
end
noncomputable abbrev R2:=V→V→Hp→VK→Prop
noncomputable def OpR (X : Cx) (f : Value→Value→Sem Value) (r : R2) : Prop :=
 ∀ (pins : List (Addr×Obj)) (s : Shared) (σ : St) (H : Hp) (x y : V) (v u : Value) (Q : VK),Inv X pins σ H s→RelV x v→RelV y u→r x y H Q →
  wpAny (model X.prog X.w) X.A (f v u) (EP X pins σ Q) X.xe s
noncomputable def UnR (X : Cx) (f : Value→Sem Value) (r : V→Hp→VK→Prop) : Prop :=
 ∀ (pins : List (Addr×Obj)) (s : Shared) (σ : St) (H : Hp) (x : V) (v : Value) (Q : VK),Inv X pins σ H s→RelV x v→r x H Q →
  wpAny (model X.prog X.w) X.A (f v) (EP X pins σ Q) X.xe s
noncomputable def CallR (X : Cx) (f : Value) (r : List V→Hp→VK→Prop) : Prop :=
 ∀ (pins : List (Addr×Obj)) (s : Shared) (σ : St) (H : Hp) (xs : List V) (us : List Value) (Q : VK),Inv X pins σ H s→Vals xs us→r xs H Q →
  wpAny (model X.prog X.w) X.A (call f us) (EP X pins σ Q) X.xe s
noncomputable def tOp (r : R2) (ta tb : TE) : TE:=fun σ H Q=>ta σ H fun x H1=>tb σ H1 fun y H2=>r x y H2 Q
noncomputable def tUn (r : V→Hp→VK→Prop) (ta : TE) : TE:=fun σ H Q=>ta σ H fun x H1=>r x H1 Q
noncomputable def rI (C : Int→Int→Prop) (g : Int→Int→V) : R2:=fun x y H Q=>∃ i j,x = .int i∧y = .int j∧C i j∧Q (g i j) H
noncomputable def rI0 (g : Int→Int→V) : R2:=fun x y H Q=>∃ i j,x = .int i∧y = .int j∧Q (g i j) H
noncomputable def rU (g : Int→V) : V→Hp→VK→Prop:=fun x H Q=>∃ i,x = .int i∧Q (g i) H
section
variable {X : Cx} {a b c : Expr} {ta tb tc : TE} {pos : Pos}
theorem binT (ha : PE X a ta) (hb : PE X b tb) {pins : List (Addr×Obj)} {s : Shared} {σ : St} {H : Hp} {R : V→V→Hp→Prop} (I : Inv X pins σ H s)
  (h : ta σ H fun x H1=>tb σ H1 fun y H2=>R x y H2) {Q : Value→Shared→Prop} {f : Value→Value→Sem Value}
  (hf : ∀ v u s2 x y H2,Inv X pins σ H2 s2→RelV x v→RelV y u→R x y H2→wpAny (model X.prog X.w) X.A (f v u) Q X.xe s2) :
  wpAny (model X.prog X.w) X.A (eval a X.env) (fun v s₁=>wpAny (model X.prog X.w) X.A (eval b X.env) (fun u s₂=>wpAny (model X.prog X.w) X.A (f v u) Q X.xe s₂) X.xe s₁) X.xe s:=by
 refine thn (ha pins s σ H _ I h) fun v s1 ⟨x,H1,I1,r1,q1⟩=>?_
 refine thn (hb pins s1 σ H1 _ I1 q1) fun u s2 ⟨y,H2,I2,r2,q2⟩=>?_
 exact hf v u s2 x y H2 I2 r1 r2 q2
theorem pe_op {op : Operator} {r : R2} (ho : OpR X (binaryOp op) r) (ha : PE X a ta) (hb : PE X b tb) : PE X (.BinOp a op b pos) (tOp r ta tb):=by
 intro pins s σ H Q I h
 exact wpAny_BinOp (binT ha hb I h fun v u s2 x y H2 I2 rx ry q=>ho pins s2 σ H2 x y v u Q I2 rx ry q)
theorem pe_un {op : UnaryOp} {r : V→Hp→VK→Prop} (ho : UnR X (unaryOp op) r) (ha : PE X a ta) : PE X (.UnaryOp op a pos) (tUn r ta):=by
 intro pins s σ H Q I h
 exact UnaryOp_ (thn (ha pins s σ H _ I h) fun v s1 ⟨x,H1,I1,r1,q1⟩=>ho pins s1 σ H1 x v Q I1 r1 q1)
theorem opI {f : Value→Value→Sem Value} {C : Int→Int→Prop} {g : Int→Int→Int}
  (rule : ∀ (i j : Int) (t u : Tok) (s : Shared) (Q : Value→Shared→Prop) (E : Value→Shared→Prop),C i j→Q (.int (g i j) s.toks) { s with toks:=s.toks + 1 }→wpAny (model X.prog X.w) X.A (f (.int i t) (.int j u)) Q E s) :
  OpR X f (rI C fun i j=>.int (g i j)):=by
 intro pins s σ H x y v u Q I rx ry h
 obtain ⟨i,j,rfl,rfl,hc,q⟩:=h
 obtain ⟨t,rfl⟩:=rx
 obtain ⟨t',rfl⟩:=ry
 exact rule i j t t' s _ _ hc ⟨.int (g i j),H,I.tok _,⟨_,rfl⟩,q⟩
theorem opI0 {f : Value→Value→Sem Value} {g : Int→Int→Int}
  (rule : ∀ (i j : Int) (t u : Tok) (s : Shared) (Q : Value→Shared→Prop) (E : Value→Shared→Prop),Q (.int (g i j) s.toks) { s with toks:=s.toks + 1 }→wpAny (model X.prog X.w) X.A (f (.int i t) (.int j u)) Q E s) :
  OpR X f (rI0 fun i j=>.int (g i j)):=by
 intro pins s σ H x y v u Q I rx ry h
 obtain ⟨i,j,rfl,rfl,q⟩:=h
 obtain ⟨t,rfl⟩:=rx
 obtain ⟨t',rfl⟩:=ry
 exact rule i j t t' s _ _ ⟨.int (g i j),H,I.tok _,⟨_,rfl⟩,q⟩
theorem opB0 {f : Value→Value→Sem Value} {g : Int→Int→Bool}
  (rule : ∀ (i j : Int) (t u : Tok) (s : Shared) (Q : Value→Shared→Prop) (E : Value→Shared→Prop),Q (.bool (g i j)) s→wpAny (model X.prog X.w) X.A (f (.int i t) (.int j u)) Q E s) :
  OpR X f (rI0 fun i j=>.bl (g i j)):=by
 intro pins s σ H x y v u Q I rx ry h
 obtain ⟨i,j,rfl,rfl,q⟩:=h
 obtain ⟨t,rfl⟩:=rx
 obtain ⟨t',rfl⟩:=ry
 exact rule i j t t' s _ _ ⟨.bl (g i j),H,I,rfl,q⟩
noncomputable def CPow (i j : Int) : Prop:=0≤j∧j≤1000000∧i.natAbs < 2 ^ 64
noncomputable def CMul (i j : Int) : Prop:=(-(2 ^ 64) < i∧i < 2 ^ 64)∨(-(2 ^ 64) < j∧j < 2 ^ 64)
theorem CMul.ok {i j : Int} (h : CMul i j) : IntMulOk i j:=by
 rcases h with ⟨h1,h2⟩ | ⟨h1,h2⟩
 ·exact .of_left (intBits_le_64 h1 h2)
 ·exact .of_right (intBits_le_64 h1 h2)
theorem op_add : OpR X (binaryOp .Add) (rI0 fun i j=>.int (i + j)):=opI0 fun _ _ _ _ _ _ _ q=>add_int q
theorem op_sub : OpR X (binaryOp .Sub) (rI0 fun i j=>.int (i - j)):=opI0 fun _ _ _ _ _ _ _ q=>sub_int q
theorem op_mul : OpR X (binaryOp .Mult) (rI CMul fun i j=>.int (i * j)):=opI fun _ _ _ _ _ _ _ hc q=>mul_int q hc.ok
theorem op_mod : OpR X (binaryOp .Mod) (rI (fun _ j=>0 < j) fun i j=>.int (i % j)):=opI fun i j _ _ _ _ _ hc q=>by
 have h1 : (0 : Int) < j:=hc
 exact mod_int' (by lia) (by rw [Int.fmod_eq_emod_of_nonneg i (by lia)]; exact q)
theorem op_pow : OpR X (binaryOp .Pow) (rI CPow fun i j=>.int (i ^ j.toNat)):=opI fun _ _ _ _ _ _ _ hc q=>pow_int_small hc.1 hc.2.1 hc.2.2 q
theorem unI {f : Value→Sem Value} {g : Int→Int}
  (rule : ∀ (i : Int) (t : Tok) (s : Shared) (Q : Value→Shared→Prop) (E : Value→Shared→Prop),Q (.int (g i) s.toks) { s with toks:=s.toks + 1 }→wpAny (model X.prog X.w) X.A (f (.int i t)) Q E s) :
  UnR X f (rU fun i=>.int (g i)):=by
 intro pins s σ H x v Q I rx h
 obtain ⟨i,rfl,q⟩:=h
 obtain ⟨t,rfl⟩:=rx
 exact rule i t s _ _ ⟨.int (g i),H,I.tok _,⟨_,rfl⟩,q⟩
theorem un_neg : UnR X (unaryOp .USub) (rU fun i=>.int (-i)):=unI fun _ _ _ _ _ q=>neg_int q
end
section
variable {X : Cx} {a b c : Expr} {ta tb tc : TE} {pos : Pos}
theorem op_lt : OpR X (compareOp .Lt) (rI0 fun i j=>.bl (decide (i < j))):=opB0 fun _ _ _ _ _ _ _ q=>lt_int q
theorem op_le : OpR X (compareOp .LtE) (rI0 fun i j=>.bl (decide (i≤j))):=opB0 fun _ _ _ _ _ _ _ q=>le_int q
theorem op_gt : OpR X (compareOp .Gt) (rI0 fun i j=>.bl (decide (j < i))):=opB0 fun _ _ _ _ _ _ _ q=>gt_int q
theorem op_ge : OpR X (compareOp .GtE) (rI0 fun i j=>.bl (decide (j≤i))):=opB0 fun _ _ _ _ _ _ _ q=>ge_int q
theorem OpR.or {f : Value→Value→Sem Value} {r r' : R2} (h : OpR X f r) (h' : OpR X f r') : OpR X f (fun x y H Q=>r x y H Q∨r' x y H Q):=by
 intro pins s σ H x y v u Q I rx ry q
 rcases q with q | q
 ·exact h pins s σ H x y v u Q I rx ry q
 ·exact h' pins s σ H x y v u Q I rx ry q
theorem nomark (b : Expr) {op : CmpOp} (h : autoParam (op≠.In) _l.a1._auto_1) (h2 : autoParam (op≠.NotIn) _l.a1._auto_1) : behindInMarks op b = false:=by
 have e1 : (op == CmpOp.In) = false:=by cases op <;> first | rfl | exact absurd rfl h
 have e2 : (op == CmpOp.NotIn) = false:=by cases op <;> first | rfl | exact absurd rfl h2
 cases b <;> simp [behindInMarks,e1,e2]
theorem pe_cmpR {op : CmpOp} {r : R2} (ho : OpR X (compareOp op) r) (ha : PE X a ta) (hb : PE X b tb) (hm : behindInMarks op b = false) : PE X (.Compare a [op] [b] pos) (tOp r ta tb):=by
 intro pins s σ H Q I h
 exact wpAny_Compare1 (binT ha hb I h fun v u s2 x y H2 I2 rx ry q=>ho pins s2 σ H2 x y v u Q I2 rx ry q) hm
noncomputable def tTest (t : TE) : TT:=fun σ H Q=>t σ H fun x H'=>∃ k,x = .bl k∧Q k H'
theorem pt_cmpR {op : CmpOp} {r : R2} (ho : OpR X (compareOp op) r) (ha : PE X a ta) (hb : PE X b tb) (hm : behindInMarks op b = false) : PT X (.Compare a [op] [b] pos) (tTest (tOp r ta tb)):=by
 intro pins s σ H Q I h
 refine wpAny_isTrue_Compare1 (thn (ha pins s σ H _ I h) fun v s1 ⟨x,H1,I1,r1,q1⟩=>thn (hb pins s1 σ H1 _ I1 q1) fun u s2 ⟨y,H2,I2,r2,q2⟩ =>
  thn (ho pins s2 σ H2 x y v u _ I2 r1 r2 q2) fun c s3 ⟨z,H3,I3,r3,k,e,q3⟩=>?_) hm
 subst e
 cases r3
 exact wpAny_truthy_bool ⟨H3,I3,q3⟩
noncomputable def tChain (r r' : R2) (ta tb tc : TE) : TE:=fun σ H Q=>ta σ H fun x H1=>tb σ H1 fun y H2=>r x y H2 fun z H3=>∃ k,z = .bl k ∧
 (if k = true then tc σ H3 fun w' H4=>r' y w' H4 Q else Q (.bl false) H3)
theorem pe_chain {op op' : CmpOp} {r r' : R2} (ho : OpR X (compareOp op) r) (ho' : OpR X (compareOp op') r') (ha : PE X a ta) (hb : PE X b tb) (hc : PE X c tc)
  (hm : autoParam (lastMarks [op,op'] [b,c] = false) _l.a7._auto_1) : PE X (.Compare a [op,op'] [b,c] pos) (tChain r r' ta tb tc):=by
 intro pins s σ H Q I h
 refine Compare_chain (thn (ha pins s σ H _ I h) fun v s1 ⟨x,H1,I1,r1,q1⟩=>chain_link (thn (hb pins s1 σ H1 _ I1 q1) fun u s2 ⟨y,H2,I2,r2,q2⟩ =>
  thn (ho pins s2 σ H2 x y v u _ I2 r1 r2 q2) fun d s3 ⟨z,H3,I3,r3,k,e,q3⟩=>?_)) hm
 subst e
 cases r3
 refine wpAny_truthy_bool ?_
 cases k with
 | false=>exact ite_ff ⟨.bl false,H3,I3,rfl,q3⟩
 | true=>exact ite_tt (chain_last (thn (hc pins s3 σ H3 _ I3 q3) fun w' s4 ⟨z',H4,I4,r4,q4⟩=>ho' pins s4 σ H4 y z' u w' Q I4 r2 r4 q4))
theorem line63 : (sizeLine : Nat) < 2 ^ 63:=by rw [sizeLine_eq]; decide
theorem vals1 {x : V} {us : List Value} (r : Vals [x] us) : ∃ u,us = [u]∧RelV x u:=by
 cases r with
 | cons r1 r2=>cases r2; exact ⟨_,rfl,r1⟩
theorem vals2 {x y : V} {us : List Value} (r : Vals [x,y] us) : ∃ u w',us = [u,w']∧RelV x u∧RelV y w':=by
 cases r with
 | cons r1 r2 =>
  cases r2 with
  | cons r3 r4=>cases r4; exact ⟨_,_,rfl,r1,r3⟩
theorem call_max2 (hc : X.calm = true) : CallR X (.builtin "max") (fun xs H Q=>∃ i j, xs = [.int i, .int j]∧Q (.int (if j > i then j else i)) H):=by
 intro pins s σ H xs us Q I r h
 obtain ⟨i,j,rfl,q⟩:=h
 obtain ⟨u,w',rfl,⟨t,rfl⟩,⟨t',rfl⟩⟩:=vals2 r
 refine max_two_ints (I.ok.hd hc) fun h' tk k=>⟨_,H,I.kept k,?_,q⟩
 by_cases hj : j > i
 ·rw [if_pos hj,if_pos hj]; exact ⟨_,rfl⟩
 ·rw [if_neg hj,if_neg hj]; exact ⟨_,rfl⟩
theorem call_min2 (hc : X.calm = true) : CallR X (.builtin "min") (fun xs H Q=>∃ i j, xs = [.int i, .int j]∧Q (.int (if j < i then j else i)) H):=by
 intro pins s σ H xs us Q I r h
 obtain ⟨i,j,rfl,q⟩:=h
 obtain ⟨u,w',rfl,⟨t,rfl⟩,⟨t',rfl⟩⟩:=vals2 r
 refine min_two_ints (I.ok.hd hc) fun h' tk k=>⟨_,H,I.kept k,?_,q⟩
 by_cases hj : j < i
 ·rw [if_pos hj,if_pos hj]; exact ⟨_,rfl⟩
 ·rw [if_neg hj,if_neg hj]; exact ⟨_,rfl⟩
theorem call_int1 : CallR X (.type "int") (fun xs H Q=>(∃ i, xs = [.int i]∧Q (.int i) H)∨∃ k, xs = [.bl k]∧Q (.int (if k then 1 else 0)) H):=by
 intro pins s σ H xs us Q I r h
 rcases h with ⟨i,rfl,q⟩ | ⟨k,rfl,q⟩
 ·obtain ⟨u,rfl,t,rfl⟩:=vals1 r
  exact call_int_int ⟨.int i,H,I,⟨_,rfl⟩,q⟩
 ·obtain ⟨u,rfl,r1⟩:=vals1 r
  cases r1
  exact call_int_bool ⟨.int (if k then 1 else 0),H,I.tok _,⟨_,rfl⟩,q⟩
end
structure ObjM (h : Heap) (x dx C : Addr) (mA : Str→Option Value) : Prop where
 obj : h.get? x = some (PySem.W.instObj C dx)
 ns : h.Ns1 dx mA
 ne : dx≠x
theorem lookIn_ns {h : Heap} {dx : Addr} {mA : Str→Option Value} (n : h.Ns1 dx mA) : ∃ od,h.get? dx = some od∧∀ name,PySem.W.lookIn name od = some (mA name):=by
 refine bc fun ζ=>?_
 obtain ⟨o,es,ep,ho,hd,hk,_,hm⟩:=n
 apply ζ;clear ζ
 refine ⟨o,ho,fun name=>?_⟩
 have e:=hm name
 unfold nsFind findBy at e
 rw [← Array.find?_toList] at e
 unfold PySem.W.lookIn
 rw [hd]
 dsimp only
 split
 ·rename_i y q
  rw [q] at e
  exact congrArg some e
 ·rename_i q
  rw [q] at e
  have a : es.toList.any (·.refKey) = false:=by
   rw [List.any_eq_false]
   intro y hy
   refine bc fun ζ=>?_
   obtain ⟨z,t,hkey⟩:=hk y (Array.mem_toList_iff.mp hy)
   apply ζ;clear ζ
   simp [DictEntry.refKey,hkey]
  have a' : ¬ es.toList.any (·.refKey) = true:=by rw [a]; exact Bool.false_ne_true
  rw [if_neg a']
  exact congrArg some e
theorem ObjM.look {h : Heap} {x dx C : Addr} {mA : Str→Option Value} (I : ObjM h x dx C mA) : ∃ od,PySem.W.InstAt h x (PySem.W.instObj C dx) C (some od)∧∀ name,PySem.W.lookIn name od = some (mA name) :=
 let ⟨od,ho,hl⟩:=lookIn_ns I.ns
 ⟨od,⟨I.obj,rfl,rfl,ho⟩,hl⟩
section
variable {prog : Program} {w : World} {A : Around} {E : Value→Shared→Prop} {s : Shared} {K : PySem.W.Frag} {x dx C f : Addr} {mA : Str→Option Value} {name : Str} {v : Value}
end
section
variable {P : Program} {w : World} {H H' : Hp} {h h' : Heap} {a C dx : Addr} {fs fs' : List (Str×V)}
theorem ins_get (hok : HOk P w H h) (e : H a = some (.ins C dx fs)) : ∃ mA,ObjM h a dx C mA∧(∀ f,RelO (fs.lookup f) (mA f))∧PySem.Within mA (fs.map (·.1))∧fs.length≤1000∧H dx = some (.own a):=by
 refine bc fun ζ=>?_
 obtain ⟨d,z,ne,ob,mA,n,r,q⟩:=(show ObjOk P w H h a (.ins C dx fs) from hok a _ e)
 exact ζ (⟨mA,⟨ob,n,ne⟩,r,q,z,d⟩)
end
structure Cls (K : PySem.W.Frag) (C : Addr) : Prop where
 pg : PySem.W.plainGet K C Str.empty = true
 hd : PySem.W.hasDictIn K C = true
 po : PySem.W.plainOver K C = true
 sa : PySem.W.findIn K (.ref C) "__setattr__" = some (some (.builtin "object.__setattr__"))
theorem Cls.get {K : PySem.W.Frag} {C : Addr} (c : Cls K C) (f : Str) : PySem.W.plainGet K C f = true:=c.pg
section
variable {X : Cx} {pins : List (Addr×Obj)} {σ : St} {H : Hp} {s : Shared} {a C dx : Addr} {fs : List (Str×V)} {f : Str} {v : V} {A : Around} {E : Value→Shared→Prop}
end
section
variable {X : Cx} {o e value : Expr} {f : Str} {pos pos' tpos : Pos} {ta tv : TE}
end
section
variable {X : Cx} {pins : List (Addr×Obj)} {σ : St} {H : Hp} {s : Shared} {A : Around} {E : Value→Shared→Prop} {Q : Value→Shared→Prop} {c : Value} {b : Bool}
inductive TyOf (K : PySem.W.Frag) (H : Hp) : V→Value→Prop where
 | non : TyOf K H .non (.type "NoneType")
 | bl (x : Bool) : TyOf K H (.bl x) (.type "bool")
 | int (i : Int) : TyOf K H (.int i) (.type "int")
 | str (x : Str) : TyOf K H (.str x) (.type "str")
 | flt (x : UInt64) : TyOf K H (.flt x) (.type "float")
 | lst {a : Addr} {xs : List V} (e : H a = some (.lst xs)) : TyOf K H (.ref a) (.type "list")
 | frz {a : Addr} {o : Obj} {xs : List V} (e : H a = some (.frz o (.lst xs))) : TyOf K H (.ref a) (.type "list")
 | tup {a : Addr} {xs : List V} (e : H a = some (.tup xs)) : TyOf K H (.ref a) (.type "tuple")
 | dK {a : Addr} {kvs : List (Key×V)} (e : H a = some (.dK kvs)) : TyOf K H (.ref a) (.type "dict")
 | dT {a : Addr} {kvs : List (List Key×V)} (e : H a = some (.dT kvs)) : TyOf K H (.ref a) (.type "dict")
 | ins {a C dx : Addr} {fs : List (Str×V)} (e : H a = some (.ins C dx fs)) (cl : Cls K C) (ha : PySem.W.findIn K (.ref C) "__class__" = some (some (.builtin "object.__class__")))
   (hn : PySem.W.specialIn K (.builtin "object.__class__") "__get__" = some (some (.builtin "getset_descriptor.__get__"))) (htk : PySem.W.takesIn K (.builtin "object.__class__") = some true)
   (hm : PySem.W.mroIn K C (.type "object") = some true) : TyOf K H (.ref a) (.ref C)
theorem isinst_ok {x : V} {u t : Value} (I : Inv X pins σ H s) (rx : RelV x u) (ty : TyOf X.K H x t) (e : PySem.W.kitOne X.K t c = some b) (h : ∀ tk,Q (.bool b) { s with toks:=tk }) :
  wpAny (model X.prog X.w) A (call (.builtin "isinstance") [u, c]) Q E s:=by
 cases ty with
 | non=>cases (show u = Value.none from rx); exact PySem.W.kia_one PySem.W.kitx_none I.kIn True.intro e (fun z=>nomatch z) h
 | bl y=>cases (show u = Value.bool y from rx); exact PySem.W.kia_one PySem.W.kitx_bool I.kIn True.intro e (fun z=>nomatch z) h
 | int i=>obtain ⟨t,q⟩:=(show ∃ t,u = Value.int i t from rx); cases q; exact PySem.W.kia_one PySem.W.kitx_int I.kIn True.intro e (fun z=>nomatch z) h
 | str y=>obtain ⟨t,q⟩:=(show ∃ t,u = Value.str y t from rx); cases q; exact PySem.W.kia_one PySem.W.kitx_str I.kIn True.intro e (fun z=>nomatch z) h
 | flt y=>obtain ⟨t,q⟩:=(show ∃ t,u = Value.float y t from rx); cases q; exact PySem.W.kia_one PySem.W.kitx_float I.kIn True.intro e (fun z=>nomatch z) h
 | @lst a xs ea =>
  cases (show u = Value.ref a from rx)
  refine bc fun ζ=>?_
  obtain ⟨_,_,n,_,h1⟩:=(show ObjOk X.prog X.w H s.heap a (.lst xs) from I.hok a _ ea)
  exact ζ (PySem.W.kia_one PySem.W.kitx_list I.kIn ⟨_,h1,rfl⟩ e (fun z=>nomatch z) h)
 | @frz a ob xs ea =>
  cases (show u = Value.ref a from rx)
  refine bc fun ζ=>?_
  obtain ⟨_,_,_,n,_,h1⟩:=(show ObjOk X.prog X.w H s.heap a (.frz ob (.lst xs)) from I.hok a _ ea)
  exact ζ (PySem.W.kia_one PySem.W.kitx_list I.kIn ⟨_,h1,rfl⟩ e (fun z=>nomatch z) h)
 | @tup a xs ea =>
  cases (show u = Value.ref a from rx)
  refine bc fun ζ=>?_
  obtain ⟨_,_,_,p⟩:=(show ObjOk X.prog X.w H s.heap a (.tup xs) from I.hok a _ ea)
  obtain ⟨o,h1,h2,_⟩:=p
  exact ζ (PySem.W.kia_one PySem.W.kitx_tuple I.kIn ⟨o,h1,h2⟩ e (fun z=>nomatch z) h)
 | @dK a kvs ea =>
  cases (show u = Value.ref a from rx)
  refine bc fun ζ=>?_
  obtain ⟨_,_,vs,_,p⟩:=(show ObjOk X.prog X.w H s.heap a (.dK kvs) from I.hok a _ ea)
  obtain ⟨o,es,ep,h1,h2,_⟩:=p
  exact ζ (PySem.W.kia_one PySem.W.kitx_dict I.kIn ⟨o,h1,h2.1⟩ e (fun z=>nomatch z) h)
 | @dT a kvs ea =>
  cases (show u = Value.ref a from rx)
  refine bc fun ζ=>?_
  obtain ⟨_,_,xs,_,o,es,ep,h1,h2,_⟩:=(show ObjOk X.prog X.w H s.heap a (.dT kvs) from I.hok a _ ea)
  exact ζ (PySem.W.kia_one PySem.W.kitx_dict I.kIn ⟨o,h1,h2.1⟩ e (fun z=>nomatch z) h)
 | @ins a C dx fs ea cl ha hn htk hm =>
  cases (show u = Value.ref a from rx)
  refine bc fun ζ=>?_
  obtain ⟨mA,O,_⟩:=ins_get I.hok ea
  obtain ⟨od,J,_⟩:=O.look
  exact ζ (PySem.W.kia_one (PySem.W.kitx_own (cl.get _) cl.hd ha hn htk hm) I.kIn J e (fun z=>nomatch z) h)
end
structure Room (k : Nat) (A : Around) : Prop where
 hd : A.handled = none
 dp : A.depth + 3 * k + 5 < recursionLimit
 un : A.units + 16 * k + 200 < cLine
theorem Room.mono {j k : Nat} {A : Around} (r : Room k A) (h : j≤k) : Room j A:=⟨r.hd,by have:=r.dp; lia,by have:=r.un; lia⟩
theorem Room.deeper {k : Nat} {A : Around} (r : Room (k + 1) A) (env : Env) : Room k (A.deeper env) :=
 ⟨r.hd,by have:=r.dp; show A.depth + 1 + 3 * k + 5 < _; lia,by have:=r.un; show A.units + 3 + 16 * k + 200 < _; lia⟩
theorem Room.depth {k : Nat} {A : Around} (r : Room k A) : A.depth < recursionLimit:=by have:=r.dp; lia
theorem Room.units {k : Nat} {A : Around} (r : Room k A) : A.units + 64 < cLine:=by have:=r.un; lia
noncomputable def tNil : TA:=fun _ H Q=>Q [] H
noncomputable def tCons (ta : TE) (tr : TA) : TA:=fun σ H Q=>ta σ H fun x H1=>tr σ H1 fun xs H2=>Q (x :: xs) H2
section
variable {X : Cx} {e : Expr} {es : List Expr} {te : TE} {t : TA} {pos : Pos}
theorem pa_nil : PA X [] tNil:=fun _ _ _ _ H Q I h=>Calls.spliced_nil ⟨[],H,I,.nil,h⟩
theorem pa_cons (ha : PE X e te) (hr : PA X es t) (hs : autoParam (starEach (e :: es) X.env = (false,eval e X.env) :: starEach es X.env) _l.a0._auto_1) : PA X (e :: es) (tCons te t):=by
 intro pos pins s σ H Q I h
 rw [hs]
 show wpAny _ _ (spliced ((false,eval e X.env) :: backTo pos (starEach es X.env))) _ _ s
 refine Calls.spliced_cons (thn (ha pins s σ H _ I h) fun u s1 ⟨x,H1,I1,r1,q1⟩=>?_)
 exact thn (hr pos pins s1 σ H1 _ I1 q1) fun us s2 ⟨xs,H2,I2,r2,q2⟩=>⟨x :: xs,H2,I2,.cons r1 r2,q2⟩
noncomputable def tTup (t : TA) : TE:=fun σ H Q=>t σ H fun xs H1=>xs.length≤sizeLine∧∀ p,H1 p = none→Q (.ref p) (upd H1 p (.tup xs))
noncomputable def tLst (t : TA) : TE:=fun σ H Q=>t σ H fun xs H1=>xs.length≤sizeLine∧∀ p,H1 p = none→Q (.ref p) (upd H1 p (.lst xs))
theorem pe_tup {x1} (h : PA X es t) : PE X (.Tuple es x1 pos) (tTup t):=by
 intro pins s σ H Q I hq
 refine wpAny_Tuple_spliced (thn (h pos pins s σ H _ I hq) fun us s1 ⟨xs,H1,I1,r,z,q⟩=>⟨by rw [← r.length]; exact z,?_⟩)
 have hf : H1 s1.heap.objs.size = none:=I1.hok.fresh (Nat.le_refl _)
 refine ⟨.ref s1.heap.objs.size,upd H1 s1.heap.objs.size (.tup xs),I1.laid (t':=s1.toks) (fun b u e=>Heap.get?_push_of_some _ e) (Nat.le_refl _) ?_,rfl,q _ hf⟩
 exact ⟨z,us,r,⟨_,Heap.get?_push_size _ rfl,rfl,_,rfl⟩⟩
theorem pe_lst (h : PA X es t) : PE X (.List es pos) (tLst t):=by
 intro pins s σ H Q I hq
 refine wpAny_List_spliced (thn (h pos pins s σ H _ I hq) fun us s1 ⟨xs,H1,I1,r,z,q⟩=>⟨by rw [← r.length]; exact z,?_⟩)
 have hf : H1 s1.heap.objs.size = none:=I1.hok.fresh (Nat.le_refl _)
 refine ⟨.ref s1.heap.objs.size,upd H1 s1.heap.objs.size (.lst xs),I1.laid (t':=s1.toks) (fun b u e=>Heap.get?_push_of_some _ e) (Nat.le_refl _) ?_,rfl,q _ hf⟩
 exact ⟨z,us,0,r,Heap.get?_push_size _ rfl⟩
end
noncomputable abbrev Sp:=List V→Hp→VK→XK→Prop
noncomputable abbrev CXT:=List Env→Hp→Shared→XK→Value→Shared→Prop
structure Env0 (P : Program) (w : World) (K : PySem.W.Frag) (mg : Str→Option Value) (base : Heap) (A : Around) (outer : List Env) (s : Shared) (H : Hp) : Prop where
 frames : A.frames = some outer
 mod : Mod K mg base
 bs : ∀ b o,base.get? b = some o→s.heap.get? b = some o∧H b = none
 bsz : base.objs.size≤s.heap.objs.size
 funs : s.heap.FunFrames base outer
 frf : ∀ b∈frs outer,H b = none
 hok : HOk P w H s.heap
 bare : AllBare s.gens
noncomputable def CE (outer : List Env) (P : Program) (w : World) (H : Hp) (s : Shared) (Q : VK) (u : Value) (s' : Shared) : Prop :=
 ∃ v H',s'.os = s.os∧AllBare s'.gens∧Un (frs outer) [] H H' s.heap s'.heap∧HOk P w H' s'.heap∧RelV v u∧Q v H'
noncomputable def CR (CX : CXT) (outer : List Env) (P : Program) (w : World) (H : Hp) (s : Shared) (Q : VK) (E : XK) (r : Result) (s' : Shared) : Prop :=
 match r with
 | .ok (.ret u)=>CE outer P w H s Q u s'
 | .ok _=>False
 | .error e=>CX outer H s E e s'
structure FnOk (P : Program) (w : World) (K : PySem.W.Frag) (mg : Str→Option Value) (base : Heap) (CX : CXT) (k : Nat) (f : Addr) (fd : FuncData) (ps : List Str) (sp : Sp) : Prop where
 len : ∀ vs H Q E,sp vs H Q E→vs.length = ps.length
 run : ∀ (A : Around) (outer : List Env) (s : Shared) (H : Hp) (args : Args) (us : List Value) (vs : List V) (Q : VK) (E : XK),Room k A→Env0 P w K mg base A outer s H→BindsTo s fd args (ps.zip us)→Vals vs us→sp vs H Q E →
  codeAny (model P w) A (.call (.ref f) args) (CR CX outer P w H s Q E) s
section
variable {X : Cx} {pins : List (Addr×Obj)} {σ : St} {H : Hp} {s s' : Shared}
theorem Inv.env0 (I : Inv X pins σ H s) : Env0 X.prog X.w X.K X.mg X.base X.A X.stack s H :=
 ⟨I.ok.frames,I.ok.mod,I.bs,Nat.le_trans I.ok.bsz I.sz,I.stack,I.stkFree,I.hok,I.bare⟩
theorem Inv.after {Q : VK} {u : Value} (I : Inv X pins σ H s) (h : CE X.stack X.prog X.w H s Q u s') : EP X pins σ Q u s':=by
 obtain ⟨v,H',os,bare,un,hok,r,q⟩:=h
 obtain ⟨hh,g,d,t,os'⟩:=s'
 obtain rfl : os' = s.os:=os
 exact ⟨v,H',I.call (h':=hh) (g':=g) (d':=d) (t':=t) (ch:=[]) un hok bare (fun b z=>absurd z (by simp)),r,q⟩
end
noncomputable def tCall (sp : Sp) (dvs : List V) (E : XK) (t : TA) : TE:=fun σ H Q=>t σ H fun vs H1=>sp (vs ++ dvs) H1 Q E
noncomputable def Binds (K : PySem.W.Frag) (fd : FuncData) (ps : List Str) (ds : List Value) : Prop :=
 ∀ (s : Shared) (us : List Value),K.In s.heap→(us ++ ds).length = ps.length→BindsTo s fd ⟨us,[]⟩ (ps.zip (us ++ ds))
theorem Binds.all {K : PySem.W.Frag} {fd : FuncData} {ps : List Str} (h : ∀ us : List Value,us.length = ps.length→bindArgs fd ⟨us,[]⟩ = pure (ps.zip us)) : Binds K fd ps []:=fun s us _ hl=>by
 rw [List.append_nil] at hl ⊢
 exact .of_eq (h us hl)
noncomputable def Passes (CX : CXT) (X : Cx) (E : XK) : Prop:=∀ (pins : List (Addr×Obj)) (σ : St) (H : Hp) (s : Shared) (e : Value) (s' : Shared),Inv X pins σ H s→CX X.stack H s E e s'→X.xe e s'
section
variable {X : Cx} {CX : CXT} {k : Nat} {f C : Addr} {fd : FuncData} {ps : List Str} {sp : Sp} {dvs : List V} {ds : List Value} {E : XK} {x m : Str} {p pos apos : Pos} {e o : Expr} {es : List Expr} {ta : TE} {t : TA}
theorem run_fn {pins : List (Addr×Obj)} {σ : St} {H : Hp} {s : Shared} {Q : VK} {us : List Value} {vs : List V} (F : FnOk X.prog X.w X.K X.mg X.base CX k f fd ps sp) (hr : Room k X.A) (hb : Binds X.K fd ps ds) (hd : Vals dvs ds) (hx : Passes CX X E)
  (I : Inv X pins σ H s) (r : Vals vs us) (h : sp (vs ++ dvs) H Q E) : wpAny (model X.prog X.w) X.A (call (.ref f) us) (EP X pins σ Q) X.xe s:=by
 have r2 : Vals (vs ++ dvs) (us ++ ds):=r.append hd
 have hl : (us ++ ds).length = ps.length:=by rw [← r2.length]; exact F.len _ _ _ _ h
 refine wpAny_call (codeAny_mono (F.run X.A X.stack s H ⟨us,[]⟩ (us ++ ds) (vs ++ dvs) Q E hr I.env0 (hb s us I.kIn hl) r2 h) fun r s' hq=>?_)
 cases r with
 | error e=>exact hx pins σ H s e s' I hq
 | ok fl =>
  cases fl with
  | ret u=>exact I.after hq
  | next=>exact False.elim hq
  | brk=>exact False.elim hq
  | cont=>exact False.elim hq
theorem pe_call (F : FnOk X.prog X.w X.K X.mg X.base CX k f fd ps sp) (hr : Room k X.A) (hg : Gl X x) (hm : X.mg x = some (.ref f)) (hk : PySem.W.keepIn X.K (.ref f) = true) (hb : Binds X.K fd ps ds) (hd : Vals dvs ds) (hx : Passes CX X E)
  (ha : PA X (e :: es) t) (hdb : autoParam ((x == ("__debug__" : Str)) = false) _l.a1._auto_1) (he : autoParam (starEach (e :: es) X.env = (false, eval e X.env) :: starEach es X.env) _l.a0._auto_1) (hpl : autoParam ((backTo pos (starEach es X.env)).any (·.1) = false) _l.a0._auto_1) :
  PE X (.Call (.Name x p) (e :: es) [] pos) (tCall sp dvs E t):=by
 intro pins s σ H Q I h
 refine wpAny_Call_Name_kw (ld_glob I hg hm ?_ hdb)
 refine PySem.W.callWith_K (h₀:=X.base) I.ok.mod.kin hk (thn (ha pos pins s σ H _ I h) fun us s1 ⟨vs,H1,I1,r,q⟩=>⟨I1.kIn,?_⟩) he hpl
 exact run_fn F hr hb hd hx I1 r q
end
section
variable {X : Cx} {CX : CXT} {k : Nat} {f C : Addr} {fd : FuncData} {ps ks : List Str} {sp : Sp} {E : XK} {x m : Str} {p pos apos kpos : Pos} {e o : Expr} {es : List Expr} {kws : List Keyword} {te ta : TE} {t tk : TA} {nm : Option Str}
variable {g : List Value→List Value→List Value} {gV : List V→List V→List V}
end
structure FnScope (N P : List Str) (sc : Scope) : Prop where
 kind : sc.kind = .function
 co : sc.isCoroutine = false
 gen : sc.isGenerator = false
 nd : N.Nodup
 pre : N.take P.length = P
 par : ∀ x∈P,sc.names.lookup x = some .local∨sc.names.lookup x = some .cell
 nofree : ∀ y∈sc.names,y.2≠.free
theorem bindL_out {kindOf : Str→Option NameKind} {x : Str} : ∀ {binds : List (Str×Value)} {m : Str→Option Value},(∀ v,(x,v) ∉ binds)→bindL kindOf binds m x = m x
 | [],_,_=>rfl
 | (n,v) :: r,m,h=>by
  unfold bindL
  rw [bindL_out fun w hw=>h w (List.mem_cons_of_mem _ hw)]
  split
  ·have : x≠n:=by rintro rfl; exact h v List.mem_cons_self
   simp [this]
  ·rfl
theorem bindC_out {kindOf : Str→Option NameKind} {x : Str} : ∀ {binds : List (Str×Value)} {m : Str→Option Value},(∀ v,(x,v) ∉ binds)→bindC kindOf binds m x = m x
 | [],_,_=>rfl
 | (n,v) :: r,m,h=>by
  unfold bindC
  rw [bindC_out fun w hw=>h w (List.mem_cons_of_mem _ hw)]
  split
  ·rfl
  ·have : x≠n:=by rintro rfl; exact h v List.mem_cons_self
   simp [this]
theorem bindL_get {kindOf : Str→Option NameKind} {x : Str} {v : Value} : ∀ {P : List Str} {vs : List Value} {i : Nat} {m : Str→Option Value},P.Nodup→P[i]? = some x→vs[i]? = some v→kindOf x = some .local →
  bindL kindOf (P.zip vs) m x = some v
 | [],_,_,_,_,h,_,_=>by simp at h
 | _ :: _,[],_,_,_,_,h,_=>by simp at h
 | p :: P,w :: vs,0,m,nd,h1,h2,hk=>by
  simp at h1 h2; subst h1; subst h2
  show bindL kindOf ((p,w) :: P.zip vs) m p = _
  unfold bindL
  rw [bindL_out fun v hv=>(List.nodup_cons.mp nd).1 (List.of_mem_zip hv).1,if_pos hk]
  simp
 | p :: P,w :: vs,i + 1,m,nd,h1,h2,hk=>by
  show bindL kindOf ((p,w) :: P.zip vs) m x = _
  unfold bindL
  exact bindL_get (i:=i) (List.nodup_cons.mp nd).2 (by simpa using h1) (by simpa using h2) hk
theorem bindC_get {kindOf : Str→Option NameKind} {x : Str} {v : Value} : ∀ {P : List Str} {vs : List Value} {i : Nat} {m : Str→Option Value},P.Nodup→P[i]? = some x→vs[i]? = some v→kindOf x≠some .local →
  bindC kindOf (P.zip vs) m x = some v
 | [],_,_,_,_,h,_,_=>by simp at h
 | _ :: _,[],_,_,_,_,h,_=>by simp at h
 | p :: P,w :: vs,0,m,nd,h1,h2,hk=>by
  simp at h1 h2; subst h1; subst h2
  show bindC kindOf ((p,w) :: P.zip vs) m p = _
  unfold bindC
  rw [bindC_out fun v hv=>(List.nodup_cons.mp nd).1 (List.of_mem_zip hv).1,if_neg hk]
  simp
 | p :: P,w :: vs,i + 1,m,nd,h1,h2,hk=>by
  show bindC kindOf ((p,w) :: P.zip vs) m x = _
  unfold bindC
  exact bindC_get (i:=i) (List.nodup_cons.mp nd).2 (by simpa using h1) (by simpa using h2) hk
noncomputable def start (N : List Str) (vs : List V) : St:=vs.map some ++ List.replicate (N.length - vs.length) none
noncomputable def cxOf (CX : CXT) (P : Program) (w : World) (K : PySem.W.Frag) (mg : Str→Option Value) (base : Heap) (N : List Str) (qual : Str) (scope : Scope) (f : Addr) (cd : Value) (A : Around) (outer : List Env) (s : Shared) (H : Hp) (E : XK) : Cx where
 prog:=P
 w:=w
 K:=K
 mg:=mg
 base:=base
 A:=A.deeper (envOfC qual scope s.heap.objs.size f cd)
 N:=N
 s₀:=s
 H₀:=H
 env:=envOfC qual scope s.heap.objs.size f cd
 outer:=outer
 stack:=envOfC qual scope s.heap.objs.size f cd :: outer
 ex:=[]
 calm:=true
 fn:=fun _=>true
 pn:=[]
 xe:=fun e s'=>wpAny (model P w) (A.deeper (envOfC qual scope s.heap.objs.size f cd)) (leaving (envOfC qual scope s.heap.objs.size f cd) e) (fun _ s''=>CX outer H s E e s'') (fun e' s''=>CX outer H s E e' s'') s'
theorem cell_has {sc : Scope} {n : Nat} {x : Str} (h : sc.names.lookup x = some .cell) : ∃ c,(cellsFrom n sc.names []).lookup x = some c:=by
 have q:=PySem.W.cellsFrom_some sc.names n [] (.inl h)
 exact Option.isSome_iff_exists.mp q
theorem inv_start {CX : CXT} {P : Program} {w : World} {K : PySem.W.Frag} {mg : Str→Option Value} {base : Heap} {N ps : List Str} {qual : Str} {scope : Scope} {f : Addr} {cd : Value} {A : Around} {outer : List Env} {s s1 : Shared} {H : Hp} {E : XK} {us : List Value} {vs : List V}
  (S : FnScope N ps scope) (hd : A.handled = none) (e0 : Env0 P w K mg base A outer s H) (hl : vs.length = ps.length) (r : Vals vs us)
  (x : InCallC s s.heap.objs.size (bindL (envOfC qual scope s.heap.objs.size f cd).kindOf (ps.zip us) fun _=>none) (cellsFrom (s.heap.objs.size + 1) scope.names []) (bindC (envOfC qual scope s.heap.objs.size f cd).kindOf (ps.zip us) fun _=>none) s1) :
  Inv (cxOf CX P w K mg base N qual scope f cd A outer s H E) [] (start N vs) H s1:=by
 have hpl : ps.length≤N.length:=by have:=congrArg List.length S.pre; rw [List.length_take] at this; lia
 obtain ⟨h1,tk,rfl,hk⟩:=x.done
 have noA : ∀ b : Addr,b ∉ (cxOf CX P w K mg base N qual scope f cd A outer s H E).ex:=fun b z=>absurd (show b∈([] : List Addr) from z) (by simp)
 refine ⟨⟨e0.mod,S.kind,rfl,rfl,Nat.le_refl _,fun y z c h1 h2=>?_,fun y hy=>?_,fun y c _ h=>?_,fun _=>hd,Around.frames_deeper e0.frames,.inr ⟨rfl,rfl⟩,fun b z=>absurd z (noA b),e0.bs,e0.bsz,fun b _ _=>noA b,fun b z=>absurd z (noA b),e0.funs,e0.frf⟩,
  rfl,e0.bare,Un.kept hk,⟨_,x.toInCall.ns,fun i y v h1 h2 h3=>?_⟩,fun y c h=>⟨_,x.cell y c h⟩,e0.hok.fresh (Nat.le_refl _),fun y c h=>?_,fun p hp=>absurd (show p∈([] : List (Addr×Obj)) from hp) (by simp),e0.hok.kept hk,?_⟩
 ·exact name_of_addr x.apart (PySem.mem_of_lookup h1) (PySem.mem_of_lookup h2)
 ·have hy : scope.names.lookup y = some .cell∨scope.names.lookup y = some .free:=hy
  rcases hy with hy | hy
  ·exact cell_has hy
  ·exact absurd rfl (S.nofree _ (PySem.mem_of_lookup hy))
 ·exact Nat.le_of_lt (x.above y c (PySem.mem_of_lookup h))
 ·have hi : i < vs.length:=by
   unfold start at h2
   by_cases hi : i < vs.length
   ·exact hi
   ·rw [List.getElem?_append_right (by simpa using hi)] at h2
    rw [List.getElem?_replicate] at h2
    split at h2 <;> cases h2
  have ha : vs[i]? = some v:=by
   unfold start at h2
   rw [List.getElem?_append_left (by simpa using hi),List.getElem?_map] at h2
   cases e : vs[i]? with
   | none=>rw [e] at h2; cases h2
   | some a=>rw [e] at h2; cases h2; rfl
  obtain ⟨u,hu,rv⟩:=r.get ha
  have hp : ps[i]? = some y:=by
   rw [← S.pre,List.getElem?_take_of_lt (by lia)]; exact h1
  have ndP : ps.Nodup:=by rw [← S.pre]; exact S.nd.sublist (List.take_sublist _ _)
  refine ⟨u,rv,?_⟩
  rcases S.par y (List.mem_of_getElem? hp) with k | k
  ·exact .inl ⟨k,bindL_get ndP hp hu k⟩
  ·obtain ⟨c,e⟩:=cell_has (n:=s.heap.objs.size + 1) k
   refine .inr ⟨.inl k,c,e,?_⟩
   have q:=x.cell y c e
   rw [bindC_get ndP hp hu (by show scope.names.lookup y≠_; rw [k]; decide)] at q
   exact q
 ·exact e0.hok.fresh (Nat.le_of_lt (x.above y c (PySem.mem_of_lookup h)))
 ·unfold start
  show _ = N.length
  rw [List.length_append,List.length_map,List.length_replicate]
  lia
theorem fn_of {CX : CXT} {P : Program} {w : World} {K : PySem.W.Frag} {mg : Str→Option Value} {base : Heap} {k : Nat} {f : Addr} {name qual : Str} {params : Arguments} {body : List Stmt} {scope : Scope} {dV kV doc pm cdv ct oc : Value} {an od : Option Addr}
  {osl : Array (Option Value)} {N ps : List Str} {sp : Sp} (lk : K.lookup f = some ⟨oc,od,.func (PySem.W.fnOf name qual params body scope dV kV doc pm an cdv ct),osl⟩) (hcd : PySem.W.codeIn K cdv qual = true) (S : FnScope N ps scope)
  (len : ∀ vs H Q E,sp vs H Q E→vs.length = ps.length)
  (hbody : ∀ (A : Around) (outer : List Env) (s : Shared) (H : Hp) (vs : List V) (Q : VK) (E : XK),Room k (A.deeper (envOfC qual scope s.heap.objs.size f cdv))→sp vs H Q E →
   ∃ t,PSs (cxOf CX P w K mg base N qual scope f cdv A outer s H E) body t∧t { nx:=fun _ H'=>Q .non H',rt:=Q } (start N vs) H) :
  FnOk P w K mg base CX (k + 1) f (PySem.W.fnOf name qual params body scope dV kV doc pm an cdv ct) ps sp:=by
 refine ⟨len,fun A outer s H args us vs Q E hr e0 hb r hsp=>?_⟩
 have hl:=len _ _ _ _ hsp
 have KX : K.In s.heap:=e0.mod.kin.keeps fun b o e=>(e0.bs b o e).1
 have lim : s.heap.NoLimit:=e0.mod.nolimit.keeps fun b o e=>(e0.bs b o e).1
 have hkind : ∀ y∈ps.zip us,scope.names.lookup y.1 = some .local∨(scope.names.lookup y.1 = some .cell∧((cellsFrom (s.heap.objs.size + 1) scope.names []).lookup y.1).isSome = true):=fun ⟨n,v⟩ hy=>by
  rcases S.par n (List.of_mem_zip hy).1 with q | q
  ·exact .inl q
  ·exact .inr ⟨q,PySem.W.cellsFrom_some _ _ _ (.inl q)⟩
 refine codeAny_call_function hr.depth (KX _ _ lk) rfl S.co S.gen rfl (PySem.W.codeRec_of KX hcd) (hb _ _ _ _ ?_)
 refine wpAny_newFunctionEnv_cells S.kind hkind fun env he s1 x=>?_
 subst he
 refine ⟨lim.keeps x.toInCall.keep,codeAny_func ?_⟩
 refine bc fun ζ=>?_
 obtain ⟨t,ht,hq⟩:=hbody A outer s H vs Q E (hr.deeper _) hsp
 apply ζ;clear ζ
 have I : Inv (cxOf CX P w K mg base N qual scope f cdv A outer s H E) [] (start N vs) H s1:=inv_start S hr.hd e0 hl r x
 refine wpAny_mono (ht [] s1 (start N vs) H _ I hq) (fun fl s' hs=>?_) fun e s' hs=>hs
 have fin : ∀ {σ' : St} {H' : Hp} {v : V} {u : Value},Inv (cxOf CX P w K mg base N qual scope f cdv A outer s H E) [] σ' H' s'→RelV v u→Q v H'→CE outer P w H s Q u s' :=
  fun {σ' H' v u} J rv q=>⟨v,H',J.os,J.bare,J.base,J.hok,rv,q⟩
 cases fl with
 | ret u =>
  refine bc fun ζ=>?_
  obtain ⟨v,σ',H',J,rv,q⟩:=hs
  exact ζ (fin J rv q)
 | next =>
  refine bc fun ζ=>?_
  obtain ⟨σ',H',J,q⟩:=hs
  exact ζ (fin (v:=V.non) (u:=Value.none) J rfl q)
 | brk =>
  refine bc fun ζ=>?_
  obtain ⟨_,_,_,q⟩:=hs
  exact ζ (False.elim q)
 | cont =>
  refine bc fun ζ=>?_
  obtain ⟨_,_,_,q⟩:=hs
  exact ζ (False.elim q)
section
variable {X : Cx} {x : Str} {p pos : Pos} {e : Expr} {es : List Expr} {t : TA} {id T : String} {r : List V→Hp→VK→Prop}
noncomputable def tCB (r : List V→Hp→VK→Prop) (t : TA) : TE:=fun σ H Q=>t σ H fun vs H1=>r vs H1 Q
theorem pe_callB (hc : CallR X (.builtin id) r) (hg : Gl X x) (hm : X.mg x = none) (hv : bootBuiltins x = some (.builtin id)) (ha : PA X (e :: es) t) (hn : autoParam (x≠"__name__") _l.a1._auto_1) (hdb : autoParam ((x == ("__debug__" : Str)) = false) _l.a1._auto_1)
  (he : autoParam (starEach (e :: es) X.env = (false,eval e X.env) :: starEach es X.env) _l.a0._auto_1) (hpl : autoParam ((backTo pos (starEach es X.env)).any (·.1) = false) _l.a0._auto_1) : PE X (.Call (.Name x p) (e :: es) [] pos) (tCB r t):=by
 intro pins s σ H Q I h
 refine wpAny_Call_Name_kw (ld_blt I hg hm hv ?_ hn hdb)
 exact PyProof.Rows.callWith_builtin1 (thn (ha pos pins s σ H _ I h) fun us s1 ⟨vs,H1,I1,r1,q1⟩=>hc pins s1 σ H1 vs us Q I1 r1 q1) he hpl
theorem pe_callTy (hc : CallR X (.type T) r) (hg : Gl X x) (hm : X.mg x = none) (hv : bootBuiltins x = some (.type T)) (ha : PA X (e :: es) t) (hn : autoParam (x≠"__name__") _l.a1._auto_1) (hdb : autoParam ((x == ("__debug__" : Str)) = false) _l.a1._auto_1)
  (he : autoParam (starEach (e :: es) X.env = (false,eval e X.env) :: starEach es X.env) _l.a0._auto_1) (hpl : autoParam ((backTo pos (starEach es X.env)).any (·.1) = false) _l.a0._auto_1) : PE X (.Call (.Name x p) (e :: es) [] pos) (tCB r t):=by
 intro pins s σ H Q I h
 refine wpAny_Call_Name_kw (ld_blt I hg hm hv ?_ hn hdb)
 exact PyProof.Rows.callWith_type1 (thn (ha pos pins s σ H _ I h) fun us s1 ⟨vs,H1,I1,r1,q1⟩=>hc pins s1 σ H1 vs us Q I1 r1 q1) he hpl
end
end _l
namespace _h
open PySem PyProof.Rows
section
open PySem.SeqAt
open PySem.AutoSeq1 (wpAny_loadPart')
open PySem.MeetsSeq PySem.MeetsSeq2 PySem.MeetsSeq3
end
section
variable {prog : Program} {w : World} {A : Around} {E : Value→Shared→Prop} {s : Shared}
noncomputable def sIx (n d : Nat) : Option Int→Nat
 | none=>d
 | some v=>if v < 0 then (v + (n : Int)).toNat else min v.toNat n
theorem sIx_le (n d : Nat) (hd : d≤n) (o : Option Int) : sIx n d o≤n:=by
 cases o with
 | none=>exact hd
 | some v =>
  show (if v < 0 then (v + (n : Int)).toNat else min v.toNat n)≤n
  by_cases hv : v < 0
  ·rw [if_pos hv]; lia
  ·rw [if_neg hv]; exact Nat.min_le_right _ _
theorem clip_eq (v : Int) (n d : Nat) : (if v < 0 then max (v + (n : Int)) 0 else min v (n : Int)) = ((sIx n d (some v) : Nat) : Int):=by
 show (if v < 0 then max (v + (n : Int)) 0 else min v (n : Int)) = (((if v < 0 then (v + (n : Int)).toNat else min v.toNat n) : Nat) : Int)
 by_cases hv : v < 0
 ·simp only [if_pos hv]; lia
 ·simp only [if_neg hv]; lia
theorem adjust_gen (lo hi : Option Int) (n : Nat) : Builtin.Slice.sliceAdjust lo hi 1 (n : Int) = (((sIx n 0 lo : Nat) : Int),((sIx n n hi : Nat) : Int)):=by
 have h1 : ¬ ((1 : Int) < 0):=by lia
 unfold Builtin.Slice.sliceAdjust
 simp only [h1,if_false]
 refine Prod.ext ?_ ?_
 ·cases lo with
  | none=>rfl
  | some v=>exact clip_eq v n 0
 ·cases hi with
  | none=>rfl
  | some v=>exact clip_eq v n n
theorem places_gen (i j : Nat) : Builtin.Slice.slicePlaces (i : Int) (j : Int) 1 = j - i:=by
 unfold Builtin.Slice.slicePlaces
 have h1 : (1 : Int) > 0:=by lia
 simp only [h1,if_true,Int.ediv_one]
 split <;> lia
theorem slicePart_ {v : Value} {o : Option Int} {Q : Option Int→Shared→Prop} (p : IsPart v o) (h : Q o s) : wpAny (model prog w) A (Builtin.Slice.slicePartIndex v) Q E s:=by
 cases p with
 | none=>exact slicePart_none h
 | int i t=>exact slicePart_int h
theorem sliceApplied_gen {sl : Addr} {vl vu : Value} {lo hi : Option Int} {n : Nat} {Q : Int×Int×Nat→Shared→Prop} (hs : s.heap.IsSliceOf sl vl vu .none) (pl : IsPart vl lo) (pu : IsPart vu hi)
  (h : Q (((sIx n 0 lo : Nat) : Int),1,sIx n n hi - sIx n 0 lo) s) : wpAny (model prog w) A (Builtin.Slice.sliceApplied (.ref sl) (pure (n : Int))) Q E s:=by
 obtain ⟨os,hos,hcs,hds⟩:=id hs
 unfold Builtin.Slice.sliceApplied Builtin.Slice.sliceFields
 refine wpAny_bind (wpAny_bind (wpAny_field hos hds (x:=vl) rfl (wpAny_bind (wpAny_field hos hds (x:=vu) rfl (wpAny_bind (wpAny_field hos hds (x:=.none) rfl (wpAny_pure ?_)))))))
 refine wpAny_bind (slicePart_none ?_)
 show wpAny _ _ (if ((1 : Int) == 0) = true then _ else _) _ _ s
 rw [if_neg (by decide)]
 refine wpAny_bind (slicePart_ pl (wpAny_bind (slicePart_ pu (wpAny_bind (wpAny_pure ?_)))))
 show wpAny _ _ (match Builtin.Slice.sliceAdjust lo hi 1 (n : Int) with | (lo,hi)=>pure (lo,(1 : Int),Builtin.Slice.slicePlaces lo hi 1)) _ _ s
 rw [adjust_gen lo hi n]
 show wpAny _ _ (pure (((sIx n 0 lo : Nat) : Int),(1 : Int),Builtin.Slice.slicePlaces ((sIx n 0 lo : Nat) : Int) ((sIx n n hi : Nat) : Int) 1)) _ _ s
 rw [places_gen]
 exact wpAny_pure h
theorem pick_gen (xs : Array Value) (i k : Nat) : ((List.range k).filterMap fun (m : Nat)=>xs[((i : Int) + (m : Int) * 1).toNat]?).toArray = ((xs.toList.drop i).take k).toArray:=by
 have e : (fun (m : Nat)=>xs[((i : Int) + (m : Int) * 1).toNat]?) = fun m=>xs[i + m]?:=by
  funext m
  have : ((i : Int) + (m : Int) * 1).toNat = i + m:=by lia
  rw [this]
 rw [e]
 have:=pick_run xs i k
 rw [List.filterMap_map] at this
 have e2 : ((fun x=>xs[x]?) ∘ fun x=>i + x) = fun m=>xs[i + m]?:=rfl
 rw [e2] at this
 rw [this]
theorem getItem_tuple_cut {t sl : Addr} {items : Array Value} {vl vu : Value} {lo hi : Option Int} {Q : Value→Shared→Prop} (ht : IsTup s.heap t items) (hs : s.heap.IsSliceOf sl vl vu .none) (pl : IsPart vl lo) (pu : IsPart vu hi)
  (hw : ¬ (sIx items.size 0 lo = 0∧sIx items.size items.size hi = items.size))
  (h : Q (.ref s.heap.objs.size) { s with heap:=s.heap.push { cls:=.type "tuple", data:=.seq ((items.toList.drop (sIx items.size 0 lo)).take (sIx items.size items.size hi - sIx items.size 0 lo)).toArray } })
  (hsz : items.size≤sizeLine) : wpAny (model prog w) A (getItem (.ref t) (.ref sl)) Q E s:=by
 have htake : sizeOk (.seq ((items.toList.drop (sIx items.size 0 lo)).take (sIx items.size items.size hi - sIx items.size 0 lo)).toArray):=by
  show ((items.toList.drop (sIx items.size 0 lo)).take (sIx items.size items.size hi - sIx items.size 0 lo)).toArray.size≤sizeLine
  rw [List.size_toArray,List.length_take,List.length_drop,Array.length_toList]
  omega
 have hj : sIx items.size items.size hi≤items.size:=sIx_le _ _ (Nat.le_refl _) hi
 obtain ⟨os,hos,hcs,hds⟩:=id hs
 have hTs : s.TypeIs (.ref sl) "slice":=⟨os, hos, hcs⟩
 unfold getItem
 try with_reducible refine wpAny_holding ?_
 first | refine wpAny_bind (wpAny_pure ?_) | skip
 refine wpAny_bind (wpAny_sequenceKey ht.typeIs (by decide) ?_)
 refine wpAny_bind (wpAny_callSpecial?_slot (name:=Str.ofString "__getitem__") ht.typeIs PyProof.Rows.slot_tuple_getitem
  (wpAny_call_entry PyProof.Rows.slot_tuple_getitem ht.typeIs entry_tuple_getitem ?_ (args_tuple_getitem _ _)))
 show wpAny _ _ (Builtin.Tuple.tupleItemsOf (.ref t) >>= _) _ _ s
 refine wpAny_bind (tupleItemsOf_ ht ?_)
 refine wpAny_bind (wpAny_typeOf hTs ?_)
 rw [if_pos (by decide)]
 refine wpAny_bind (sliceApplied_gen hs pl pu ?_)
 have hno : ¬ ((((sIx items.size 0 lo : Nat) : Int) == 0 && (1 : Int) == 1 && (sIx items.size items.size hi - sIx items.size 0 lo) == items.size) = true):=by
  intro q
  rw [Bool.and_eq_true,Bool.and_eq_true] at q
  have q1 : ((sIx items.size 0 lo : Nat) : Int) = 0:=eq_of_beq q.1.1
  have q2 : sIx items.size items.size hi - sIx items.size 0 lo = items.size:=eq_of_beq q.2
  exact hw ⟨by omega,by omega⟩
 show wpAny _ _ (if (((sIx items.size 0 lo : Nat) : Int) == 0 && (1 : Int) == 1 && (sIx items.size items.size hi - sIx items.size 0 lo) == items.size) = true then _ else _) _ _ s
 rw [if_neg hno,pick_gen]
 first
  | exact wpAny_bind (m:=Builtin.Tuple.tupleExact _) (wpAny_newObj_type (wpAny_pure ⟨_,rfl,wpAny_pure h⟩) htake)
  | exact wpAny_bind (m:=Builtin.Tuple.tupleExact _) (wpAny_newObj_type (wpAny_bind (wpAny_pure (wpAny_pure ⟨_,rfl,wpAny_pure h⟩))) htake)
  | exact wpAny_bind (wpAny_bind (m:=Builtin.Tuple.tupleExact _) (wpAny_newObj_type (wpAny_pure (wpAny_pure ⟨_,rfl,wpAny_pure h⟩)) htake))
  | exact wpAny_bind (wpAny_bind (m:=Builtin.Tuple.tupleExact _) (wpAny_newObj_type (wpAny_pure ⟨_,rfl,wpAny_pure h⟩) htake))
end
end _h
namespace _l
open PySem PySem.Spec PyProof.Rows
noncomputable abbrev TO:=St→Hp→(Option Int→Hp→Prop)→Prop
noncomputable def PO (X : Cx) (e : Option Expr) (t : TO) : Prop :=
 ∀ (pins : List (Addr×Obj)) (s : Shared) (σ : St) (H : Hp) (Q : Option Int→Hp→Prop),Inv X pins σ H s→t σ H Q →
  wpAny (model X.prog X.w) X.A (evalPart e X.env) (fun u s'=>∃ o H',Inv X pins σ H' s'∧IsPart u o∧Q o H') X.xe s
noncomputable def tNoPart : TO:=fun _ H Q=>Q none H
noncomputable def tPart (t : TE) : TO:=fun σ H Q=>t σ H fun x H1=>∃ i,x = .int i∧Q (some i) H1
section
variable {X : Cx} {e : Expr} {te : TE} {lo hi : Option Expr} {tl th : TO} {pos p2 : Pos}
theorem po_none : PO X none tNoPart:=by
 intro pins s σ H Q I h
 rw [evalPart_none]
 exact wpAny_pure ⟨none,H,I,.none,h⟩
theorem po_some (h : PE X e te) : PO X (some e) (tPart te):=by
 intro pins s σ H Q I hw
 rw [evalPart_some]
 refine thn (h pins s σ H _ I hw) fun u s1 ⟨x,H1,I1,r1,q1⟩=>?_
 obtain ⟨i,rfl,q⟩:=q1
 obtain ⟨t,rfl⟩:=r1
 exact ⟨some i,H1,I1,.int i t,q⟩
noncomputable def SlR (X : Cx) (r : V→Option Int→Option Int→Hp→VK→Prop) : Prop :=
 ∀ (pins : List (Addr×Obj)) (s : Shared) (σ : St) (H : Hp) (x : V) (v vl vu : Value) (lo hi : Option Int) (sl : Addr) (Q : VK),Inv X pins σ H s→RelV x v→s.heap.IsSliceOf sl vl vu .none→IsPart vl lo→IsPart vu hi→r x lo hi H Q →
  ∃ T id, typeLookup (.type T) "__getitem__" = pure (some (.builtin id))∧s.TypeIs v T∧wpAny (model X.prog X.w) X.A (getItem v (.ref sl)) (EP X pins σ Q) X.xe s
noncomputable def tSl (r : V→Option Int→Option Int→Hp→VK→Prop) (te : TE) (tl th : TO) : TE:=fun σ H Q=>te σ H fun x H1=>tl σ H1 fun l H2=>th σ H2 fun u H3=>r x l u H3 Q
theorem pe_slice {r : V→Option Int→Option Int→Hp→VK→Prop} (hr : SlR X r) (he : PE X e te) (hl : PO X lo tl) (hu : PO X hi th) : PE X (.Subscript e (.Slice lo hi none p2) pos) (tSl r te tl th):=by
 intro pins s σ H Q I h
 refine Subscript_ (thn (he pins s σ H _ I h) fun v s1 ⟨x,H1,I1,r1,q1⟩=>?_)
 refine wpAny_Slice (thn (hl pins s1 σ H1 _ I1 q1) fun vl s2 ⟨l,H2,I2,pl,q2⟩=>thn (hu pins s2 σ H2 _ I2 q2) fun vu s3 ⟨u,H3,I3,pu,q3⟩=>?_)
 rw [evalPart_none]
 refine wpAny_pure ?_
 have I4 : Inv X pins σ H3 { s3 with heap:=s3.heap.push { cls:=.type "slice", data:=.fields #[vl, vu, .none] } }:=I3.kept (t':=s3.toks) fun b ob q=>Heap.get?_push_of_some _ q
 refine bc fun ζ=>?_
 obtain ⟨T, id, hT, ht, hg⟩:=hr pins { s3 with heap:=s3.heap.push { cls:=.type "slice", data:=.fields #[vl, vu, .none] } } σ H3 x v vl vu l u s3.heap.objs.size Q I4 r1 (Heap.IsSliceOf.new ..) pl pu q3
 apply ζ;clear ζ
 show wpAny (model X.prog X.w) X.A (subscriptTail e (.Slice lo hi none p2) v (.ref s3.heap.objs.size)) (EP X pins σ Q) X.xe { s3 with heap:=s3.heap.push { cls:=.type "slice", data:=.fields #[vl, vu, .none] } }
 exact tail_any (ops:=[.ref s3.heap.objs.size,v]) ht hT hg (by with_unfolding_all rfl)
noncomputable def cutV (xs : List V) (lo hi : Option Int) : List V:=(xs.drop (_h.sIx xs.length 0 lo)).take (_h.sIx xs.length xs.length hi - _h.sIx xs.length 0 lo)
theorem cutV_length (xs : List V) (lo hi : Option Int) : (cutV xs lo hi).length≤xs.length:=by
 unfold cutV
 rw [List.length_take,List.length_drop]
 lia
noncomputable def rSlT (K : PySem.W.Frag) : V→Option Int→Option Int→Hp→VK→Prop:=fun x lo hi H Q=>∃ a xs,x = .ref a∧SqT K H a xs ∧
 ¬ (_h.sIx xs.length 0 lo = 0∧_h.sIx xs.length xs.length hi = xs.length)∧∀ p,H p = none→Q (.ref p) (upd H p (.tup (cutV xs lo hi)))
theorem sl_tup : SlR X (rSlT X.K):=by
 intro pins s σ H x v vl vu lo hi sl Q I rx hs pl pu h
 refine bc fun ζ=>?_
 obtain ⟨a,xs,rfl,hx,hw,q⟩:=h
 cases rx
 obtain ⟨its,r,ht,hz⟩:=I.tuple hx
 apply ζ;clear ζ
 have hlen : its.toArray.size = xs.length:=by rw [List.size_toArray]; exact r.length.symm
 refine ⟨"tuple", _, PyProof.Rows.slot_tuple_getitem.lookup, ht.typeIs, ?_⟩
 refine _h.getItem_tuple_cut ht hs pl pu (by rw [hlen]; exact hw) ?_ (by rw [hlen]; exact hz)
 rw [hlen]
 refine ⟨.ref s.heap.objs.size,_,I.laid (t':=s.toks) (o:=.tup (cutV xs lo hi)) (fun b ob q=>Heap.get?_push_of_some _ q) (Nat.le_refl _) ?_,rfl,q _ (I.hok.fresh (Nat.le_refl _))⟩
 exact ⟨Nat.le_trans (cutV_length xs lo hi) hz,_,(r.drop (_h.sIx xs.length 0 lo)).take (_h.sIx xs.length xs.length hi - _h.sIx xs.length 0 lo),IsTup.new _ _⟩
end
noncomputable def ixN (n : Nat) (i : Int) : Option Nat:=if 0≤i then (if i < n then some i.toNat else none) else if -(n : Int)≤i then some (i + n).toNat else none
noncomputable def atI {α : Type} (xs : List α) (i : Int) : Option α:=(ixN xs.length i).bind fun j=>xs[j]?
theorem ixN_seq {n : Nat} {i : Int} {j : Nat} (h : ixN n i = some j) : seqIndex? i n = some j∧j < n∧-(n : Int)≤i∧i < n:=by
 unfold ixN at h
 by_cases h0 : 0≤i
 ·rw [if_pos h0] at h
  by_cases h1 : i < n
  ·rw [if_pos h1] at h
   have e : i.toNat = j:=Option.some.inj h
   exact ⟨by rw [seqIndex_of h0 h1,e],by lia,by lia,h1⟩
  ·rw [if_neg h1] at h; cases h
 ·rw [if_neg h0] at h
  by_cases h1 : -(n : Int)≤i
  ·rw [if_pos h1] at h
   have e : (i + n).toNat = j:=Option.some.inj h
   exact ⟨by rw [seqIndex_neg (by lia) h1,e],by lia,h1,by lia⟩
  ·rw [if_neg h1] at h; cases h
theorem atI_get {α : Type} {xs : List α} {i : Int} {v : α} (h : atI xs i = some v) : ∃ j,seqIndex? i xs.length = some j∧xs[j]? = some v∧j < xs.length∧-(xs.length : Int)≤i∧i < xs.length:=by
 unfold atI at h
 cases e : ixN xs.length i with
 | none=>rw [e] at h; cases h
 | some j =>
  rw [e] at h
  obtain ⟨h1,h2,h3,h4⟩:=ixN_seq e
  exact ⟨j,h1,h,h2,h3,h4⟩
noncomputable def PlainIx (b : Expr) : Prop:=∀ o i,subscripted b false o i = operate [o,i] (getItem o i)
noncomputable def IxR (X : Cx) (r : R2) : Prop :=
 ∀ (value slice : Expr) (pins : List (Addr×Obj)) (s : Shared) (σ : St) (H : Hp) (x y : V) (v u : Value) (Q : VK),Inv X pins σ H s→RelV x v→RelV y u→r x y H Q →
  subscripted slice false v u = operate [v,u] (getItem v u)→wpAny (model X.prog X.w) X.A (subscriptTail value slice v u) (EP X pins σ Q) X.xe s
noncomputable def MtR (X : Cx) (id : String) (r : V→List V→Hp→VK→Prop) : Prop :=
 ∀ (pins : List (Addr×Obj)) (s : Shared) (σ : St) (H : Hp) (x : V) (xs : List V) (v : Value) (us : List Value) (Q : VK),Inv X pins σ H s→RelV x v→Vals xs us→r x xs H Q →
  wpAny (model X.prog X.w) X.A (call (.builtin id) (v :: us)) (EP X pins σ Q) X.xe s
section
variable {X : Cx} {a b : Expr} {ta tb : TE} {pos : Pos}
theorem IxR.or {r r' : R2} (h : IxR X r) (h' : IxR X r') : IxR X (fun x y H Q=>r x y H Q∨r' x y H Q):=by
 intro value slice pins s σ H x y v u Q I rx ry q hs
 rcases q with q | q
 ·exact h value slice pins s σ H x y v u Q I rx ry q hs
 ·exact h' value slice pins s σ H x y v u Q I rx ry q hs
theorem pe_ix {r : R2} (hr : IxR X r) (ha : PE X a ta) (hb : PE X b tb) (hs : PlainIx b) : PE X (.Subscript a b pos) (tOp r ta tb):=by
 intro pins s σ H Q I h
 exact Subscript_ (binT ha hb I h fun v u s2 x y H2 I2 rx ry q=>hr a b pins s2 σ H2 x y v u Q I2 rx ry q (hs _ _))
noncomputable def rIxL (K : PySem.W.Frag) : R2:=fun x y H Q=>∃ p xs i v,x = .ref p∧y = .int i∧SqL K H p xs∧atI xs i = some v∧Q v H
noncomputable def rIxT (K : PySem.W.Frag) : R2:=fun x y H Q=>∃ p xs i v,x = .ref p∧y = .int i∧SqT K H p xs∧atI xs i = some v∧Q v H
theorem ix_list : IxR X (rIxL X.K):=by
 intro value slice pins s σ H x y v u Q I rx ry h hs
 refine bc fun ζ=>?_
 obtain ⟨p,xs,i,z,rfl,rfl,hq,he,q⟩:=h
 cases rx
 obtain ⟨t,rfl⟩:=ry
 obtain ⟨its,r,pl,hz⟩:=I.list hq
 obtain ⟨j,h1,h2,h3,h4,h5⟩:=atI_get he
 obtain ⟨w,ew,rw'⟩:=r.get h2
 apply ζ;clear ζ
 have hl:=r.length
 have hn:=line63
 have fin : EP X pins σ Q w s:=⟨z,H,I,rw',q⟩
 by_cases h0 : 0≤i
 ·have hj : i.toNat = j:=by
   rw [seqIndex_of h0 h5] at h1
   exact Option.some.inj h1
  exact item_listR pl.isList h0 (by lia) (by rw [hj]; simpa using ew) fin hs
 ·have hj : (i + (its.toArray.size : Int)).toNat = j:=by
   rw [seqIndex_neg (by lia) h4] at h1
   rw [List.size_toArray,← hl]
   exact Option.some.inj h1
  exact subscriptTail_builtinR (x:=w) pl.isList.typeIs slot_list_getitem.lookup
   (wpAny_getItem_list_neg (Q:=fun r s'=>r = w∧EP X pins σ Q r s') pl.isList (by lia) (by rw [List.size_toArray] <;> lia) (by lia) (by rw [hj]; simpa using ew) ⟨rfl,fin⟩) hs
theorem ix_tup : IxR X (rIxT X.K):=by
 intro value slice pins s σ H x y v u Q I rx ry h hs
 refine bc fun ζ=>?_
 obtain ⟨p,xs,i,z,rfl,rfl,hq,he,q⟩:=h
 cases rx
 obtain ⟨t,rfl⟩:=ry
 obtain ⟨its,r,pl,hz⟩:=I.tuple hq
 obtain ⟨j,h1,h2,h3,h4,h5⟩:=atI_get he
 obtain ⟨w,ew,rw'⟩:=r.get h2
 apply ζ;clear ζ
 have hl:=r.length
 have hn:=line63
 have fin : EP X pins σ Q w s:=⟨z,H,I,rw',q⟩
 exact subscriptTail_builtinR (x:=w) pl.typeIs slot_tuple_getitem.lookup
  (getItem_tuple (j:=j) (Q:=fun r s'=>r = w∧EP X pins σ Q r s') pl (by lia) (by lia) (by rw [List.size_toArray,← hl]; exact h1) (by simpa using ew) ⟨rfl,fin⟩) hs
theorem mapSeq_set (its : List Value) (n j : Nat) (u : Value) : Obj.mapSeq (·.setIfInBounds j u) { cls:=.type "list", data:=.seq its.toArray n } = { cls:=.type "list", data:=.seq (its.set j u).toArray n }:=by
 simp [Obj.mapSeq]
theorem Inv.lst {pins : List (Addr×Obj)} {σ : St} {H : Hp} {s : Shared} {p : Addr} {xs : List V} (I : Inv X pins σ H s) (h : H p = some (.lst xs)) :
  ∃ (its : List Value) (n : Nat), Vals xs its∧s.heap.get? p = some { cls:=.type "list", data:=.seq its.toArray n }∧xs.length≤sizeLine:=by
 obtain ⟨z,its,n,r,e⟩:=I.hok p _ h
 exact ⟨its,n,r,e,z⟩
theorem Inv.lstUpd {pins : List (Addr×Obj)} {σ : St} {H : Hp} {s : Shared} {p : Addr} {xs ys : List V} {its its' : List Value} {n n' : Nat} {f : Obj→Obj} (I : Inv X pins σ H s) (h : H p = some (.lst xs))
  (ho : s.heap.get? p = some { cls:=.type "list", data:=.seq its.toArray n }) (hf : f { cls:=.type "list", data:=.seq its.toArray n } = { cls:=.type "list", data:=.seq its'.toArray n' }) (r : Vals ys its') (hz : ys.length≤sizeLine) (t : Nat) :
  Inv X pins σ (upd H p (.lst ys)) { s with heap:=s.heap.update p f,toks:=t }:=by
 have e : (s.heap.update p f).get? p = some { cls:=.type "list", data:=.seq its'.toArray n' }:=by
  rw [Heap.get?_update_self f ho (by rw [hf] <;> rfl),hf]
 refine I.write (x:=p) (e:=p) (by rw [h]; trivial) (.inl rfl) (fun b u hb q=>(Heap.get?_update_other _ _ (Ne.symm hb)).trans q) ⟨_,e⟩ ?_
 exact ⟨hz,its',n',r,e⟩
noncomputable def rSetL : V→V→V→Hp→(Hp→Prop)→Prop:=fun o i v H Q=>∃ p xs k j,o = .ref p∧i = .int k∧H p = some (.lst xs)∧ixN xs.length k = some j∧Q (upd H p (.lst (xs.set j v)))
theorem set_list : PSet X rSetL:=by
 intro pins s σ H o i v ov iv u Q I ro ri rv h
 refine bc fun ζ=>?_
 obtain ⟨p,xs,k,j,rfl,rfl,hp,hj,q⟩:=h
 cases ro
 obtain ⟨t,rfl⟩:=ri
 obtain ⟨its,n,r,ho,hz⟩:=I.lst hp
 obtain ⟨h1,h2,h3,h4⟩:=ixN_seq hj
 apply ζ;clear ζ
 have hl:=r.length
 have hn:=line63
 have I' : Inv X pins σ (upd H p (.lst (xs.set j v))) { s with heap:=s.heap.update p (Obj.mapSeq (·.setIfInBounds j u)) } :=
  I.lstUpd hp ho (mapSeq_set its n j u) (r.set rv j) (by rw [List.length_set]; exact hz) s.toks
 by_cases h0 : 0≤k
 ·have hk : k.toNat = j:=by
   rw [seqIndex_of h0 h4] at h1
   exact Option.some.inj h1
  exact PySem.W.ki_setAt ho h0 (by lia) (by rw [List.size_toArray,← hl]; exact h4) (by rw [hk]; exact ⟨_,I',q⟩)
 ·have hk : (k + (its.toArray.size : Int)).toNat = j:=by
   rw [seqIndex_neg (by lia) h3] at h1
   rw [List.size_toArray,← hl]
   exact Option.some.inj h1
  exact PySem.W.ki_setBack ho (by lia) (by rw [List.size_toArray,← hl]; exact h3) (by lia) (by rw [hk]; exact ⟨_,I',q⟩)
theorem slice_bounds (lo hi : Option Int) (n : Nat) : (sliceBounds lo hi none n).1 = ((_h.sIx n 0 lo : Nat) : Int)∧(sliceBounds lo hi none n).2.1 = ((_h.sIx n n hi : Nat) : Int)∧(sliceBounds lo hi none n).2.2 = 1:=by
 refine ⟨?_,?_,rfl⟩
 ·cases lo with
  | none=>simp [sliceBounds,_h.sIx]
  | some i =>
   simp only [sliceBounds,_h.sIx,Option.getD_none,show (1 : Int) > 0 by decide,if_true]
   by_cases h : i < 0
   ·simp only [h,if_true] <;> lia
   ·simp only [h,if_false] <;> lia
 ·cases hi with
  | none=>simp [sliceBounds,_h.sIx]
  | some i =>
   simp only [sliceBounds,_h.sIx,Option.getD_none,show (1 : Int) > 0 by decide,if_true]
   by_cases h : i < 0
   ·simp only [h,if_true] <;> lia
   ·simp only [h,if_false] <;> lia
theorem slicePick_cut (its : List Value) (lo hi : Option Int) : slicePick its.toArray lo hi none = ((its.drop (_h.sIx its.length 0 lo)).take (_h.sIx its.length its.length hi - _h.sIx its.length 0 lo)).toArray:=by
 refine bc fun ζ=>?_
 obtain ⟨h1,h2,h3⟩:=slice_bounds lo hi its.toArray.size
 apply ζ;clear ζ
 unfold slicePick
 rw [h1,h2,h3]
 simp only [sliceRange_one,pick_run,List.size_toArray] <;> rfl
noncomputable def rSlL (K : PySem.W.Frag) : V→Option Int→Option Int→Hp→VK→Prop:=fun x lo hi H Q=>∃ a xs,x = .ref a∧SqL K H a xs∧∀ p,H p = none→Q (.ref p) (upd H p (.lst (cutV xs lo hi)))
theorem sl_list : SlR X (rSlL X.K):=by
 intro pins s σ H x v vl vu lo hi sl Q I rx hs pl pu h
 refine bc fun ζ=>?_
 obtain ⟨a,xs,rfl,hx,q⟩:=h
 cases rx
 obtain ⟨its,r,ht,hz⟩:=I.list hx
 apply ζ;clear ζ
 have hlen:=r.length
 refine ⟨"list", _, slot_list_getitem.lookup, ht.isList.typeIs, ?_⟩
 refine wpAny_getItem_list_slice ht.isList hs pl pu .none (by simp) ?_ (by rw [List.size_toArray] <;> lia)
 rw [slicePick_cut,← hlen]
 refine ⟨.ref s.heap.objs.size,_,I.laid (t':=s.toks) (o:=.lst (cutV xs lo hi)) (fun b ob q=>Heap.get?_push_of_some _ q) (Nat.le_refl _) ?_,rfl,q _ (I.hok.fresh (Nat.le_refl _))⟩
 exact ⟨Nat.le_trans (cutV_length xs lo hi) hz,_,0,(r.drop (_h.sIx xs.length 0 lo)).take (_h.sIx xs.length xs.length hi - _h.sIx xs.length 0 lo),Heap.get?_push_size _ rfl⟩
theorem call_len_seq : CallR X (.builtin "len") (fun xs H Q=>∃ p ys, xs = [.ref p]∧(SqL X.K H p ys∨SqT X.K H p ys)∧Q (.int ys.length) H):=by
 intro pins s σ H xs us Q I r h
 refine bc fun ζ=>?_
 obtain ⟨p,ys,rfl,hq,q⟩:=h
 obtain ⟨u,rfl,rx⟩:=vals1 r
 cases rx
 apply ζ;clear ζ
 have hn:=line63
 rcases hq with hq | hq
 ·refine bc fun ζ=>?_
  obtain ⟨its,r',pl,hz⟩:=I.list hq
  apply ζ;clear ζ
  have hlen:=r'.length
  exact Calls.call_len_list pl.isList (by simp only [List.size_toArray] <;> lia) ⟨.int ys.length,H,I.tok _,⟨s.toks + 1,by rw [List.size_toArray,hlen]⟩,q⟩
 ·refine bc fun ζ=>?_
  obtain ⟨its,r',pl,hz⟩:=I.tuple hq
  apply ζ;clear ζ
  have hlen:=r'.length
  exact len_tuple pl (by simp only [List.size_toArray] <;> lia) ⟨.int ys.length,H,I.tok _,⟨s.toks + 1,by rw [List.size_toArray,hlen]⟩,q⟩
theorem call_list_of : CallR X (.type "list") (fun xs H Q=>∃ p ys, xs = [.ref p]∧(SqL X.K H p ys∨SqT X.K H p ys)∧∀ l, H l = none→Q (.ref l) (upd H l (.lst ys))):=by
 intro pins s σ H xs us Q I r h
 refine bc fun ζ=>?_
 obtain ⟨p,ys,rfl,hq,q⟩:=h
 obtain ⟨u,rfl,rx⟩:=vals1 r
 cases rx
 apply ζ;clear ζ
 have fin : ∀ (its : List Value),Vals ys its→ys.length≤sizeLine→∀ (h' : Heap) (c' : Nat),(∀ b o',s.heap.get? b = some o'→h'.get? b = some o') →
   h'.get? s.heap.objs.size = some { cls:=.type "list", dict:=none, data:=.seq its.toArray c', slots:=#[] }→EP X pins σ Q (.ref s.heap.objs.size) { s with heap:=h' }:=fun its r' hz h' c' kp e =>
  ⟨.ref s.heap.objs.size,_,I.laid (t':=s.toks) kp (Nat.le_refl _) (show ObjOk X.prog X.w _ h' _ (.lst ys) from ⟨hz,its,c',r',e⟩),rfl,q _ (I.hok.fresh (Nat.le_refl _))⟩
 rcases hq with hq | hq
 ·refine bc fun ζ=>?_
  obtain ⟨its,r',pl,hz⟩:=I.list hq
  have hlen:=r'.length
  obtain ⟨o,ho,hc,n,hd⟩:=pl.isList
  apply ζ;clear ζ
  exact call_list_seq p (.inl rfl) ho hc hd (fun h' c' kp e=>fin its r' hz h' c' kp e) (by simp only [List.size_toArray] <;> lia)
 ·refine bc fun ζ=>?_
  obtain ⟨its,r',pl,hz⟩:=I.tuple hq
  have hlen:=r'.length
  obtain ⟨o,ho,hc,n,hd⟩:=pl
  apply ζ;clear ζ
  exact call_list_seq p (.inr rfl) ho hc hd (fun h' c' kp e=>fin its r' hz h' c' kp e) (by simp only [List.size_toArray] <;> lia)
noncomputable def tyV (K : PySem.W.Frag) (T : String) (x : V) (H : Hp) : Prop:=match x with
 | .str _=>T = "str"
 | .int _=>T = "int"
 | .ref p=>(T = "list"∧∃ xs, SqL K H p xs)∨(T = "tuple"∧∃ o, K.lookup p = some o∧o.cls = .type "tuple"∧o.dict = none) ∨
   (T = "dict"∧((∃ kvs, H p = some (.dK kvs))∨∃ kvs, H p = some (.dT kvs)))∨(T = "set"∧∃ S n, H p = some (.set S n))
 | _=>False
theorem tyV_is {pins : List (Addr×Obj)} {σ : St} {H : Hp} {s : Shared} {T : String} {x : V} {v : Value} (I : Inv X pins σ H s) (r : RelV x v) (ty : tyV X.K T x H) :
  s.TypeIs v T∧∀ a,v = .ref a→∃ ob,s.heap.get? a = some ob∧ob.dict = none:=by
 cases x with
 | str z =>
  obtain ⟨t,rfl⟩:=r
  cases (show T = "str" from ty)
  exact ⟨typeIs_str s z t,fun _ e=>nomatch e⟩
 | int i =>
  obtain ⟨t,rfl⟩:=r
  cases (show T = "int" from ty)
  exact ⟨typeIs_int s i t,fun _ e=>nomatch e⟩
 | ref p =>
  cases r
  rcases ty with ⟨rfl,xs,hq⟩ | ⟨rfl,o,hk,hc,hd⟩ | ⟨rfl,hk⟩ | ⟨rfl,S,n,hk⟩
  ·refine bc fun ζ=>?_
   obtain ⟨its,_,pl,_⟩:=I.list hq
   apply ζ;clear ζ
   refine ⟨pl.isList.typeIs,fun a e=>?_⟩
   cases e
   refine bc fun ζ=>?_
   obtain ⟨o,n,e,c,hd,_⟩:=pl
   exact ζ (⟨o,e,hd⟩)
  ·refine ⟨⟨o,I.kIn p o hk,hc⟩,fun a e=>?_⟩
   cases e
   exact ⟨o,I.kIn _ o hk,hd⟩
  ·have z : ∃ o,s.heap.get? p = some o∧o.ExactDict:=by
    rcases hk with ⟨kvs,hk⟩ | ⟨kvs,hk⟩
    ·refine bc fun ζ=>?_
     obtain ⟨_,_,_,_,o,_,_,e,ex,_⟩:=I.hok p _ hk
     exact ζ (⟨o,e,ex⟩)
    ·refine bc fun ζ=>?_
     obtain ⟨_,_,_,_,o,_,_,e,ex,_⟩:=I.hok p _ hk
     exact ζ (⟨o,e,ex⟩)
   refine bc fun ζ=>?_
   obtain ⟨o,e,ex⟩:=z
   apply ζ;clear ζ
   refine ⟨⟨o,e,ex.1⟩,fun a e2=>?_⟩
   cases e2
   exact ⟨o,e,ex.2.1⟩
  ·refine bc fun ζ=>?_
   obtain ⟨o,_,_,_,e,ex,_⟩:=I.hok p _ hk
   apply ζ;clear ζ
   refine ⟨⟨o,e,ex.1⟩,fun a e2=>?_⟩
   cases e2
   exact ⟨o,e,ex.2.1⟩
 | _=>exact False.elim ty
noncomputable def tBM (K : PySem.W.Frag) (T : String) (r : V→List V→Hp→VK→Prop) (to : TE) (t : TA) : TE:=fun σ H Q=>to σ H fun x H1=>tyV K T x H1∧t σ H1 fun xs H2=>r x xs H2 Q
variable {o e : Expr} {es : List Expr} {to : TE} {t : TA} {name : Str} {apos cpos : Pos} {T id : String} {r : V→List V→Hp→VK→Prop}
theorem pe_bm (pa : PlainAttrs T) (slot : Slot T name id) (hty : typeOf (.builtin id) = pure (.type "method_descriptor")) (hm : MtR X id r) (ho : PE X o to) (ha : PA X (e :: es) t)
  (hbase : autoParam (attributeBase o name X.env (eval o X.env) = eval o X.env) _l.a0._auto_1)
  (hfew : autoParam (((backTo cpos (starEach (e :: es) X.env)).all (fun x=>!x.1) && (backToKw cpos (keywordEach [] X.env)).all (fun x=>x.1.isSome)
   && decide ((e :: es).length + ([] : List Keyword).length + (if ([] : List Keyword).isEmpty then 0 else 1) < 30)) = true) _l.a0._auto_1)
  (hline : autoParam ((apos.endLine == cpos.line) = true) _l.a0._auto_1) (hs : autoParam (starEach (e :: es) X.env = (false,eval e X.env) :: starEach es X.env) _l.a0._auto_1) (hplain : autoParam ((backTo cpos (starEach es X.env)).any (·.1) = false) _l.a0._auto_1) :
  PE X (.Call (.Attribute o name apos) (e :: es) [] cpos) (tBM X.K T r to t):=by
 intro pins s σ H Q I h
 refine wpAny_Call_method_late hbase hfew hline rfl (thn (ho pins s σ H _ I h) fun v s1 ⟨x,H1,I1,r1,ty,q1⟩=>?_)
 obtain ⟨h1,h2⟩:=tyV_is I1 r1 ty
 refine ⟨T,id,pa,slot,hty,h1,h2,?_⟩
 have hA:=ha cpos pins s1 σ H1 _ I1 q1
 rw [hs] at hA ⊢
 refine Calls.callWith_builtin (by show (false || (backTo cpos (starEach es X.env)).any (·.1)) = false; rw [hplain] <;> rfl) (Calls.evalArgs_plain ?_)
 exact thn hA fun us s2 ⟨vs,H2,I2,r2,q2⟩=>hm pins s2 σ H2 x vs v us Q I2 r1 r2 q2
end
noncomputable def MtM (X : Cx) (id : String) (r : V→List V→Hp→VK→Prop) : Prop :=
 ∀ (pins : List (Addr×Obj)) (s : Shared) (σ : St) (H : Hp) (x : V) (xs : List V) (v : Value) (us : List Value) (Q : VK),Inv X pins σ H s→RelV x v→Vals xs us→r x xs H Q →
  wpAny (model X.prog X.w) X.A (call (.builtin id) (v :: us)) (EP X pins σ Q) X.xe s
theorem Vals.one : ∀ {x : V} {us : List Value},Vals [x] us→∃ u,us = [u]∧RelV x u
 | _,_,.cons r .nil=>⟨_,rfl,r⟩
theorem Vals.eraseIdx : ∀ {xs : List V} {us : List Value} (i : Nat),Vals xs us→Vals (xs.eraseIdx i) (us.eraseIdx i)
 | _,_,_,.nil=>.nil
 | _,_,0,.cons _ t=>t
 | _,_,i + 1,.cons r t=>.cons r (Vals.eraseIdx i t)
theorem Vals.rep {xs : List V} {us : List Value} (h : Vals xs us) : ∀ k : Nat,Vals (List.replicate k xs).flatten (List.replicate k us).flatten
 | 0=>.nil
 | k + 1=>by
  rw [List.replicate_succ,List.replicate_succ,List.flatten_cons,List.flatten_cons]
  exact Vals.append h (Vals.rep h k)
theorem len_erase {α : Type} : ∀ (l : List α) (i : Nat),(l.eraseIdx i).length≤l.length
 | [],_=>Nat.le_refl _
 | _ :: _,0=>Nat.le_succ _
 | _ :: r,i + 1=>Nat.succ_le_succ (len_erase r i)
theorem foldl_rep (its : List Value) : ∀ (k : Nat) (acc : List Value),
  List.foldl (fun x1 x2=>x1 ++ x2) acc.toArray (List.replicate k its.toArray) = (acc ++ (List.replicate k its).flatten).toArray
 | 0,acc=>by simp
 | k + 1,acc=>by
  have e : acc.toArray ++ its.toArray = (acc ++ its).toArray:=by simp
  have e2 : (acc ++ its) ++ (List.replicate k its).flatten = acc ++ (List.replicate (k + 1) its).flatten:=by
   rw [List.replicate_succ,List.flatten_cons,List.append_assoc]
  rw [← e2,← foldl_rep its k (acc ++ its),← e,List.replicate_succ,List.foldl_cons]
section
variable {X : Cx} {pins : List (Addr×Obj)} {σ : St} {H : Hp} {s : Shared} {l b : Addr} {xs ys zs : List V}
theorem Inv.lset {its its' : List Value} {n : Nat} {f : Array Value→Array Value} {t' : Nat} (I : Inv X pins σ H s) (hH : H l = some (.lst xs))
  (e : s.heap.get? l = some { cls:=.type "list", data:=.seq its.toArray n }) (hf : f its.toArray = its'.toArray) (hv : Vals ys its') (hz : ys.length≤sizeLine) :
  Inv X pins σ (upd H l (.lst ys)) { s with heap:=s.heap.update l (Obj.mapSeq f),toks:=t' }:=by
 have q:=PySem.IsL.update e f
 rw [hf] at q
 refine I.write (x:=l) (e:=l) (by rw [hH]; exact trivial) (.inl rfl) (fun b' u hb hu=>(Heap.get?_update_other s.heap (Obj.mapSeq f) (Ne.symm hb)).trans hu) ⟨_,q⟩ ?_
 exact ⟨hz,its',_,hv,q⟩
theorem Inv.lnew {its : List Value} {t' : Nat} (I : Inv X pins σ H s) (hv : Vals ys its) (hz : ys.length≤sizeLine) :
  Inv X pins σ (upd H s.heap.objs.size (.lst ys)) { s with heap:=s.heap.push { cls:=.type "list", data:=.seq its.toArray }, toks:=t' } :=
 I.laid (fun _ _ q=>Heap.get?_push_of_some _ q) (Nat.le_refl _) ⟨hz,its,0,hv,Heap.get?_push_size _ rfl⟩
theorem Inv.fresh (I : Inv X pins σ H s) : H s.heap.objs.size = none:=I.hok.fresh (Nat.le_refl _)
theorem Inv.lstM (I : Inv X pins σ H s) (hH : H l = some (.lst xs)) : xs.length≤sizeLine∧∃ (its : List Value) (n : Nat), Vals xs its∧xs.length = its.length∧s.heap.get? l = some { cls:=.type "list", data:=.seq its.toArray n }:=by
 refine bc fun ζ=>?_
 obtain ⟨z,its,n,r,e⟩:=I.hok l _ hH
 exact ζ (⟨z,its,n,r,r.length,e⟩)
theorem notLongL {n : Nat} (h : n≤sizeLine) : Builtin.List.listTooLong n = false:=by
 unfold Builtin.List.listTooLong
 exact decide_eq_false (by lia)
end
section
variable {X : Cx}
noncomputable def rAppend : V→List V→Hp→VK→Prop:=fun x vs H Q=>∃ l xs y,x = .ref l∧vs = [y]∧H l = some (.lst xs)∧xs.length < sizeLine∧Q .non (upd H l (.lst (xs ++ [y])))
theorem mt_append : MtM X "list.append" rAppend:=by
 intro pins s σ H x vs v us Q I rx rv h
 refine bc fun ζ=>?_
 obtain ⟨l,xs,y,rfl,rfl,hH,hz,q⟩:=h
 cases rx
 obtain ⟨u,rfl,ru⟩:=rv.one
 obtain ⟨z,its,n,r,hl,e⟩:=I.lstM hH
 apply ζ;clear ζ
 refine call_meets F.slot_list_append ⟨_,e,rfl⟩ F.entry_list_append (F.args_list_append_2 _ _) (PySem.list_append l its.toArray n u (by rw [List.size_toArray]; lia)) ⟨e,?_⟩
 refine ⟨.non,_,I.lset (its':=its ++ [u]) hH e (by simp) (r.append (.cons ru .nil)) ?_,rfl,q⟩
 rw [List.length_append,List.length_singleton]
 lia
noncomputable def rPopAt : V→List V→Hp→VK→Prop:=fun x vs H Q=>∃ l xs i k y,x = .ref l∧vs = [.int i]∧H l = some (.lst xs)∧-(2 ^ 63)≤i∧i < 2 ^ 63∧seqIndex? i xs.length = some k∧xs[k]? = some y∧Q y (upd H l (.lst (xs.eraseIdx k)))
theorem mt_popAt : MtM X "list.pop" rPopAt:=by
 intro pins s σ H x vs v us Q I rx rv h
 refine bc fun ζ=>?_
 obtain ⟨l,xs,i,k,y,rfl,rfl,hH,h1,h2,hk,hy,q⟩:=h
 cases rx
 obtain ⟨u,rfl,ru⟩:=rv.one
 obtain ⟨t,rfl⟩:=ru
 obtain ⟨z,its,n,r,hl,e⟩:=I.lstM hH
 obtain ⟨w,hw,rw'⟩:=r.get hy
 apply ζ;clear ζ
 refine call_meets F.slot_list_pop ⟨_,e,rfl⟩ F.entry_list_pop (F.args_list_pop_2 _ _)
  (MeetsSeq.list_pop_at l its.toArray n i t k w (fitsIndex_both h1 h2) (by rw [List.size_toArray,← hl]; exact hk) (by rw [← Array.getElem?_toList]; exact hw) (by rw [List.size_toArray]; lia)) ⟨e,?_⟩
 refine ⟨y,_,I.lset (its':=its.eraseIdx k) hH e ?_ (r.eraseIdx k) ?_,rw',q⟩
 ·show its.toArray.eraseIdxIfInBounds k = (its.eraseIdx k).toArray
  rw [List.eraseIdxIfInBounds_toArray]
 ·have:=len_erase xs k
  lia
theorem len_rep {α : Type} (xs : List α) (k : Nat) : (List.replicate k xs).flatten.length = k * xs.length:=by
 induction k with
 | zero=>simp
 | succ k ih=>rw [List.replicate_succ,List.flatten_cons,List.length_append,ih,Nat.succ_mul,Nat.add_comm]
end
section
variable {prog : Program} {w : World} {A : Around} {E : Value→Shared→Prop} {s : Shared}
set_option maxRecDepth 100000 in
end
section
variable {X : Cx}
end
end _l
namespace _a
open PySem PySem.W PySem.Calls PyProof.Rows
theorem ints_of_wellAll {P : Params} {h : Heap} : ∀ (ns : List Int) (vs : List Value),WellAll P h vs (ns.map WData.int)→IntsAre vs ns:=by
 intro ns
 induction ns with
 | nil =>
  intro vs w
  rw [List.map_nil] at w
  cases w
  exact .nil
 | cons n ns ih =>
  intro vs w
  rw [List.map_cons] at w
  cases w with
  | cons a b =>
   cases a
   exact .cons _ _ (ih _ b)
theorem script_of {l : OpenLaw} {n : Nat} (hn : l.most = some n) {P : Params} {h : Heap} {args : List WData} {vals : List Value}
  (hpre : l.row.toRowW.claim.pre args = true) (hwl : WellAll P h vals args) :
  ∃ a vs ns, vals = [Value.ref a]∧args = [WData.list (ns.map WData.int)]∧h.get? a = some { cls:=.type "list", data:=.seq vs.toArray }∧IntsAre vs ns∧ns.length≤n:=by
 have hsh : WShape.hasAll [] args [.list .int] = true:=(pre_splitW hpre).1
 have hc : l.pre.holds [] { args:=args } = true:=(pre_splitW hpre).2
 obtain ⟨d,r,rfl,h1,h2⟩:=hasAllW_cons hsh
 obtain rfl:=hasAllW_nil h2
 obtain ⟨xs,rfl,h3⟩:=hasW_list h1
 obtain ⟨ns,rfl⟩:=items_int h3
 have hlen : ns.length≤n:=by
  unfold OpenLaw.pre at hc
  have h4 : (WTm.not (.lt (.lit (.int (n : Int))) (.len (.arg 0)))).holds [] { args:=[.list (ns.map .int)] } = true:=by
   have h4:=(holds_andW hc).1
   rw [hn] at h4
   exact h4
  have h5:=condW_of h4 (w_not (w_lt w_lit (w_len_list (w_arg rfl))))
  rw [List.length_map] at h5
  refine Nat.le_of_not_lt fun q=>?_
  have q' : (n : Int) < ((ns.length : Nat) : Int):=by omega
  first
   | (rw [decide_eq_true q'] at h5; exact absurd h5 (by decide))
   | (simp at h5; omega)
 cases hwl with
 | cons w1 w2 =>
  cases w2
  cases w1 with
  | list ho hall=>exact ⟨_,_,ns,rfl,rfl,ho,ints_of_wellAll ns _ hall,hlen⟩
theorem post_true (l : OpenLaw) (args : List WData) : l.row.toRowW.claim.post args (.bool true) args = true :=
 postW_of (r:=l.row.toRowW) (X:=(true == true))
  (show WShape.has [] (.bool true) .bool = true by first | rfl | decide | simp [WShape.has,WShape.arms,WShape.armsAll])
  (show (WTm.eq .res (.lit (.bool true))).value [] { args:=args,res:=some (.bool true),after:=args } = some (.bool (true == true)) from w_eq_bool (w_res rfl) w_lit) rfl
theorem attach_call {l : OpenLaw} {n : Nat} {q : Program} {loose : List Str} {XP : (Str→Option Value)→Heap→Prop} {YP : World→Heap→Prop} {d : DefRec}
  (hn : l.most = some n) (hdf : d.params.defaults = [])
  (call : ∀ (w : World) (s₀ s₁ : Shared) (mg mb : Str→Option Value) (fa : Addr) (o : Obj) (pm cd doc : Value) (a : Addr) (vs : List Value) (ns : List Int),
   Ground q loose [] XP w s₀ mg mb s₁.heap→YP w s₁.heap →
   s₁.heap.get? fa = some o→o.data = .func (docDef d.name d.params d.body d.scope pm cd doc)→s₁.heap.CodeRec cd d.name→mg d.name = some (.ref fa) →
   s₁.heap.get? a = some { cls:=.type "list", data:=.seq vs.toArray }→IntsAre vs ns→ns.length≤n→s₁.gens = #[] →
   codeAny (model l.prog w) callerA (.call (.ref fa) ⟨[.ref a],[]⟩) (fun r s'=>r = .ok (.ret (.bool true))∧OldK s₁.heap s'.heap∧s'.os = s₁.os∧AllBare s'.gens) s₁) :
  WalkO q loose XP YP l.row.toRowW d [] (fun f vs=>PySem.call f vs):=by
 intro w s₀ s₁ mg mb G Y fa o pm cd doc dV kV ho hd hcd hD hmg hg args vals as hpre hlay hrd hwl hlo
 obtain rfl : dV = .none:=Dflts.none hD hdf
 obtain rfl : kV = .none:=Dflts.noKw hD
 obtain ⟨a,vs,ns,rfl,rfl,hobj,hints,hlen⟩:=script_of hn hpre hwl
 refine enter_call (codeAny_mono (call w s₀ s₁ mg mb fa o pm cd doc a vs ns G Y ho (fd_plain hd) hcd hmg hobj hints hlen hg) fun r s' hq=>?_)
 obtain ⟨rfl,h2,h3,h4⟩:=hq
 exact ⟨.inl ⟨.bool true,.bool true,[],rfl,fun _=>rfl,.bool true,post_true l _,fun _=>⟨List.Pairwise.nil,fun _ hm=>(nomatch hm)⟩⟩,h2,h3,h4⟩
section
variable {prog : Program} {w : World} {A : Around} {E : Value→Shared→Prop} {s : Shared} {K : Frag}
end
end _a
namespace _l
open PySem PySem.Spec PyProof.Rows
theorem vals_ints : ∀ {vs : List Value} {ns : List Int},IntsAre vs ns→Vals (ns.map V.int) vs
 | _,_,.nil=>.nil
 | _,_,.cons n t h=>.cons ⟨t,rfl⟩ (vals_ints h)
noncomputable def Only (H : Hp) : Prop:=∀ b,H b = none∨∃ o xs,H b = some (.frz o (.lst xs))
theorem law_call {P : Program} {w : World} {K : PySem.W.Frag} {mg mb : Str→Option Value} {CX : CXT} {k : Nat} {fa a : Addr} {fd : FuncData} {x : Str} {sp : Sp} {s₁ : Shared} {vs : List Value} {ns : List Int}
  (KX : K.In s₁.heap) (hns : s₁.heap.Ns mainGlobals mg) (hb : s₁.heap.Ns builtinsNs mb) (hbb : ∀ x : Str, x≠"__name__"→mb x = bootBuiltins x) (hlim : s₁.heap.NoLimit) (hg : s₁.gens = #[])
  (ha : s₁.heap.get? a = some { cls:=.type "list", data:=.seq vs.toArray }) (hi : IntsAre vs ns) (hl : ns.length≤sizeLine) (hr : Room k callerA)
  (F : ∀ base : Heap,K.In base→base.Ns mainGlobals mg→FnOk P w K mg base CX k fa fd [x] sp) (hbind : ∀ (s : Shared) (u : Value),BindsTo s fd ⟨[u],[]⟩ [(x,u)])
  (hsp : ∀ H : Hp,Only H→SqL K H a (ns.map V.int)→sp [.ref a] H (fun v _=>v = .bl true) fun _ _ _=>False)
  (hCX : ∀ H e s',CX [] H s₁ (fun _ _ _=>False) e s'→False) :
  codeAny (model P w) callerA (.call (.ref fa) ⟨[.ref a],[]⟩) (fun r s'=>r = .ok (.ret (.bool true))∧OldK s₁.heap s'.heap∧s'.os = s₁.os∧AllBare s'.gens) s₁:=by
 have rv:=vals_ints hi
 have lenV:=hi.length
 have core : ∀ H : Hp,Only H→SqL K H a (ns.map V.int)→HOk P w H s₁.heap→(∀ b,H b≠none→b = a)→(H a≠none→K.lookup a = none) →
   codeAny (model P w) callerA (.call (.ref fa) ⟨[.ref a],[]⟩) (fun r s'=>r = .ok (.ret (.bool true))∧OldK s₁.heap s'.heap∧s'.os = s₁.os∧AllBare s'.gens) s₁:=by
  intro H hO hS hok hA hK
  have base_of : ∀ {b : Addr} {o : Obj},s₁.heap.get? b = some o→H b = none→(hidT s₁.heap H).get? b = some o:=fun e n=>hidT_get e n
  have noA : ∀ {b : Addr} {o : Obj} {es : Array DictEntry} {ep : Nat},s₁.heap.get? b = some o→o.data = .dict es ep→H b = none:=fun {b o es ep} e d=>by
   cases q : H b with
   | none=>rfl
   | some u =>
    have e' : b = a:=hA b (by rw [q]; simp)
    subst e'
    rw [ha] at e; cases e
    have d' : Data.seq vs.toArray _ = Data.dict es ep:=d
    cases d'
  have nsK : ∀ {b : Addr} {m : Str→Option Value},s₁.heap.Ns b m→(hidT s₁.heap H).Ns b m:=fun {b m} ⟨o,es,ep,e,d,r⟩=>⟨o,es,ep,base_of e (noA e d),d,r⟩
  have hKb : K.In (hidT s₁.heap H):=fun b o e=>base_of (KX b o e) (by
   cases q : H b with
   | none=>rfl
   | some u =>
    have e' : b = a:=hA b (by rw [q]; simp)
    subst e'
    rw [hK (by rw [q]; simp)] at e; cases e)
  have hM : Mod K mg (hidT s₁.heap H):=⟨hKb,nsK hns,⟨mb,nsK hb,hbb⟩,let ⟨mc,h1,h2⟩:=hlim; ⟨mc,nsK h1,h2⟩⟩
  have e0 : Env0 P w K mg (hidT s₁.heap H) callerA [] s₁ H:=⟨rfl,hM,fun b o e=>of_hidT e,Nat.le_of_eq (hidT_size _ _),trivial,fun b hb=>absurd (show b∈([] : List Addr) from hb) (by simp),hok,.of_eq hg⟩
  refine codeAny_mono ((F _ hKb (nsK hns)).run callerA [] s₁ H ⟨[.ref a],[]⟩ [.ref a] [.ref a] _ _ hr e0 (hbind s₁ (.ref a)) (.cons rfl .nil) (hsp H hO hS)) fun r s' h=>?_
  cases r with
  | error e=>exact (hCX H e s' h).elim
  | ok fl =>
   cases fl with
   | next=>exact False.elim h
   | brk=>exact False.elim h
   | cont=>exact False.elim h
   | ret u =>
    refine bc fun ζ=>?_
    obtain ⟨v,H',os,bare,un,hok',r',q⟩:=h
    apply ζ;clear ζ
    have q' : v = .bl true:=q
    subst q'
    obtain rfl : u = Value.bool true:=r'
    refine ⟨rfl,OldK.of_keep fun b o e=>?_,os,bare⟩
    cases q : H b with
    | none=>exact un.keep b o e q (by intro z; exact absurd (show b∈([] : List Addr) from z) (by simp)) (by simp)
    | some u =>
     rcases hO b with z | ⟨ob,xs,z⟩
     ·rw [q] at z; cases z
     ·have z2:=un.frzs b ob _ z
      refine bc fun ζ=>?_
      obtain ⟨e1,_⟩:=hok b _ z
      obtain ⟨e2,_⟩:=hok' b _ z2
      apply ζ;clear ζ
      rw [e] at e1; cases e1
      exact e2
 cases hk : K.lookup a with
 | some o =>
  have e:=KX a o hk
  rw [ha] at e
  cases e
  refine core (fun _=>none) (fun _=>.inl rfl) (.inr ⟨_,vs.toArray,_,hk,rfl,rfl,rfl,by rw [List.size_toArray,lenV]; exact hl,by simpa using rv⟩) (fun b u z=>by have z' : (none : Option HO) = some u:=z; cases z') (fun b z=>absurd rfl z) fun z=>absurd rfl z
 | none =>
  refine core (fun b=>if b = a then some (.frz { cls:=.type "list", data:=.seq vs.toArray } (.lst (ns.map V.int))) else none) (fun b=>?_) (.inl (.inr ⟨{ cls:=.type "list", data:=.seq vs.toArray }, if_pos rfl⟩)) (fun b u z=>?_) (fun b z=>?_) fun _=>hk
  ·by_cases hb : b = a
   ·exact .inr ⟨_,_,if_pos hb⟩
   ·exact .inl (if_neg hb)
  ·by_cases hb : b = a
   ·have z':=(if_pos hb).symm.trans z
    cases z'
    subst hb
    exact ⟨ha,by rw [List.length_map]; exact hl,vs,_,rv,ha⟩
   ·have z':=(if_neg hb).symm.trans z
    cases z'
  ·by_cases hb : b = a
   ·exact hb
   ·exact absurd (if_neg hb) z
theorem walk_of {l : PySem.W.OpenLaw} {n k : Nat} {q : Program} {loose : List Str} {XP : (Str→Option Value)→Heap→Prop} {YP : World→Heap→Prop} {d : DefRec} {K : Params→PySem.W.Frag} {CX : World→CXT} {sp : World→Sp} {x : Str}
  (hn : l.most = some n) (hn2 : n≤sizeLine) (hdf : d.params.defaults = []) (hr : Room k callerA)
  (hY : ∀ (w : World) (h : Heap),YP w h→(K w.params).In h)
  (F : ∀ (w : World) (mg : Str→Option Value) (fa : Addr) (h : Heap),(K w.params).In h→h.Ns mainGlobals mg→mg d.name = some (.ref fa) →
   ∃ fd : FuncData,(∀ (s : Shared) (u : Value),BindsTo s fd ⟨[u],[]⟩ [(x,u)]) ∧
    ∀ base : Heap,(K w.params).In base→base.Ns mainGlobals mg→FnOk l.prog w (K w.params) mg base (CX w) k fa fd [x] (sp w))
  (hsp : ∀ (w : World) (H : Hp) (a : Addr) (ns : List Int),ns.length≤n→Only H→SqL (K w.params) H a (ns.map V.int)→sp w [.ref a] H (fun v _=>v = .bl true) fun _ _ _=>False)
  (hCX : ∀ (w : World) (H : Hp) (s : Shared) (e : Value) (s' : Shared),CX w [] H s (fun _ _ _=>False) e s'→False) :
  PySem.W.WalkO q loose XP YP l.row.toRowW d [] (fun f vs=>PySem.call f vs):=by
 refine _a.attach_call hn hdf fun w s₀ s₁ mg mb fa o pm cd doc a vs ns G Y ho hd hcd hmg hobj hints hlen hg=>?_
 have KX:=hY w _ Y
 refine bc fun ζ=>?_
 obtain ⟨fd,hb,hF⟩:=F w mg fa _ KX G.T.g hmg
 exact ζ (law_call KX G.T.g G.T.b G.T.builtins G.T.nolimit hg hobj hints (Nat.le_trans hlen hn2) hr hF hb (fun H hO hS=>hsp w H a ns hlen hO hS) fun H e s'=>hCX w H s₁ e s')
noncomputable def defArgs (s : Stmt) : Arguments:=match s with
 | .FunctionDef _ a _ _ _ _ _ _ _ _=>a
 | _=>{ posonlyargs:=[],args:=[],vararg:=none,kwonlyargs:=[],kw_defaults:=[],kwarg:=none,defaults:=[] }
noncomputable def defBody (s : Stmt) : List Stmt:=match s with
 | .FunctionDef _ _ b _ _ _ _ _ _ _=>b
 | _=>[]
noncomputable def defScope (s : Stmt) : Scope:=match s with
 | .FunctionDef _ _ _ _ _ _ sc _ _ _=>sc
 | _=>{ kind:=.function,names:=[],isGenerator:=false,isCoroutine:=false }
noncomputable abbrev CX0 : CXT:=fun _ _ _ _ _ _=>False
noncomputable abbrev E0 : XK:=fun _ _ _=>False
theorem pass0 {X : Cx} : Passes CX0 X E0:=fun _ _ _ _ _ _ _ h=>h.elim
structure Fun (K : PySem.W.Frag) (x qual : Str) (st : Stmt) (f : Addr) (fd : FuncData) : Prop where
 ex : ∃ (oc : Value) (od : Option Addr) (kV doc pm : Value) (an : Option Addr) (cdv ct : Value) (osl : Array (Option Value)),
  fd = PySem.W.fnOf x qual (defArgs st) (defBody st) (defScope st) .none kV doc pm an cdv ct∧K.lookup f = some ⟨oc,od,.func fd,osl⟩∧PySem.W.codeIn K cdv qual = true
 kp : PySem.W.keepIn K (.ref f) = true
section
variable {P : Program} {w : World} {K : PySem.W.Frag} {mg : Str→Option Value} {base : Heap}
theorem Fun.ok {x qual : Str} {st : Stmt} {f : Addr} {fd : FuncData} {N ps : List Str} {k : Nat} {sp : Sp} (F : Fun K x qual st f fd) (S : FnScope N ps (defScope st)) (len : ∀ vs H Q E,sp vs H Q E→vs.length = ps.length)
  (hbody : ∀ (cdv : Value) (A : Around) (outer : List Env) (s : Shared) (H : Hp) (vs : List V) (Q : VK) (E : XK),Room k (A.deeper (envOfC qual (defScope st) s.heap.objs.size f cdv))→sp vs H Q E →
   ∃ t,PSs (cxOf CX0 P w K mg base N qual (defScope st) f cdv A outer s H E).nox (defBody st) t∧t { nx:=fun _ H'=>Q .non H',rt:=Q } (start N vs) H) : FnOk P w K mg base CX0 (k + 1) f fd ps sp:=by
 refine bc fun ζ=>?_
 obtain ⟨oc,od,kV,doc,pm,an,cdv,ct,osl,rfl,lk,hcd⟩:=F.ex
 apply ζ;clear ζ
 refine fn_of lk hcd S len fun A outer s H vs Q E hr hsp=>?_
 refine bc fun ζ=>?_
 obtain ⟨t,h,q⟩:=hbody cdv A outer s H vs Q E hr hsp
 exact ζ (⟨t,h.nox,q⟩)
theorem Fun.binds {x qual : Str} {st : Stmt} {f : Addr} {fd : FuncData} {ps : List Str} (F : Fun K x qual st f fd)
  (h : ∀ (kV doc pm : Value) (an : Option Addr) (cdv ct : Value) (us : List Value),us.length = ps.length→bindArgs (PySem.W.fnOf x qual (defArgs st) (defBody st) (defScope st) .none kV doc pm an cdv ct) ⟨us,[]⟩ = pure (ps.zip us)) : Binds K fd ps []:=by
 obtain ⟨oc,od,kV,doc,pm,an,cdv,ct,osl,rfl,lk,hcd⟩:=F.ex
 exact .all (h kV doc pm an cdv ct)
theorem fun_mk {x qual : Str} {st : Stmt} {f : Addr} {oc : Value} {od an : Option Addr} {osl : Array (Option Value)} {kV doc pm cdv ct : Value} (l : K.lookup f = some ⟨oc,od,.func (PySem.W.fnOf x qual (defArgs st) (defBody st) (defScope st) .none kV doc pm an cdv ct),osl⟩)
  (c : PySem.W.codeIn K cdv qual = true) (k : PySem.W.keepIn K (.ref f) = true) : Fun K x qual st f (PySem.W.fnOf x qual (defArgs st) (defBody st) (defScope st) .none kV doc pm an cdv ct):=⟨⟨oc,od,kV,doc,pm,an,cdv,ct,osl,rfl,l,c⟩,k⟩
end
section
variable {X : Cx}
end
noncomputable def Same (H H' : Hp) : Prop:=∀ b o,H b = some o→H' b = some o
theorem Same.refl (H : Hp) : Same H H:=fun _ _ h=>h
theorem Same.trans {H H1 H2 : Hp} (a : Same H H1) (b : Same H1 H2) : Same H H2:=fun c o h=>b c o (a c o h)
theorem Same.free {H H' : Hp} (e : Same H H') {l : Addr} (h : H' l = Option.none) : H l = Option.none:=by
 cases q : H l with
 | none=>rfl
 | some o =>
  rw [e l o q] at h
  cases h
section
variable {κ : Type} [DecidableEq κ]
end
section
variable {P : Program} {w : World} {H : Hp} {h : Heap} {a : Addr}
end
section
variable {X : Cx} {pins : List (Addr×Obj)} {σ : St} {H : Hp} {s : Shared} {a : Addr} {y v : V} {u r : Value} {o : Option V} {A : Around} {E : Value→Shared→Prop}
end
section
variable {X : Cx} {pins : List (Addr×Obj)} {σ : St} {H : Hp} {s : Shared} {a : Addr} {kvs : List (Key×V)} {k : Key} {u : Value} {A : Around} {E : Value→Shared→Prop}
end
section
variable {X : Cx} {o i e value : Expr} {pos pos' tpos : Pos} {td ty tv : TE}
end
section
variable {X : Cx} {pos : Pos}
end
section
variable {X : Cx} {pins : List (Addr×Obj)} {σ : St} {H : Hp} {s : Shared} {a : Addr} {y d : V} {u r : Value} {o : Option V} {A : Around} {E : Value→Shared→Prop}
end
section
variable {X : Cx} {o e f : Expr} {apos cpos : Pos} {td ty tx : TE}
end
section
variable {X : Cx} {pins : List (Addr×Obj)} {σ : St} {H : Hp} {s : Shared} {a : Addr} {kvs : List (Key×V)} {A : Around} {E : Value→Shared→Prop}
end
section
variable {X : Cx} {pins : List (Addr×Obj)} {σ : St} {H : Hp} {s : Shared} {a : Addr} {y : V} {u : Value} {A : Around} {E : Value→Shared→Prop}
end
end _l
namespace _d
inductive Dat where
 | non
 | bl (b : Bool)
 | int (i : Int)
 | str (s : List Nat)
 | tup (xs : List Dat)
 | lst (xs : List Dat)
 | dct (ks : List Int) (vs : List Dat)
 | exc (C : Nat)
 | fn (a : Nat)
deriving Inhabited
inductive Cell where
 | un
 | sh (d : Dat)
 | ow (d : Dat)
deriving Inhabited
noncomputable abbrev Env:=List Cell
inductive Val where
 | val (d : Dat)
 | slot (i : Nat)
 | new (d : Dat)
inductive RV where
 | val (d : Dat)
 | new (d : Dat)
noncomputable def RV.dat : RV→Dat
 | .val d=>d
 | .new d=>d
noncomputable def RV.toVal : RV→Val
 | .val d=>.val d
 | .new d=>.new d
noncomputable def SZ : Nat:=100000
noncomputable def isBox : Dat→Bool
 | .tup _=>true
 | .lst _=>true
 | .dct _ _=>true
 | .exc _=>true
 | _=>false
noncomputable def pk (ρ : Env) : Val→Option Dat
 | .val d=>some d
 | .new d=>some d
 | .slot i=>match ρ[i]? with
  | some (.ow d)=>some d
  | some (.sh d)=>some d
  | _=>none
noncomputable def tk (ρ : Env) : Val→Option (Dat×Env)
 | .val d=>some (d,ρ)
 | .new d=>some (d,ρ)
 | .slot i=>match ρ[i]? with
  | some (.ow d)=>some (d,ρ.set i (.sh d))
  | some (.sh d)=>some (d,ρ)
  | _=>none
noncomputable def pks (ρ : Env) : List Val→Option (List Dat)
 | []=>some []
 | x :: r=>match pk ρ x with
  | none=>none
  | some d=>match pks ρ r with
   | none=>none
   | some ds=>some (d :: ds)
noncomputable def tks (ρ : Env) : List Val→Option (List Dat×Env)
 | []=>some ([],ρ)
 | x :: r=>match tk ρ x with
  | none=>none
  | some (d,ρ1)=>match tks ρ1 r with
   | none=>none
   | some (ds,ρ2)=>some (d :: ds,ρ2)
noncomputable abbrev FE:=Env→Option (Val×Env)
noncomputable abbrev FT:=Env→Option (Bool×Env)
noncomputable def eC (d : Dat) : FE:=fun ρ=>some (.val d,ρ)
noncomputable def eV (i : Nat) : FE:=fun ρ=>match ρ[i]? with
 | some (.sh d)=>some (.val d,ρ)
 | some (.ow _)=>some (.slot i,ρ)
 | _=>none
noncomputable def e1 (g : Dat→Option RV) (a : FE) : FE:=fun ρ=>match a ρ with
 | none=>none
 | some (x,ρ1)=>match pk ρ1 x with
  | none=>none
  | some d=>match g d with
   | none=>none
   | some v=>some (v.toVal,ρ1)
noncomputable def e2 (g : Dat→Dat→Option RV) (a b : FE) : FE:=fun ρ=>match a ρ with
 | none=>none
 | some (x,ρ1)=>match b ρ1 with
  | none=>none
  | some (y,ρ2)=>match pk ρ2 x with
   | none=>none
   | some d=>match pk ρ2 y with
    | none=>none
    | some e=>match g d e with
     | none=>none
     | some v=>some (v.toVal,ρ2)
noncomputable def eAs : List FE→Env→Option (List Val×Env)
 | [],ρ=>some ([],ρ)
 | a :: r,ρ=>match a ρ with
  | none=>none
  | some (x,ρ1)=>match eAs r ρ1 with
   | none=>none
   | some (xs,ρ2)=>some (x :: xs,ρ2)
noncomputable def eB (g : List Dat→Option RV) (as : List FE) : FE:=fun ρ=>match eAs as ρ with
 | none=>none
 | some (xs,ρ1)=>match pks ρ1 xs with
  | none=>none
  | some ds=>match g ds with
   | none=>none
   | some v=>some (v.toVal,ρ1)
noncomputable def eTup (as : List FE) : FE:=fun ρ=>match eAs as ρ with
 | none=>none
 | some (xs,ρ1)=>match tks ρ1 xs with
  | none=>none
  | some (ds,ρ2)=>if ds.length≤SZ then some (.val (.tup ds),ρ2) else none
noncomputable def eLst (as : List FE) : FE:=fun ρ=>match eAs as ρ with
 | none=>none
 | some (xs,ρ1)=>match tks ρ1 xs with
  | none=>none
  | some (ds,ρ2)=>if ds.length≤SZ then some (.new (.lst ds),ρ2) else none
noncomputable def eF (f : List Dat→Option RV) (as : List FE) : FE:=fun ρ=>match eAs as ρ with
 | none=>none
 | some (xs,ρ1)=>match pks ρ1 xs with
  | none=>none
  | some ds=>match f ds with
   | none=>none
   | some v=>if isBox v.dat then (match tks ρ1 xs with
     | none=>none
     | some (_,ρ2)=>some (v.toVal,ρ2)) else some (v.toVal,ρ1)
noncomputable def eIf (t : FT) (a b : FE) : FE:=fun ρ=>match t ρ with
 | none=>none
 | some (true,ρ1)=>a ρ1
 | some (false,ρ1)=>b ρ1
noncomputable def eAnd (a b : FE) : FE:=fun ρ=>match a ρ with
 | some (.val (.bl true),ρ1)=>b ρ1
 | some (.val (.bl false),ρ1)=>some (.val (.bl false),ρ1)
 | _=>none
noncomputable def eNot (a : FE) : FE:=fun ρ=>match a ρ with
 | some (.val (.bl c),ρ1)=>some (.val (.bl (!c)),ρ1)
 | _=>none
noncomputable def tV (a : FE) : FT:=fun ρ=>match a ρ with
 | some (.val (.bl c),ρ1)=>some (c,ρ1)
 | _=>none
noncomputable def tNot (t : FT) : FT:=fun ρ=>match t ρ with
 | some (c,ρ1)=>some (!c,ρ1)
 | none=>none
noncomputable def tAnd (t u : FT) : FT:=fun ρ=>match t ρ with
 | some (true,ρ1)=>u ρ1
 | some (false,ρ1)=>some (false,ρ1)
 | none=>none
noncomputable def tOr (t u : FT) : FT:=fun ρ=>match t ρ with
 | some (true,ρ1)=>some (true,ρ1)
 | some (false,ρ1)=>u ρ1
 | none=>none
noncomputable def tTrue : FT:=fun ρ=>some (true,ρ)
noncomputable abbrev FI:=Env→Option (List Dat×Env)
noncomputable def iL (a : FE) : FI:=fun ρ=>match a ρ with
 | none=>none
 | some (x,ρ1)=>match tk ρ1 x with
  | some (.lst ds,ρ2)=>some (ds,ρ2)
  | _=>none
noncomputable def iT (a : FE) : FI:=fun ρ=>match a ρ with
 | none=>none
 | some (x,ρ1)=>match tk ρ1 x with
  | some (.tup ds,ρ2)=>some (ds,ρ2)
  | _=>none
noncomputable def iS (a : FE) : FI:=fun ρ=>match a ρ with
 | none=>none
 | some (x,ρ1)=>match tk ρ1 x with
  | some (.lst ds,ρ2)=>some (ds,ρ2)
  | some (.tup ds,ρ2)=>some (ds,ρ2)
  | _=>none
noncomputable def ups (lo : Int) (n : Nat) : List Dat:=(List.range n).map fun i=>Dat.int (lo + (i : Nat))
noncomputable def downs (hi : Int) (n : Nat) : List Dat:=(List.range n).map fun i=>Dat.int (hi - (i : Nat))
noncomputable def BIG : Int:=1000000000
noncomputable def iR1 (a : FE) : FI:=fun ρ=>match a ρ with
 | some (.val (.int j),ρ1)=>if j≤BIG∧-BIG≤j then some (ups 0 j.toNat,ρ1) else none
 | _=>none
noncomputable def iR2 (a b : FE) : FI:=fun ρ=>match a ρ with
 | some (.val (.int i),ρ1)=>(match b ρ1 with
  | some (.val (.int j),ρ2)=>if j≤BIG∧-BIG≤j∧i≤BIG∧-BIG≤i then some (ups i (j - i).toNat,ρ2) else none
  | _=>none)
 | _=>none
noncomputable abbrev FB:=Dat→Env→Option Env
noncomputable def bN (i : Nat) : FB:=fun d ρ=>if i = 0 then none else some (ρ.set i (.sh d))
noncomputable def sets : List Nat→List Dat→Env→Option Env
 | [],[],ρ=>some ρ
 | i :: is,d :: ds,ρ=>if i = 0 then none else sets is ds (ρ.set i (.sh d))
 | _,_,_=>none
noncomputable def bT (is : List Nat) : FB:=fun d ρ=>match d with
 | .tup ds=>sets is ds ρ
 | _=>none
noncomputable def compD (bd : FB) (t : FT) (el : FE) : List Dat→Env→List Dat→Option (List Dat×Env)
 | [],ρ,acc=>some (acc,ρ)
 | d :: r,ρ,acc=>match bd d ρ with
  | none=>none
  | some ρ1=>match t ρ1 with
   | none=>none
   | some (false,ρ2)=>compD bd t el r ρ2 acc
   | some (true,ρ2)=>match el ρ2 with
    | none=>none
    | some (x,ρ3)=>match tk ρ3 x with
     | none=>none
     | some (y,ρ4)=>compD bd t el r ρ4 (acc ++ [y])
noncomputable def eComp (it : FI) (own : Nat) (bd : FB) (t : FT) (el : FE) : FE:=fun ρ=>match it ρ with
 | none=>none
 | some (ds,ρ1)=>if ds.length≤SZ then (match compD bd t el ds (ρ1 ++ List.replicate own .un) [] with
  | none=>none
  | some (ys,ρ2)=>some (.new (.lst ys),ρ2.take ρ1.length)) else none
inductive Out where
 | nx (ρ : Env)
 | ret (r : RV) (ρ : Env)
 | bk (ρ : Env)
 | ct (ρ : Env)
noncomputable abbrev FS:=Env→Option Out
noncomputable def sNx : FS:=fun ρ=>some (.nx ρ)
noncomputable def sSeq (s u : FS) : FS:=fun ρ=>match s ρ with
 | some (.nx ρ1)=>u ρ1
 | o=>o
noncomputable def sA (i : Nat) (e : FE) : FS:=fun ρ=>if i = 0 then none else match e ρ with
 | none=>none
 | some (.new d,ρ1)=>some (.nx (ρ1.set i (.ow d)))
 | some (x,ρ1)=>match tk ρ1 x with
  | none=>none
  | some (d,ρ2)=>some (.nx (ρ2.set i (.sh d)))
noncomputable def sU (is : List Nat) (e : FE) : FS:=fun ρ=>match e ρ with
 | none=>none
 | some (x,ρ1)=>match tk ρ1 x with
  | some (.tup ds,ρ2)=>(match sets is ds ρ2 with
   | none=>none
   | some ρ3=>some (.nx ρ3))
  | _=>none
noncomputable def sE (e : FE) : FS:=fun ρ=>match e ρ with
 | none=>none
 | some (_,ρ1)=>some (.nx ρ1)
noncomputable def sR (e : FE) : FS:=fun ρ=>match e ρ with
 | none=>none
 | some (.new d,ρ1)=>some (.ret (.new d) ρ1)
 | some (.val d,ρ1)=>some (.ret (.val d) ρ1)
 | some (.slot i,ρ1)=>match ρ1[i]? with
  | some (.ow d)=>some (.ret (.new d) (ρ1.set i .un))
  | some (.sh d)=>some (.ret (.val d) ρ1)
  | _=>none
noncomputable def sIf (t : FT) (a b : FS) : FS:=fun ρ=>match t ρ with
 | none=>none
 | some (true,ρ1)=>a ρ1
 | some (false,ρ1)=>b ρ1
noncomputable def sApp (i : Nat) (e : FE) : FS:=fun ρ=>match ρ[i]? with
 | some (.ow (.lst _))=>(match e ρ with
  | none=>none
  | some (x,ρ1)=>match tk ρ1 x with
   | none=>none
   | some (d,ρ2)=>match ρ2[i]? with
    | some (.ow (.lst ds))=>if ds.length < SZ then some (.nx (ρ2.set i (.ow (.lst (ds ++ [d]))))) else none
    | _=>none)
 | _=>none
noncomputable def ixN (n : Nat) (i : Int) : Option Nat :=
 if 0≤i then (if i < n then some i.toNat else none) else if -(n : Int)≤i then some (i + n).toNat else none
noncomputable def sSet (i : Nat) (j e : FE) : FS:=fun ρ=>match e ρ with
 | none=>none
 | some (x,ρ1)=>match tk ρ1 x with
  | none=>none
  | some (d,ρ2)=>match ρ2[i]? with
   | some (.ow _)=>(match j ρ2 with
    | some (.val (.int k),ρ3)=>(match ρ3[i]? with
     | some (.ow (.lst ds))=>(match ixN ds.length k with
      | none=>none
      | some m=>some (.nx (ρ3.set i (.ow (.lst (ds.set m d))))))
     | _=>none)
    | _=>none)
   | _=>none
noncomputable def forD (bd : FB) (body : FS) : List Dat→FS
 | [],ρ=>some (.nx ρ)
 | d :: r,ρ=>match bd d ρ with
  | none=>none
  | some ρ1=>match body ρ1 with
   | some (.nx ρ2)=>forD bd body r ρ2
   | some (.ct ρ2)=>forD bd body r ρ2
   | some (.bk ρ2)=>some (.nx ρ2)
   | some (.ret v ρ2)=>some (.ret v ρ2)
   | none=>none
noncomputable def sFor (it : FI) (bd : FB) (body : FS) : FS:=fun ρ=>match it ρ with
 | none=>none
 | some (ds,ρ1)=>forD bd body ds ρ1
noncomputable def fn (n m : Nat) (body : FS) (ds : List Dat) : Option RV:=if ds.length = n then (match body (ds.map Cell.sh ++ List.replicate m .un) with
 | some (.ret r _)=>some r
 | some (.nx _)=>some (.val .non)
 | _=>none) else none
noncomputable def b2i (b : Bool) : Int:=if b then 1 else 0
mutual
noncomputable def eqD : Dat→Dat→Bool
 | .non,.non=>true
 | .bl a,.bl b=>a == b
 | .bl a,.int j=>b2i a == j
 | .int i,.bl b=>i == b2i b
 | .int i,.int j=>i == j
 | .str a,.str b=>a == b
 | .tup xs,.tup ys=>eqDs xs ys
 | .lst xs,.lst ys=>eqDs xs ys
 | _,_=>false
noncomputable def eqDs : List Dat→List Dat→Bool
 | [],[]=>true
 | x :: xs,y :: ys=>eqD x y && eqDs xs ys
 | _,_=>false
end
noncomputable def okD : Nat→Dat→Bool
 | _,.dct _ _=>false
 | _,.exc _=>false
 | _,.fn _=>false
 | _,.str s=>s.all fun c=>decide (c < 128)
 | 0,.tup _=>false
 | 0,.lst _=>false
 | n + 1,.tup xs=>xs.all (okD n)
 | n + 1,.lst xs=>xs.all (okD n)
 | _,_=>true
noncomputable abbrev vB (b : Bool) : Option RV:=some (.val (.bl b))
noncomputable def gIsi (p : Dat→Bool) : Dat→Option RV
 | .exc _=>none
 | .fn _=>none
 | d=>vB (p d)
noncomputable abbrev vI (i : Int) : Option RV:=some (.val (.int i))
noncomputable def gEq (x y : Dat) : Option RV:=if okD 8 x && okD 8 y then vB (eqD x y) else none
noncomputable def gNe (x y : Dat) : Option RV:=if okD 8 x && okD 8 y then vB (!eqD x y) else none
noncomputable def gLt : Dat→Dat→Option RV
 | .int i,.int j=>vB (decide (i < j))
 | _,_=>none
noncomputable def gLe : Dat→Dat→Option RV
 | .int i,.int j=>vB (decide (i≤j))
 | _,_=>none
noncomputable def gGt : Dat→Dat→Option RV
 | .int i,.int j=>vB (decide (j < i))
 | _,_=>none
noncomputable def gGe : Dat→Dat→Option RV
 | .int i,.int j=>vB (decide (j≤i))
 | _,_=>none
noncomputable def B64 : Int:=18446744073709551616
noncomputable def gAdd : Dat→Dat→Option RV
 | .int i,.int j=>vI (i + j)
 | .lst xs,.lst ys=>if xs.length + ys.length≤SZ then some (.new (.lst (xs ++ ys))) else none
 | _,_=>none
noncomputable def gSub : Dat→Dat→Option RV
 | .int i,.int j=>vI (i - j)
 | _,_=>none
noncomputable def gMul : Dat→Dat→Option RV
 | .int i,.int j=>if (-B64 < i∧i < B64)∨(-B64 < j∧j < B64) then vI (i * j) else none
 | .lst xs,.int k=>if k≤BIG∧-BIG≤k∧xs.length * k.toNat≤SZ then some (.new (.lst (List.replicate k.toNat xs).flatten)) else none
 | _,_=>none
noncomputable def B200 : Int:=1606938044258990275541962092341162602522202993782792835301376
noncomputable def gDiv : Dat→Dat→Option RV
 | .int i,.int j=>if 0 < j∧j < B200 then vI (i / j) else none
 | _,_=>none
noncomputable def gMod : Dat→Dat→Option RV
 | .int i,.int j=>if 0 < j then vI (i % j) else none
 | _,_=>none
noncomputable def gPow : Dat→Dat→Option RV
 | .int i,.int j=>if 0≤j∧j≤1000000∧i.natAbs < 1000000 then vI (i ^ j.toNat) else none
 | _,_=>none
noncomputable def gNeg : Dat→Option RV
 | .int i=>vI (-i)
 | _=>none
noncomputable def atI (xs : List Dat) (i : Int) : Option Dat:=(ixN xs.length i).bind fun j=>xs[j]?
noncomputable def gIx : Dat→Dat→Option RV
 | .lst xs,.int i=>(atI xs i).map .val
 | .tup xs,.int i=>(atI xs i).map .val
 | _,_=>none
noncomputable def inD (x : Dat) (xs : List Dat) : Bool:=xs.any fun y=>eqD y x
noncomputable def gIn : Dat→Dat→Option RV
 | x,.lst xs=>if okD 8 x && xs.all (okD 7) then vB (inD x xs) else none
 | x,.tup xs=>if okD 8 x && xs.all (okD 7) then vB (inD x xs) else none
 | _,_=>none
noncomputable def gNotIn : Dat→Dat→Option RV
 | x,.lst xs=>if okD 8 x && xs.all (okD 7) then vB (!inD x xs) else none
 | x,.tup xs=>if okD 8 x && xs.all (okD 7) then vB (!inD x xs) else none
 | _,_=>none
noncomputable def sIx (n d : Nat) : Option Int→Nat
 | none=>d
 | some v=>(if v < 0 then max (v + n) 0 else min v n).toNat
noncomputable def cut (xs : List Dat) (lo hi : Option Int) : List Dat:=(xs.drop (sIx xs.length 0 lo)).take (sIx xs.length xs.length hi - sIx xs.length 0 lo)
noncomputable def gLen : List Dat→Option RV
 | [.lst xs]=>vI xs.length
 | [.tup xs]=>vI xs.length
 | _=>none
noncomputable def gMin2 : List Dat→Option RV
 | [.int i,.int j]=>vI (if j < i then j else i)
 | _=>none
noncomputable def gMax2 : List Dat→Option RV
 | [.int i,.int j]=>vI (if j > i then j else i)
 | _=>none
noncomputable def gList : List Dat→Option RV
 | [.lst xs]=>some (.new (.lst xs))
 | [.tup xs]=>some (.new (.lst xs))
 | _=>none
noncomputable def isI : Dat→Bool
 | .int _=>true
 | .bl _=>true
 | _=>false
noncomputable def isB : Dat→Bool
 | .bl _=>true
 | _=>false
noncomputable def isL : Dat→Bool
 | .lst _=>true
 | _=>false
noncomputable def isT : Dat→Bool
 | .tup _=>true
 | _=>false
noncomputable def bools : List Dat→Option (List Bool)
 | []=>some []
 | .bl b :: r=>(bools r).map fun bs=>b :: bs
 | _=>none
noncomputable def gAll : List Dat→Option RV
 | [.lst xs]=>(match bools xs with
  | some bs=>vB (bs.all id)
  | none=>none)
 | _=>none
noncomputable def eChain (g h : Dat→Dat→Option RV) (a b c : FE) : FE:=fun ρ=>match a ρ with
 | none=>none
 | some (x,ρ1)=>match b ρ1 with
  | none=>none
  | some (y,ρ2)=>match pk ρ2 x with
   | none=>none
   | some d=>match pk ρ2 y with
    | none=>none
    | some e=>match g d e with
     | some (.val (.bl true))=>(match c ρ2 with
      | none=>none
      | some (z,ρ3)=>match pk ρ3 y with
       | none=>none
       | some e'=>match pk ρ3 z with
        | none=>none
        | some f=>match h e' f with
         | none=>none
         | some v=>some (v.toVal,ρ3))
     | some (.val (.bl false))=>some (.val (.bl false),ρ2)
     | _=>none
noncomputable def part : Option FE→Env→Option (Option Int×Env)
 | none,ρ=>some (none,ρ)
 | some f,ρ=>match f ρ with
  | some (.val (.int i),ρ1)=>some (some i,ρ1)
  | _=>none
noncomputable def eSl (a : FE) (lo hi : Option FE) : FE:=fun ρ=>match a ρ with
 | none=>none
 | some (x,ρ1)=>match part lo ρ1 with
  | none=>none
  | some (l,ρ2)=>match part hi ρ2 with
   | none=>none
   | some (h,ρ3)=>match pk ρ3 x with
    | some (.lst xs)=>some (.new (.lst (cut xs l h)),ρ3)
    | _=>none
noncomputable def gIs2 : Dat→Dat→Option RV
 | .bl b,.bl c=>vB (b == c)
 | _,_=>none
noncomputable def gIsNot2 : Dat→Dat→Option RV
 | .bl b,.bl c=>vB (b != c)
 | _,_=>none
noncomputable def gInt : List Dat→Option RV
 | [.int i]=>vI i
 | [.bl b]=>vI (b2i b)
 | _=>none
end _d
namespace _r
open PySem _l
mutual
inductive Rep (H : Hp) : V→_d.Dat→Prop
 | non : Rep H V.non _d.Dat.non
 | bl (b : Bool) : Rep H (V.bl b) (_d.Dat.bl b)
 | int (i : Int) : Rep H (V.int i) (_d.Dat.int i)
 | str (s : List Nat) : Rep H (V.str ⟨s.toArray⟩) (_d.Dat.str s)
 | tup {a : Addr} {xs : List V} {ds : List _d.Dat} : H a = some (.tup xs)→Reps H xs ds→Rep H (V.ref a) (_d.Dat.tup ds)
 | lst {a : Addr} {xs : List V} {ds : List _d.Dat} : Rd H a (.lst xs)→Reps H xs ds→Rep H (V.ref a) (_d.Dat.lst ds)
 | dct {a : Addr} {kvs : List (Key×V)} {ks : List Int} {ds : List _d.Dat} : H a = some (.dK kvs)→kvs.map (·.1) = ks.map Sum.inl→Reps H (kvs.map (·.2)) ds→Rep H (V.ref a) (_d.Dat.dct ks ds)
 | exc {a : Addr} {C : Nat} : H a = some (.ext fun h=>∃ o,h.get? a = some o∧o.cls = .ref C)→Rep H (V.ref a) (_d.Dat.exc C)
 | fn (a : Addr) : Rep H (V.ref a) (_d.Dat.fn a)
inductive Reps (H : Hp) : List V→List _d.Dat→Prop
 | nil : Reps H [] []
 | cons {v : V} {d : _d.Dat} {vs : List V} {ds : List _d.Dat} : Rep H v d→Reps H vs ds→Reps H (v :: vs) (d :: ds)
end
theorem Same.rd {H H' : Hp} (s : Same H H') {a : Addr} {u : HO} (h : Rd H a u) : Rd H' a u:=by
 rcases h with h | ⟨o,h⟩
 ·exact .inl (s _ _ h)
 ·exact .inr ⟨o,s _ _ h⟩
mutual
theorem Rep.mono {H H' : Hp} (s : Same H H') : ∀ {v : V} {d : _d.Dat},Rep H v d→Rep H' v d
 | _,_,.non=>.non
 | _,_,.bl b=>.bl b
 | _,_,.int i=>.int i
 | _,_,.str x=>.str x
 | _,_,.tup h r=>.tup (s _ _ h) (Reps.mono s r)
 | _,_,.lst h r=>.lst (Same.rd s h) (Reps.mono s r)
 | _,_,.dct h e r=>.dct (s _ _ h) e (Reps.mono s r)
 | _,_,.exc h=>.exc (s _ _ h)
 | _,_,.fn a=>.fn a
theorem Reps.mono {H H' : Hp} (s : Same H H') : ∀ {vs : List V} {ds : List _d.Dat},Reps H vs ds→Reps H' vs ds
 | _,_,.nil=>.nil
 | _,_,.cons h r=>.cons (Rep.mono s h) (Reps.mono s r)
end
theorem Reps.length {H : Hp} : ∀ {vs : List V} {ds : List _d.Dat},Reps H vs ds→vs.length = ds.length
 | _,_,.nil=>rfl
 | _,_,.cons _ r=>by simp [Reps.length r]
theorem Reps.get {H : Hp} : ∀ {vs : List V} {ds : List _d.Dat} {i : Nat} {d : _d.Dat},Reps H vs ds→ds[i]? = some d→∃ v,vs[i]? = some v∧Rep H v d
 | _,_,_,_,.nil,e=>by simp at e
 | _,_,0,_,.cons h _,e=>by simp at e; subst e; exact ⟨_,rfl,h⟩
 | _,_,i + 1,_,.cons _ r,e=>by
  refine bc fun ζ=>?_
  obtain ⟨v,h1,h2⟩:=Reps.get (i:=i) r (by simpa using e)
  apply ζ;clear ζ
  exact ⟨v,by simpa using h1,h2⟩
theorem Reps.append {H : Hp} : ∀ {vs ws : List V} {ds es : List _d.Dat},Reps H vs ds→Reps H ws es→Reps H (vs ++ ws) (ds ++ es)
 | _,_,_,_,.nil,s=>s
 | _,_,_,_,.cons h r,s=>.cons h (Reps.append r s)
theorem Reps.take {H : Hp} : ∀ {vs : List V} {ds : List _d.Dat} (n : Nat),Reps H vs ds→Reps H (vs.take n) (ds.take n)
 | _,_,0,_=>by simpa using Reps.nil
 | _,_,_ + 1,.nil=>by simpa using Reps.nil
 | _,_,n + 1,.cons h r=>by simpa using Reps.cons h (Reps.take n r)
theorem Reps.drop {H : Hp} : ∀ {vs : List V} {ds : List _d.Dat} (n : Nat),Reps H vs ds→Reps H (vs.drop n) (ds.drop n)
 | _,_,0,r=>by simpa using r
 | _,_,_ + 1,.nil=>by simpa using Reps.nil
 | _,_,n + 1,.cons _ r=>by simpa using Reps.drop n r
theorem Reps.set {H : Hp} {v : V} {d : _d.Dat} (h : Rep H v d) : ∀ {vs : List V} {ds : List _d.Dat} (i : Nat),Reps H vs ds→Reps H (vs.set i v) (ds.set i d)
 | _,_,_,.nil=>.nil
 | _,_,0,.cons _ r=>.cons h r
 | _,_,i + 1,.cons q r=>.cons q (Reps.set h i r)
theorem Reps.rep {H : Hp} {vs : List V} {ds : List _d.Dat} (r : Reps H vs ds) : ∀ k : Nat,Reps H (List.replicate k vs).flatten (List.replicate k ds).flatten
 | 0=>by simpa using Reps.nil
 | k + 1=>by
  rw [List.replicate_succ,List.replicate_succ,List.flatten_cons,List.flatten_cons]
  exact Reps.append r (Reps.rep r k)
noncomputable def Own (H0 H : Hp) (a : Addr) : _d.Dat→Prop
 | .lst ds=>∃ xs,H a = some (.lst xs)∧Reps H0 xs ds
 | .dct ks ds=>∃ kvs : List (Key×V),H a = some (.dK kvs)∧kvs.map (·.1) = ks.map Sum.inl∧Reps H0 (kvs.map (·.2)) ds
 | _=>False
theorem Own.some {H0 H : Hp} {a : Addr} {d : _d.Dat} (h : Own H0 H a d) : ∃ o,H a = some o:=by
 cases d with
 | lst ds=>obtain ⟨xs,e,_⟩:=h; exact ⟨_,e⟩
 | dct ks ds=>obtain ⟨xs,e,_⟩:=h; exact ⟨_,e⟩
 | _=>exact False.elim h
theorem Own.mono {H0 H H0' H' : Hp} {a : Addr} {d : _d.Dat} (h : Own H0 H a d) (s : Same H0 H0') (e : H' a = H a) : Own H0' H' a d:=by
 cases d with
 | lst ds=>obtain ⟨xs,q,r⟩:=h; exact ⟨xs,by rw [e]; exact q,r.mono s⟩
 | dct ks ds=>obtain ⟨xs,q,k,r⟩:=h; exact ⟨xs,by rw [e]; exact q,k,r.mono s⟩
 | _=>exact False.elim h
noncomputable def RepO (H0 H : Hp) (v : V) (d : _d.Dat) : Prop:=Rep H0 v d∨∃ a,v = V.ref a∧Own H0 H a d
inductive RepOs (H0 H : Hp) : List V→List _d.Dat→Prop
 | nil : RepOs H0 H [] []
 | cons {v : V} {d : _d.Dat} {vs : List V} {ds : List _d.Dat} : RepO H0 H v d→RepOs H0 H vs ds→RepOs H0 H (v :: vs) (d :: ds)
noncomputable def shr (H0 H : Hp) (a : Addr) : Hp:=fun b=>if b = a then H a else H0 b
theorem shr_self {H0 H : Hp} {a : Addr} : shr H0 H a a = H a:=by unfold shr; rw [if_pos rfl]
theorem shr_ne {H0 H : Hp} {a b : Addr} (h : b≠a) : shr H0 H a b = H0 b:=by unfold shr; rw [if_neg h]
theorem shr_same {H0 H : Hp} {a : Addr} (h : H0 a = none) : Same H0 (shr H0 H a):=fun b o e=>by
 by_cases q : b = a
 ·subst q; rw [h] at e; cases e
 ·rw [shr_ne q]; exact e
theorem shr_sub {H0 H : Hp} {a : Addr} (s : Same H0 H) : Same (shr H0 H a) H:=fun b o e=>by
 by_cases q : b = a
 ·subst q; rw [shr_self] at e; exact e
 ·rw [shr_ne q] at e; exact s _ _ e
theorem Own.rep {H0 H : Hp} {a : Addr} {d : _d.Dat} (h : Own H0 H a d) (n : H0 a = none) : Rep (shr H0 H a) (V.ref a) d:=by
 cases d with
 | lst ds=>obtain ⟨xs,q,r⟩:=h; exact .lst (.inl (by rw [shr_self]; exact q)) (r.mono (shr_same n))
 | dct ks ds=>obtain ⟨xs,q,k,r⟩:=h; exact .dct (by rw [shr_self]; exact q) k (r.mono (shr_same n))
 | _=>exact False.elim h
noncomputable def Owned (σ : St) (ρ : _d.Env) (a : Addr) : Prop:=∃ (i : Nat) (d : _d.Dat),ρ[i]? = some (_d.Cell.ow d)∧σ[i]? = some (some (V.ref a))
noncomputable abbrev Def (_ : _d.Env) (_ : Nat) : Prop:=True
structure RepSt (H0 H : Hp) (σ : St) (ρ : _d.Env) : Prop where
 same : Same H0 H
 len : σ.length = ρ.length
 sh : ∀ (i : Nat) (d : _d.Dat),ρ[i]? = some (_d.Cell.sh d)→∃ v,σ[i]? = some (some v)∧Rep H0 v d
 ow : ∀ (i : Nat) (d : _d.Dat),ρ[i]? = some (_d.Cell.ow d)→∃ a,σ[i]? = some (some (V.ref a))∧H0 a = none∧Own H0 H a d
 dis : ∀ (i j : Nat) (d e : _d.Dat) (a : Addr),ρ[i]? = some (_d.Cell.ow d)→ρ[j]? = some (_d.Cell.ow e)→σ[i]? = some (some (V.ref a))→σ[j]? = some (some (V.ref a))→i = j
structure Stp (O : Addr→Prop) (H0 H H0' H' : Hp) : Prop where
 s0 : Same H0 H0'
 s1 : ∀ a o,H a = some o→¬ O a→H' a = some o
 s2 : ∀ a o,H0' a = some o→H a = none∨H0 a = some o∨O a
 s3 : ∀ a o,H a = some o→∃ o',H' a = some o'
theorem Stp.refl (O : Addr→Prop) (H0 H : Hp) : Stp O H0 H H0 H:=⟨Same.refl _,fun _ _ e _=>e,fun _ _ e=>.inr (.inl e),fun _ o e=>⟨o,e⟩⟩
theorem Stp.gone {O : Addr→Prop} {H0 H H0' H' : Hp} (t : Stp O H0 H H0' H') {a : Addr} (h : H' a = none) : H a = none:=by
 cases q : H a with
 | none=>rfl
 | some o=>obtain ⟨o',e⟩:=t.s3 a o q; rw [h] at e; cases e
theorem Stp.trans {O1 O2 : Addr→Prop} {H0 H H1 H' H2 H'' : Hp} (t : Stp O1 H0 H H1 H') (u : Stp O2 H1 H' H2 H'') (k : ∀ a,O2 a→O1 a∨H a = none) : Stp O1 H0 H H2 H'' where
 s0:=t.s0.trans u.s0
 s1:=fun a o e n=>u.s1 a o (t.s1 a o e n) fun z=>(k a z).elim n fun q=>by rw [q] at e; cases e
 s2:=fun a o e=>by
  rcases u.s2 a o e with q | q | q
  ·exact .inl (t.gone q)
  ·exact t.s2 a o q
  ·rcases k a q with z | z
   ·exact .inr (.inr z)
   ·exact .inl z
 s3:=fun a o e=>by
  obtain ⟨o',e'⟩:=t.s3 a o e
  exact u.s3 a o' e'
theorem Stp.wide {O O' : Addr→Prop} {H0 H H0' H' : Hp} (t : Stp O H0 H H0' H') (k : ∀ a,O a→O' a) : Stp O' H0 H H0' H' :=
 ⟨t.s0,fun a o e n=>t.s1 a o e fun z=>n (k a z),fun a o e=>(t.s2 a o e).imp id (Or.imp id (k a)),t.s3⟩
structure Grow (H0 H H0' H' : Hp) : Prop where
 s0 : Same H0 H0'
 s1 : Same H H'
 s2 : ∀ a o,H0' a = some o→H a = none∨H0 a = some o
 s3 : Same H0' H'
theorem Grow.refl {H0 H : Hp} (s : Same H0 H) : Grow H0 H H0 H:=⟨Same.refl _,Same.refl _,fun _ _ e=>.inr e,s⟩
theorem Grow.stp {H0 H H0' H' : Hp} (g : Grow H0 H H0' H') (O : Addr→Prop) : Stp O H0 H H0' H' :=
 ⟨g.s0,fun a o e _=>g.s1 a o e,fun a o e=>(g.s2 a o e).imp id .inl,fun a o e=>⟨o,g.s1 a o e⟩⟩
theorem Grow.newS {H0 H : Hp} (s : Same H0 H) {p : Addr} {o : HO} (n : H p = none) : Grow H0 H (upd H0 p o) (upd H p o) where
 s0:=fun b u e=>by rw [upd_ne (ne_of_none e (s.free n))]; exact e
 s1:=fun b u e=>by rw [upd_ne (ne_of_none e n)]; exact e
 s2:=fun b u e=>by
  by_cases q : b = p
  ·subst q; exact .inl n
  ·rw [upd_ne q] at e; exact .inr e
 s3:=fun b u e=>by
  by_cases q : b = p
  ·subst q; rw [upd_same] at e ⊢; exact e
  ·rw [upd_ne q] at e ⊢; exact s _ _ e
theorem Grow.newO {H0 H : Hp} (s : Same H0 H) {p : Addr} {o : HO} (n : H p = none) : Grow H0 H H0 (upd H p o) where
 s0:=Same.refl _
 s1:=fun b u e=>by rw [upd_ne (ne_of_none e n)]; exact e
 s2:=fun b u e=>.inr e
 s3:=fun b u e=>by rw [upd_ne (ne_of_none (s _ _ e) n)]; exact s _ _ e
noncomputable def RepV (Hs H0 H : Hp) (σ : St) (ρ : _d.Env) (v : V) : _d.Val→Prop
 | .val d=>Rep H0 v d
 | .slot i=>σ[i]? = some (some v)∧Def ρ i
 | .new d=>∃ a,v = V.ref a∧Hs a = none∧¬ Owned σ ρ a∧H0 a = none∧Own H0 H a d
structure ESt (σ : St) (ρ : _d.Env) (H0 H : Hp) (ρ' : _d.Env) (H0' H' : Hp) : Prop where
 st : RepSt H0' H' σ ρ'
 stp : Stp (Owned σ ρ) H0 H H0' H'
 own : ∀ a,Owned σ ρ' a→Owned σ ρ a
 dfn : ∀ i,Def ρ i→Def ρ' i
theorem ESt.refl {σ : St} {ρ : _d.Env} {H0 H : Hp} (st : RepSt H0 H σ ρ) : ESt σ ρ H0 H ρ H0 H:=⟨st,Stp.refl _ _ _,fun _ z=>z,fun _ z=>z⟩
theorem ESt.trans {σ : St} {ρ ρ1 ρ2 : _d.Env} {H0 H H1 H' H2 H'' : Hp} (t : ESt σ ρ H0 H ρ1 H1 H') (u : ESt σ ρ1 H1 H' ρ2 H2 H'') : ESt σ ρ H0 H ρ2 H2 H'' :=
 ⟨u.st,t.stp.trans u.stp fun a z=>.inl (t.own a z),fun a z=>t.own a (u.own a z),fun i z=>u.dfn i (t.dfn i z)⟩
theorem RepSt.grow {σ : St} {ρ : _d.Env} {H0 H H0' H' : Hp} (st : RepSt H0 H σ ρ) (g : Grow H0 H H0' H') : RepSt H0' H' σ ρ where
 same:=g.s3
 len:=st.len
 sh:=fun i d e=>by
  obtain ⟨v,q,r⟩:=st.sh i d e
  exact ⟨v,q,r.mono g.s0⟩
 ow:=fun i d e=>by
  obtain ⟨a,q,n,w⟩:=st.ow i d e
  obtain ⟨o,z⟩:=w.some
  refine ⟨a,q,?_,w.mono g.s0 ((g.s1 a o z).trans z.symm)⟩
  cases y : H0' a with
  | none=>rfl
  | some u =>
   rcases g.s2 a u y with k | k
   ·rw [z] at k; cases k
   ·rw [n] at k; cases k
 dis:=st.dis
theorem ESt.grow {σ : St} {ρ : _d.Env} {H0 H H0' H' : Hp} (st : RepSt H0 H σ ρ) (g : Grow H0 H H0' H') : ESt σ ρ H0 H ρ H0' H' :=
 ⟨st.grow g,g.stp _,fun _ z=>z,fun _ z=>z⟩
theorem RepV.mono {Hs H0 H H0' H' : Hp} {σ : St} {ρ ρ' : _d.Env} {v : V} {x : _d.Val} (r : RepV Hs H0 H σ ρ v x) (t : ESt σ ρ H0 H ρ' H0' H') : RepV Hs H0' H' σ ρ' v x:=by
 cases x with
 | val d=>exact Rep.mono t.stp.s0 r
 | slot i=>exact ⟨r.1,t.dfn i r.2⟩
 | new d =>
  obtain ⟨a,e,n,no,n0,w⟩:=r
  obtain ⟨o,z⟩:=w.some
  refine ⟨a,e,n,fun y=>no (t.own a y),?_,w.mono t.stp.s0 ((t.stp.s1 a o z no).trans z.symm)⟩
  cases y : H0' a with
  | none=>rfl
  | some u =>
   rcases t.stp.s2 a u y with k | k | k
   ·rw [z] at k; cases k
   ·rw [n0] at k; cases k
   ·exact absurd k no
theorem RepV.early {Hs Hs' H0 H : Hp} {σ : St} {ρ : _d.Env} {v : V} {x : _d.Val} (r : RepV Hs H0 H σ ρ v x) (k : ∀ a,Hs a = none→Hs' a = none) : RepV Hs' H0 H σ ρ v x:=by
 cases x with
 | val d=>exact r
 | slot i=>exact r
 | new d=>obtain ⟨a,e,n,z⟩:=r; exact ⟨a,e,k a n,z⟩
theorem RepV.look {Hs H0 H : Hp} {σ : St} {ρ : _d.Env} {v : V} {x : _d.Val} {d : _d.Dat} (r : RepV Hs H0 H σ ρ v x) (st : RepSt H0 H σ ρ) (e : _d.pk ρ x = some d) : RepO H0 H v d:=by
 cases x with
 | val d'=>cases e; exact .inl r
 | new d' =>
  cases e
  obtain ⟨a,e,_,_,_,w⟩:=r
  exact .inr ⟨a,e,w⟩
 | slot i =>
  obtain ⟨q,_⟩:=r
  unfold _d.pk at e
  dsimp only at e
  split at e
  ·rename_i d' h
   cases e
   obtain ⟨a,z,_,w⟩:=st.ow i d h
   rw [q] at z
   cases z
   exact .inr ⟨a,rfl,w⟩
  ·rename_i d' h
   cases e
   obtain ⟨u,z,w⟩:=st.sh i d h
   rw [q] at z
   cases z
   exact .inl w
  ·contradiction
noncomputable def RepR (Hs H0 H : Hp) (v : V) : _d.RV→Prop
 | .val d=>Rep H0 v d
 | .new d=>∃ a,v = V.ref a∧Hs a = none∧H0 a = none∧Own H0 H a d
theorem RepR.toV {H H0' H' H0 : Hp} {σ : St} {ρ : _d.Env} {v : V} {z : _d.RV} (r : RepR H H0' H' v z) (st : RepSt H0 H σ ρ) : RepV H H0' H' σ ρ v z.toVal:=by
 cases z with
 | val d=>exact r
 | new d =>
  obtain ⟨a,e,n,n0,w⟩:=r
  refine ⟨a,e,n,fun ⟨i,d',h1,h2⟩=>?_,n0,w⟩
  obtain ⟨a',q,_,w'⟩:=st.ow i d' h1
  rw [h2] at q
  cases q
  obtain ⟨o,z⟩:=w'.some
  rw [n] at z; cases z
noncomputable def tD (f : _d.FE) : TE:=fun σ H Q=>∃ H0 ρ x ρ',RepSt H0 H σ ρ∧f ρ = some (x,ρ')∧∀ v H0' H',ESt σ ρ H0 H ρ' H0' H'→RepV H H0' H' σ ρ' v x→Q v H'
noncomputable def tDT (f : _d.FT) : TT:=fun σ H Q=>∃ H0 ρ b ρ',RepSt H0 H σ ρ∧f ρ = some (b,ρ')∧∀ H0' H',ESt σ ρ H0 H ρ' H0' H'→Q b H'
inductive RepVs (Hs H0 H : Hp) (σ : St) (ρ : _d.Env) : List V→List _d.Val→Prop
 | nil : RepVs Hs H0 H σ ρ [] []
 | cons {v : V} {x : _d.Val} {vs : List V} {xs : List _d.Val} : RepV Hs H0 H σ ρ v x→RepVs Hs H0 H σ ρ vs xs→RepVs Hs H0 H σ ρ (v :: vs) (x :: xs)
noncomputable def tDA (fs : List _d.FE) : TA:=fun σ H Q=>∃ H0 ρ xs ρ',RepSt H0 H σ ρ∧_d.eAs fs ρ = some (xs,ρ')∧∀ vs H0' H',ESt σ ρ H0 H ρ' H0' H'→RepVs H H0' H' σ ρ' vs xs→Q vs H'
noncomputable abbrev DE (X : Cx) (e : Expr) (f : _d.FE) : Prop:=PE X e (tD f)
noncomputable abbrev DT (X : Cx) (e : Expr) (f : _d.FT) : Prop:=PT X e (tDT f)
noncomputable abbrev DA (X : Cx) (es : List Expr) (fs : List _d.FE) : Prop:=PA X es (tDA fs)
theorem PE.weak {X : Cx} {e : Expr} {t t' : TE} (h : PE X e t) (k : ∀ σ H Q,t' σ H Q→t σ H Q) : PE X e t':=fun pins s σ H Q I q=>h pins s σ H Q I (k σ H Q q)
theorem PT.weak {X : Cx} {e : Expr} {t t' : TT} (h : PT X e t) (k : ∀ σ H Q,t' σ H Q→t σ H Q) : PT X e t':=fun pins s σ H Q I q=>h pins s σ H Q I (k σ H Q q)
theorem PA.weak {X : Cx} {es : List Expr} {t t' : TA} (h : PA X es t) (k : ∀ σ H Q,t' σ H Q→t σ H Q) : PA X es t':=fun pos pins s σ H Q I q=>h pos pins s σ H Q I (k σ H Q q)
theorem PS.weak {X : Cx} {st : Stmt} {t t' : TS} (h : PS X st t) (k : ∀ D σ H,t' D σ H→t D σ H) : PS X st t':=fun pins s σ H D I q=>h pins s σ H D I (k D σ H q)
theorem PSs.weak {X : Cx} {st : List Stmt} {t t' : TS} (h : PSs X st t) (k : ∀ D σ H,t' D σ H→t D σ H) : PSs X st t':=fun pins s σ H D I q=>h pins s σ H D I (k D σ H q)
theorem shr_same' {H0 H : Hp} {a : Addr} (s : Same H0 H) : Same H0 (shr H0 H a):=fun b o e=>by
 by_cases q : b = a
 ·subst q; rw [shr_self]; exact s _ _ e
 ·rw [shr_ne q]; exact e
theorem Own.rep' {H0 H0c H : Hp} {a : Addr} {d : _d.Dat} (h : Own H0 H a d) (b : Same H0 H0c) (s : Same H0c H) : Rep (shr H0c H a) (V.ref a) d:=by
 cases d with
 | lst ds=>obtain ⟨xs,q,r⟩:=h; exact .lst (.inl (by rw [shr_self]; exact q)) (r.mono (b.trans (shr_same' s)))
 | dct ks ds=>obtain ⟨xs,q,k,r⟩:=h; exact .dct (by rw [shr_self]; exact q) k (r.mono (b.trans (shr_same' s)))
 | _=>exact False.elim h
theorem RepV.rho {Hs H0 H : Hp} {σ : St} {ρ ρ' : _d.Env} {v : V} {x : _d.Val} (r : RepV Hs H0 H σ ρ v x) (o : ∀ a,Owned σ ρ' a→Owned σ ρ a) (d : ∀ i,Def ρ i→Def ρ' i) : RepV Hs H0 H σ ρ' v x:=by
 cases x with
 | val d=>exact r
 | slot i=>exact ⟨r.1,d i r.2⟩
 | new d=>obtain ⟨a,e,n,no,z⟩:=r; exact ⟨a,e,n,fun y=>no (o a y),z⟩
theorem RepVs.rho {Hs H0 H : Hp} {σ : St} {ρ ρ' : _d.Env} (o : ∀ a,Owned σ ρ' a→Owned σ ρ a) (d : ∀ i,Def ρ i→Def ρ' i) : ∀ {vs : List V} {xs : List _d.Val},RepVs Hs H0 H σ ρ vs xs→RepVs Hs H0 H σ ρ' vs xs
 | _,_,.nil=>.nil
 | _,_,.cons h r=>.cons (h.rho o d) (RepVs.rho o d r)
theorem RepVs.early {Hs Hs' H0 H : Hp} {σ : St} {ρ : _d.Env} (k : ∀ a,Hs a = none→Hs' a = none) : ∀ {vs : List V} {xs : List _d.Val},RepVs Hs H0 H σ ρ vs xs→RepVs Hs' H0 H σ ρ vs xs
 | _,_,.nil=>.nil
 | _,_,.cons h r=>.cons (h.early k) (RepVs.early k r)
theorem set_get {ρ : _d.Env} {i j : Nat} {c d : _d.Cell} (h : (ρ.set i c)[j]? = some d) : (j = i∧d = c)∨(j≠i∧ρ[j]? = some d):=by
 by_cases e : j = i
 ·subst e
  by_cases l : j < ρ.length
  ·rw [List.getElem?_set_self l] at h
   exact .inl ⟨rfl,(Option.some.inj h).symm⟩
  ·rw [List.getElem?_eq_none (by simpa using Nat.not_lt.mp l)] at h
   cases h
 ·rw [List.getElem?_set_ne (Ne.symm e)] at h
  exact .inr ⟨e,h⟩
theorem share_slot {H0 H : Hp} {σ : St} {ρ : _d.Env} {i : Nat} {a : Addr} {d : _d.Dat} (st : RepSt H0 H σ ρ) (e : ρ[i]? = some (.ow d)) (q : σ[i]? = some (some (V.ref a))) :
  RepSt (shr H0 H a) H σ (ρ.set i (.sh d))∧(∀ b,Owned σ (ρ.set i (.sh d)) b→Owned σ ρ b)∧∀ j,Def ρ j→Def (ρ.set i (.sh d)) j:=by
 refine bc fun ζ=>?_
 obtain ⟨a',q',n,w⟩:=st.ow i d e
 apply ζ;clear ζ
 rw [q] at q'
 cases q'
 have hil : i < ρ.length:=(List.getElem?_eq_some_iff.mp e).1
 refine ⟨⟨shr_sub st.same,by rw [List.length_set]; exact st.len,fun j d' h=>?_,fun j d' h=>?_,fun j k d1 d2 b h1 h2 h3 h4=>?_⟩,fun b ⟨j,d',h1,h2⟩=>?_,fun j h=>?_⟩
 ·rcases set_get h with ⟨rfl,z⟩ | ⟨_,h⟩
  ·cases z
   exact ⟨_,q,w.rep n⟩
  ·refine bc fun ζ=>?_
   obtain ⟨v,z,r⟩:=st.sh j d' h
   exact ζ (⟨v,z,r.mono (shr_same n)⟩)
 ·rcases set_get h with ⟨_,z⟩ | ⟨hj,h⟩
  ·contradiction
  ·refine bc fun ζ=>?_
   obtain ⟨b,z,n',w'⟩:=st.ow j d' h
   apply ζ;clear ζ
   have nb : b≠a:=fun y=>hj (st.dis j i d' d a h e (y ▸ z) q)
   exact ⟨b,z,by rw [shr_ne nb]; exact n',w'.mono (shr_same n) rfl⟩
 ·rcases set_get h1 with ⟨_,z⟩ | ⟨_,h1⟩
  ·contradiction
  ·rcases set_get h2 with ⟨_,z⟩ | ⟨_,h2⟩
   ·contradiction
   ·exact st.dis j k d1 d2 b h1 h2 h3 h4
 ·rcases set_get h1 with ⟨_,z⟩ | ⟨_,h1⟩
  ·contradiction
  ·exact ⟨j,d',h1,h2⟩
 ·trivial
theorem share_new {H0 H : Hp} {σ : St} {ρ : _d.Env} {a : Addr} (st : RepSt H0 H σ ρ) (no : ¬ Owned σ ρ a) : RepSt (shr H0 H a) H σ ρ where
 same:=shr_sub st.same
 len:=st.len
 sh:=fun j d h=>by
  obtain ⟨v,z,r⟩:=st.sh j d h
  exact ⟨v,z,r.mono (shr_same' st.same)⟩
 ow:=fun j d h=>by
  obtain ⟨b,z,n',w'⟩:=st.ow j d h
  have nb : b≠a:=fun y=>no ⟨j,d,h,y ▸ z⟩
  exact ⟨b,z,by rw [shr_ne nb]; exact n',w'.mono (shr_same' st.same) rfl⟩
 dis:=st.dis
theorem take1 {Hs H0s H0 H0c H : Hp} {σ : St} {ρs ρ ρ' : _d.Env} {v : V} {x : _d.Val} {d : _d.Dat} (t : ESt σ ρs H0s Hs ρ H0c H) (b : Same H0 H0c) (r : RepV Hs H0 H σ ρ v x) (e : _d.tk ρ x = some (d,ρ')) :
  ∃ H0c',ESt σ ρs H0s Hs ρ' H0c' H∧Same H0c H0c'∧Rep H0c' v d∧(∀ a,Owned σ ρ' a→Owned σ ρ a)∧∀ i,Def ρ i→Def ρ' i:=by
 cases x with
 | val d'=>cases e; exact ⟨H0c,t,Same.refl _,Rep.mono b r,fun _ z=>z,fun _ z=>z⟩
 | new d' =>
  cases e
  refine bc fun ζ=>?_
  obtain ⟨a,e,n,no,n0,w⟩:=r
  subst e
  apply ζ;clear ζ
  have ss:=shr_same' (a:=a) t.st.same
  refine ⟨shr H0c H a,⟨share_new t.st no,⟨t.stp.s0.trans ss,t.stp.s1,fun c o q=>?_,t.stp.s3⟩,t.own,t.dfn⟩,ss,w.rep' b t.st.same,fun _ z=>z,fun _ z=>z⟩
  by_cases y : c = a
  ·subst y; exact .inl n
  ·rw [shr_ne y] at q; exact t.stp.s2 c o q
 | slot i =>
  obtain ⟨q,_⟩:=r
  unfold _d.tk at e
  dsimp only at e
  split at e
  ·rename_i d' h
   cases e
   refine bc fun ζ=>?_
   obtain ⟨a,z,n,w⟩:=t.st.ow i _ h
   rw [q] at z
   cases z
   obtain ⟨s1,s2,s3⟩:=share_slot t.st h q
   apply ζ;clear ζ
   have ss:=shr_same' (a:=a) t.st.same
   refine ⟨shr H0c H a,⟨s1,⟨t.stp.s0.trans ss,t.stp.s1,fun c o q'=>?_,t.stp.s3⟩,fun b z=>t.own b (s2 b z),fun j z=>s3 j (t.dfn j z)⟩,ss,w.rep' (Same.refl _) t.st.same,s2,s3⟩
   by_cases y : c = a
   ·subst y; exact .inr (.inr (t.own c ⟨i,_,h,q⟩))
   ·rw [shr_ne y] at q'; exact t.stp.s2 c o q'
  ·rename_i d' h
   cases e
   refine bc fun ζ=>?_
   obtain ⟨u,z,w⟩:=t.st.sh i _ h
   rw [q] at z
   cases z
   exact ζ (⟨H0c,t,Same.refl _,w,fun _ z=>z,fun _ z=>z⟩)
  ·contradiction
theorem takes {Hs H0s H0 H : Hp} {σ : St} {ρs : _d.Env} : ∀ {xs : List _d.Val} {vs : List V} {ρ ρ' : _d.Env} {ds : List _d.Dat} {H0c : Hp},ESt σ ρs H0s Hs ρ H0c H→Same H0 H0c→RepVs Hs H0 H σ ρ vs xs→_d.tks ρ xs = some (ds,ρ') →
  ∃ H0c',ESt σ ρs H0s Hs ρ' H0c' H∧Same H0c H0c'∧Reps H0c' vs ds
 | [],_,ρ,ρ',ds,H0c,t,b,r,e=>by
  cases r
  cases e
  exact ⟨H0c,t,Same.refl _,.nil⟩
 | x :: xs,_,ρ,ρ',ds,H0c,t,b,r,e=>by
  cases r with
  | cons h r =>
   unfold _d.tks at e
   split at e
   ·contradiction
   ·rename_i d ρ1 e1
    split at e
    ·contradiction
    ·rename_i ds' ρ2 e2
     cases e
     refine bc fun ζ=>?_
     obtain ⟨H1,t1,b1,r1,o1,d1⟩:=take1 t b h e1
     obtain ⟨H2,t2,b2,r2⟩:=takes t1 (b.trans b1) (r.rho o1 d1) e2
     exact ζ (⟨H2,t2,b1.trans b2,.cons (r1.mono b2) r2⟩)
theorem pk_tk {ρ ρ' : _d.Env} {x : _d.Val} {d : _d.Dat} (e : _d.tk ρ x = some (d,ρ')) (y : _d.Val) : _d.pk ρ' y = _d.pk ρ y:=by
 cases x with
 | val d'=>cases e; rfl
 | new d'=>cases e; rfl
 | slot i =>
  unfold _d.tk at e
  dsimp only at e
  split at e
  ·rename_i d' h
   cases e
   cases y with
   | val _=>rfl
   | new _=>rfl
   | slot j =>
    unfold _d.pk
    dsimp only
    by_cases z : j = i
    ·subst z
     rw [List.getElem?_set_self (List.getElem?_eq_some_iff.mp h).1,h]
    ·rw [List.getElem?_set_ne (Ne.symm z)]
  ·cases e; rfl
  ·contradiction
theorem tk_of_pk {ρ : _d.Env} {x : _d.Val} {d : _d.Dat} (e : _d.pk ρ x = some d) : ∃ ρ',_d.tk ρ x = some (d,ρ'):=by
 cases x with
 | val d'=>cases e; exact ⟨ρ,rfl⟩
 | new d'=>cases e; exact ⟨ρ,rfl⟩
 | slot i =>
  unfold _d.pk at e
  dsimp only at e
  unfold _d.tk
  dsimp only
  split at e
  ·rename_i d' h; cases e; exact ⟨_,rfl⟩
  ·rename_i d' h; cases e; exact ⟨_,rfl⟩
  ·contradiction
theorem tks_of_pks : ∀ {xs : List _d.Val} {ρ : _d.Env} {ds : List _d.Dat},_d.pks ρ xs = some ds→∃ ρ',_d.tks ρ xs = some (ds,ρ')
 | [],ρ,ds,e=>by cases e; exact ⟨ρ,rfl⟩
 | x :: xs,ρ,ds,e=>by
  unfold _d.pks at e
  split at e
  ·contradiction
  ·rename_i d e1
   split at e
   ·contradiction
   ·rename_i ds' e2
    cases e
    obtain ⟨ρ1,h1⟩:=tk_of_pk e1
    have key : ∀ ys : List _d.Val,_d.pks ρ1 ys = _d.pks ρ ys:=fun ys=>by
     induction ys with
     | nil=>rfl
     | cons y ys ih=>unfold _d.pks; rw [pk_tk h1 y,ih]
    obtain ⟨ρ2,h2⟩:=tks_of_pks (xs:=xs) (ρ:=ρ1) (ds:=ds') (by rw [key]; exact e2)
    exact ⟨ρ2,by unfold _d.tks; rw [h1]; dsimp only; rw [h2]⟩
theorem looks {Hs H0 H : Hp} {σ : St} {ρ : _d.Env} (st : RepSt H0 H σ ρ) : ∀ {xs : List _d.Val} {vs : List V} {ds : List _d.Dat},RepVs Hs H0 H σ ρ vs xs→_d.pks ρ xs = some ds→RepOs H0 H vs ds
 | [],_,ds,r,e=>by cases r; cases e; exact .nil
 | x :: xs,_,ds,r,e=>by
  cases r with
  | cons h r =>
   unfold _d.pks at e
   split at e
   ·contradiction
   ·rename_i d e1
    split at e
    ·contradiction
    ·rename_i ds' e2
     cases e
     exact .cons (h.look st e1) (looks st r e2)
noncomputable def OpD (r : R2) (g : _d.Dat→_d.Dat→Option _d.RV) : Prop:=∀ (H0 H : Hp) (x y : V) (dx dy : _d.Dat) (z : _d.RV) (Q : VK),Same H0 H→RepO H0 H x dx→RepO H0 H y dy→g dx dy = some z →
 (∀ v H0' H',Grow H0 H H0' H'→RepR H H0' H' v z→Q v H')→r x y H Q
noncomputable def UnD (r : V→Hp→VK→Prop) (g : _d.Dat→Option _d.RV) : Prop:=∀ (H0 H : Hp) (x : V) (dx : _d.Dat) (z : _d.RV) (Q : VK),Same H0 H→RepO H0 H x dx→g dx = some z →
 (∀ v H0' H',Grow H0 H H0' H'→RepR H H0' H' v z→Q v H')→r x H Q
noncomputable def CallD (r : List V→Hp→VK→Prop) (g : List _d.Dat→Option _d.RV) : Prop:=∀ (H0 H : Hp) (vs : List V) (ds : List _d.Dat) (z : _d.RV) (Q : VK),Same H0 H→RepOs H0 H vs ds→g ds = some z →
 (∀ v H0' H',Grow H0 H H0' H'→RepR H H0' H' v z→Q v H')→r vs H Q
noncomputable def spD (f : List _d.Dat→Option _d.RV) : Sp:=fun vs H Q _=>∃ H0 ds z,Same H0 H∧Reps H0 vs ds∧f ds = some z∧∀ v H0' H',Grow H0 H H0' H'→RepR H H0' H' v z→Q v H'
section
variable {σ : St} {H : Hp} {Q : VK}
theorem r_var {i : Nat} (h : tD (_d.eV i) σ H Q) : tVar i σ H Q:=by
 obtain ⟨H0,ρ,x,ρ',st,e,k⟩:=h
 unfold _d.eV at e
 split at e
 ·rename_i d h1
  cases e
  refine bc fun ζ=>?_
  obtain ⟨v,q,r⟩:=st.sh i d h1
  exact ζ (⟨v,q,k v H0 H (.refl st) r⟩)
 ·rename_i d h1
  cases e
  refine bc fun ζ=>?_
  obtain ⟨a,q,_⟩:=st.ow i d h1
  exact ζ (⟨_,q,k _ H0 H (.refl st) ⟨q,trivial⟩⟩)
 ·contradiction
theorem r_const {d : _d.Dat} {v : V} (c : ∀ H0 : Hp,Rep H0 v d) (h : tD (_d.eC d) σ H Q) : tC v σ H Q:=by
 obtain ⟨H0,ρ,x,ρ',st,e,k⟩:=h
 cases e
 exact k v H0 H (.refl st) (c H0)
theorem r_e2 {r : R2} {g : _d.Dat→_d.Dat→Option _d.RV} {fa fb : _d.FE} (o : OpD r g) (h : tD (_d.e2 g fa fb) σ H Q) : tOp r (tD fa) (tD fb) σ H Q:=by
 refine bc fun ζ=>?_
 obtain ⟨H0,ρ,x,ρ',st,e,k⟩:=h
 unfold _d.e2 at e
 split at e
 ·contradiction
 rename_i x1 ρ1 e1
 split at e
 ·contradiction
 rename_i y1 ρ2 e2
 split at e
 ·contradiction
 rename_i dx p1
 split at e
 ·contradiction
 rename_i dy p2
 split at e
 ·contradiction
 rename_i z gz
 cases e
 apply ζ;clear ζ
 refine ⟨H0,ρ,x1,ρ1,st,e1,fun v H1 Hb t1 r1=>⟨H1,ρ1,y1,_,t1.st,e2,fun u H2 Hc t2 r2=>?_⟩⟩
 refine o H2 Hc v u dx dy z Q t2.st.same ((r1.mono t2).look t2.st p1) (r2.look t2.st p2) gz fun w H3 Hd g3 r3=>?_
 exact k w H3 Hd (t1.trans (t2.trans (.grow t2.st g3))) ((r3.toV t2.st).early fun a n=>(t1.trans t2).stp.gone n)
theorem r_e1 {r : V→Hp→VK→Prop} {g : _d.Dat→Option _d.RV} {fa : _d.FE} (o : UnD r g) (h : tD (_d.e1 g fa) σ H Q) : tUn r (tD fa) σ H Q:=by
 refine bc fun ζ=>?_
 obtain ⟨H0,ρ,x,ρ',st,e,k⟩:=h
 unfold _d.e1 at e
 split at e
 ·contradiction
 rename_i x1 ρ1 e1
 split at e
 ·contradiction
 rename_i dx p1
 split at e
 ·contradiction
 rename_i z gz
 cases e
 apply ζ;clear ζ
 refine ⟨H0,ρ,x1,_,st,e1,fun v H1 Hb t1 r1=>?_⟩
 refine o H1 Hb v dx z Q t1.st.same (r1.look t1.st p1) gz fun w H3 Hd g3 r3=>?_
 exact k w H3 Hd (t1.trans (.grow t1.st g3)) ((r3.toV t1.st).early fun a n=>t1.stp.gone n)
theorem r_nil {Q : List V→Hp→Prop} (h : tDA [] σ H Q) : tNil σ H Q:=by
 obtain ⟨H0,ρ,xs,ρ',st,e,k⟩:=h
 cases e
 exact k [] H0 H (.refl st) .nil
theorem r_cons {f : _d.FE} {fs : List _d.FE} {Q : List V→Hp→Prop} (h : tDA (f :: fs) σ H Q) : tCons (tD f) (tDA fs) σ H Q:=by
 refine bc fun ζ=>?_
 obtain ⟨H0,ρ,xs,ρ',st,e,k⟩:=h
 unfold _d.eAs at e
 split at e
 ·contradiction
 rename_i x1 ρ1 e1
 split at e
 ·contradiction
 rename_i xs1 ρ2 e2
 cases e
 apply ζ;clear ζ
 refine ⟨H0,ρ,x1,ρ1,st,e1,fun v H1 Hb t1 r1=>⟨H1,ρ1,xs1,_,t1.st,e2,fun vs H2 Hc t2 r2=>?_⟩⟩
 exact k (v :: vs) H2 Hc (t1.trans t2) (.cons (r1.mono t2) (r2.early fun a n=>t1.stp.gone n))
theorem r_cb {r : List V→Hp→VK→Prop} {g : List _d.Dat→Option _d.RV} {fs : List _d.FE} (o : CallD r g) (h : tD (_d.eB g fs) σ H Q) : tCB r (tDA fs) σ H Q:=by
 refine bc fun ζ=>?_
 obtain ⟨H0,ρ,x,ρ',st,e,k⟩:=h
 unfold _d.eB at e
 split at e
 ·contradiction
 rename_i xs ρ1 e1
 split at e
 ·contradiction
 rename_i ds p1
 split at e
 ·contradiction
 rename_i z gz
 cases e
 apply ζ;clear ζ
 refine ⟨H0,ρ,xs,_,st,e1,fun vs H1 Hb t1 r1=>?_⟩
 refine o H1 Hb vs ds z Q t1.st.same (looks t1.st r1 p1) gz fun w H3 Hd g3 r3=>?_
 exact k w H3 Hd (t1.trans (.grow t1.st g3)) ((r3.toV t1.st).early fun a n=>t1.stp.gone n)
theorem sz_line {n : Nat} (h : n≤_d.SZ) : n≤sizeLine:=Nat.le_trans h (by decide)
theorem r_tup {fs : List _d.FE} (h : tD (_d.eTup fs) σ H Q) : tTup (tDA fs) σ H Q:=by
 obtain ⟨H0,ρ,x,ρ',st,e,k⟩:=h
 unfold _d.eTup at e
 split at e
 ·contradiction
 rename_i xs ρ1 e1
 split at e
 ·contradiction
 rename_i ds ρ2 e2
 split at e
 ·rename_i hz
  cases e
  refine ⟨H0,ρ,xs,ρ1,st,e1,fun vs H1 Hb t1 r1=>?_⟩
  obtain ⟨H2,t2,b2,r2⟩:=takes t1 (Same.refl _) r1 e2
  refine ⟨by rw [r2.length]; exact sz_line hz,fun p hp=>?_⟩
  have g:=Grow.newS (o:=HO.tup vs) t2.st.same hp
  exact k _ _ _ (t2.trans (.grow t2.st g)) (.tup upd_same (r2.mono g.s0))
 ·contradiction
theorem r_lst {fs : List _d.FE} (h : tD (_d.eLst fs) σ H Q) : tLst (tDA fs) σ H Q:=by
 obtain ⟨H0,ρ,x,ρ',st,e,k⟩:=h
 unfold _d.eLst at e
 split at e
 ·contradiction
 rename_i xs ρ1 e1
 split at e
 ·contradiction
 rename_i ds ρ2 e2
 split at e
 ·rename_i hz
  cases e
  refine ⟨H0,ρ,xs,ρ1,st,e1,fun vs H1 Hb t1 r1=>?_⟩
  obtain ⟨H2,t2,b2,r2⟩:=takes t1 (Same.refl _) r1 e2
  refine ⟨by rw [r2.length]; exact sz_line hz,fun p hp=>?_⟩
  have g:=Grow.newO (o:=HO.lst vs) t2.st.same hp
  refine k _ _ _ (t2.trans (.grow t2.st g)) ⟨p,rfl,t2.stp.gone hp,fun ⟨i,d,h1,h2⟩=>?_,t2.st.same.free hp,vs,upd_same,r2⟩
  obtain ⟨a,q,_,w⟩:=t2.st.ow i d h1
  rw [h2] at q
  cases q
  obtain ⟨o,z⟩:=w.some
  rw [hp] at z; cases z
 ·contradiction
theorem Rep.plain {H0 H1 : Hp} {v : V} {d : _d.Dat} (r : Rep H0 v d) (n : _d.isBox d = false) : Rep H1 v d:=by
 cases r with
 | non=>exact .non
 | bl b=>exact .bl b
 | int i=>exact .int i
 | str s=>exact .str s
 | tup _ _=>cases n
 | lst _ _=>cases n
 | dct _ _ _=>cases n
 | exc _=>cases n
 | fn a=>exact .fn a
theorem Own.box {H0 H : Hp} {a : Addr} {d : _d.Dat} (w : Own H0 H a d) : _d.isBox d = true:=by
 cases d with
 | lst ds=>rfl
 | dct ks ds=>rfl
 | _=>exact False.elim w
theorem r_call {f : List _d.Dat→Option _d.RV} {fs : List _d.FE} {E : XK} (h : tD (_d.eF f fs) σ H Q) : tCall (spD f) [] E (tDA fs) σ H Q:=by
 refine bc fun ζ=>?_
 obtain ⟨H0,ρ,x,ρ',st,e,k⟩:=h
 unfold _d.eF at e
 split at e
 ·contradiction
 rename_i xs ρ1 e1
 split at e
 ·contradiction
 rename_i ds p1
 split at e
 ·contradiction
 rename_i z fz
 apply ζ;clear ζ
 refine ⟨H0,ρ,xs,ρ1,st,e1,fun vs H1 Hb t1 r1=>?_⟩
 dsimp only
 rw [List.append_nil]
 obtain ⟨ρ2,e2⟩:=tks_of_pks p1
 obtain ⟨H2,t2,b2,r2⟩:=takes t1 (Same.refl _) r1 e2
 split at e
 ·rw [e2] at e
  cases e
  exact ⟨H2,ds,z,t2.st.same,r2,fz,fun w H3 Hd g3 r3=>k w H3 Hd (t2.trans (.grow t2.st g3)) ((r3.toV t2.st).early fun a n=>t2.stp.gone n)⟩
 ·rename_i nb
  cases e
  refine ⟨H2,ds,z,t2.st.same,r2,fz,fun w H3 Hd g3 r3=>?_⟩
  have g : Grow H1 Hb H1 Hd:=⟨Same.refl _,g3.s1,fun a o q=>.inr q,t1.st.same.trans g3.s1⟩
  refine k w H1 Hd (t1.trans (.grow t1.st g)) ?_
  cases z with
  | val d=>exact Rep.plain r3 (by simpa [_d.RV.dat] using nb)
  | new d =>
   refine bc fun ζ=>?_
   obtain ⟨a,_,_,_,w⟩:=r3
   apply ζ;clear ζ
   exact absurd w.box (by simpa [_d.RV.dat] using nb)
theorem r_if {t : _d.FT} {a b : _d.FE} (h : tD (_d.eIf t a b) σ H Q) : tIf (tDT t) (tD a) (tD b) σ H Q:=by
 obtain ⟨H0,ρ,x,ρ',st,e,k⟩:=h
 unfold _d.eIf at e
 split at e
 ·contradiction
 ·rename_i ρ1 e1
  refine ⟨H0,ρ,true,ρ1,st,e1,fun H1 Hb t1=>?_⟩
  dsimp only
  rw [if_pos rfl]
  exact ⟨H1,ρ1,x,ρ',t1.st,e,fun v H2 Hc t2 r2=>k v H2 Hc (t1.trans t2) (r2.early fun a n=>t1.stp.gone n)⟩
 ·rename_i ρ1 e1
  refine ⟨H0,ρ,false,ρ1,st,e1,fun H1 Hb t1=>?_⟩
  dsimp only
  rw [if_neg Bool.false_ne_true]
  exact ⟨H1,ρ1,x,ρ',t1.st,e,fun v H2 Hc t2 r2=>k v H2 Hc (t1.trans t2) (r2.early fun a n=>t1.stp.gone n)⟩
theorem Rep.isBl {H0 : Hp} {v : V} {c : Bool} (r : Rep H0 v (.bl c)) : v = .bl c:=by cases r; rfl
theorem Rep.isInt {H0 : Hp} {v : V} {c : Int} (r : Rep H0 v (.int c)) : v = .int c:=by cases r; rfl
theorem r_and {a b : _d.FE} (h : tD (_d.eAnd a b) σ H Q) : tAndV (tD a) (tD b) σ H Q:=by
 obtain ⟨H0,ρ,x,ρ',st,e,k⟩:=h
 unfold _d.eAnd at e
 split at e
 ·rename_i ρ1 e1
  refine ⟨H0,ρ,_,_,st,e1,fun v H1 Hb t1 r1=>⟨true,Rep.isBl r1,?_⟩⟩
  try dsimp only
  rw [if_pos rfl]
  exact ⟨H1,ρ1,x,ρ',t1.st,e,fun v H2 Hc t2 r2=>k v H2 Hc (t1.trans t2) (r2.early fun a n=>t1.stp.gone n)⟩
 ·rename_i ρ1 e1
  cases e
  refine ⟨H0,ρ,_,_,st,e1,fun v H1 Hb t1 r1=>⟨false,Rep.isBl r1,?_⟩⟩
  try dsimp only
  rw [if_neg Bool.false_ne_true]
  exact k _ H1 Hb t1 (Rep.bl false)
 ·contradiction
theorem r_not {a : _d.FE} (h : tD (_d.eNot a) σ H Q) : tNotV (tD a) σ H Q:=by
 obtain ⟨H0,ρ,x,ρ',st,e,k⟩:=h
 unfold _d.eNot at e
 split at e
 ·rename_i c ρ1 e1
  cases e
  exact ⟨H0,ρ,_,_,st,e1,fun v H1 Hb t1 r1=>⟨c,Rep.isBl r1,k _ H1 Hb t1 (Rep.bl (!c))⟩⟩
 ·contradiction
variable {Qt : Bool→Hp→Prop}
theorem r_test {a : _d.FE} (h : tDT (_d.tV a) σ H Qt) : tTest (tD a) σ H Qt:=by
 obtain ⟨H0,ρ,x,ρ',st,e,k⟩:=h
 unfold _d.tV at e
 split at e
 ·rename_i c ρ1 e1
  cases e
  exact ⟨H0,ρ,_,_,st,e1,fun v H1 Hb t1 r1=>⟨_,Rep.isBl r1,k H1 Hb t1⟩⟩
 ·contradiction
theorem r_tnot {t : _d.FT} (h : tDT (_d.tNot t) σ H Qt) : tNot (tDT t) σ H Qt:=by
 obtain ⟨H0,ρ,x,ρ',st,e,k⟩:=h
 unfold _d.tNot at e
 split at e
 ·rename_i c ρ1 e1
  cases e
  exact ⟨H0,ρ,_,_,st,e1,fun H1 Hb t1=>k H1 Hb t1⟩
 ·contradiction
theorem r_tand {t u : _d.FT} (h : tDT (_d.tAnd t u) σ H Qt) : tAnd (tDT t) (tDT u) σ H Qt:=by
 obtain ⟨H0,ρ,x,ρ',st,e,k⟩:=h
 unfold _d.tAnd at e
 split at e
 ·rename_i ρ1 e1
  refine ⟨H0,ρ,_,ρ1,st,e1,fun H1 Hb t1=>?_⟩
  dsimp only
  rw [if_pos rfl]
  exact ⟨H1,ρ1,x,ρ',t1.st,e,fun H2 Hc t2=>k H2 Hc (t1.trans t2)⟩
 ·rename_i ρ1 e1
  cases e
  refine ⟨H0,ρ,_,_,st,e1,fun H1 Hb t1=>?_⟩
  dsimp only
  rw [if_neg Bool.false_ne_true]
  exact k H1 Hb t1
 ·contradiction
theorem r_tor {t u : _d.FT} (h : tDT (_d.tOr t u) σ H Qt) : tOr (tDT t) (tDT u) σ H Qt:=by
 obtain ⟨H0,ρ,x,ρ',st,e,k⟩:=h
 unfold _d.tOr at e
 split at e
 ·rename_i ρ1 e1
  cases e
  refine ⟨H0,ρ,_,_,st,e1,fun H1 Hb t1=>?_⟩
  dsimp only
  rw [if_pos rfl]
  exact k H1 Hb t1
 ·rename_i ρ1 e1
  refine ⟨H0,ρ,_,ρ1,st,e1,fun H1 Hb t1=>?_⟩
  dsimp only
  rw [if_neg Bool.false_ne_true]
  exact ⟨H1,ρ1,x,ρ',t1.st,e,fun H2 Hc t2=>k H2 Hc (t1.trans t2)⟩
 ·contradiction
end
structure SSt (σ : St) (ρ : _d.Env) (H0 H : Hp) (σ' : St) (ρ' : _d.Env) (H0' H' : Hp) : Prop where
 st : RepSt H0' H' σ' ρ'
 stp : Stp (Owned σ ρ) H0 H H0' H'
 own : ∀ a,Owned σ' ρ' a→Owned σ ρ a∨H a = none
 fx : σ'[0]? = σ[0]?
theorem ESt.sst {σ : St} {ρ ρ' : _d.Env} {H0 H H0' H' : Hp} (t : ESt σ ρ H0 H ρ' H0' H') : SSt σ ρ H0 H σ ρ' H0' H':=⟨t.st,t.stp,fun a z=>.inl (t.own a z),rfl⟩
theorem SSt.refl {σ : St} {ρ : _d.Env} {H0 H : Hp} (st : RepSt H0 H σ ρ) : SSt σ ρ H0 H σ ρ H0 H:=(ESt.refl st).sst
theorem SSt.trans {σ σ1 σ2 : St} {ρ ρ1 ρ2 : _d.Env} {H0 H H1 H' H2 H'' : Hp} (t : SSt σ ρ H0 H σ1 ρ1 H1 H') (u : SSt σ1 ρ1 H1 H' σ2 ρ2 H2 H'') : SSt σ ρ H0 H σ2 ρ2 H2 H'' :=
 ⟨u.st,t.stp.trans u.stp t.own,fun a z=>(u.own a z).elim (t.own a) fun n=>.inr (t.stp.gone n),u.fx.trans t.fx⟩
noncomputable def RepRt (σ : St) (ρ : _d.Env) (H H0' H' : Hp) (v : V) : _d.RV→Prop
 | .val d=>Rep H0' v d
 | .new d=>∃ a,v = V.ref a∧(H a = none∨Owned σ ρ a)∧H0' a = none∧Own H0' H' a d
noncomputable def OutOk (D : Ends) (σ : St) (ρ : _d.Env) (H0 H : Hp) : _d.Out→Prop
 | .nx ρ'=>∀ σ' H0' H',SSt σ ρ H0 H σ' ρ' H0' H'→D.nx σ' H'
 | .bk ρ'=>∀ σ' H0' H',SSt σ ρ H0 H σ' ρ' H0' H'→D.bk σ' H'
 | .ct ρ'=>∀ σ' H0' H',SSt σ ρ H0 H σ' ρ' H0' H'→D.ct σ' H'
 | .ret z ρ'=>∀ σ' v H0' H',SSt σ ρ H0 H σ' ρ' H0' H'→RepRt σ ρ H H0' H' v z→(∀ d a,z = .new d→v = .ref a→¬ Owned σ' ρ' a)→D.rt v H'
noncomputable def tDS (g : _d.FS) : TS:=fun D σ H=>∃ H0 ρ o,RepSt H0 H σ ρ∧g ρ = some o∧OutOk D σ ρ H0 H o
theorem OutOk.pre {D : Ends} {σ σ1 : St} {ρ ρ1 : _d.Env} {H0 H H1 H' : Hp} {o : _d.Out} (t : SSt σ ρ H0 H σ1 ρ1 H1 H') (k : OutOk D σ ρ H0 H o) : OutOk D σ1 ρ1 H1 H' o:=by
 cases o with
 | nx ρ'=>exact fun σ' H0' H' u=>k σ' H0' H' (t.trans u)
 | bk ρ'=>exact fun σ' H0' H' u=>k σ' H0' H' (t.trans u)
 | ct ρ'=>exact fun σ' H0' H' u=>k σ' H0' H' (t.trans u)
 | ret z ρ' =>
  refine fun σ' v H0' H'' u r no=>k σ' v H0' H'' (t.trans u) ?_ no
  cases z with
  | val d=>exact r
  | new d =>
   obtain ⟨a,e,n,n0,w⟩:=r
   refine ⟨a,e,?_,n0,w⟩
   rcases n with n | n
   ·exact .inl (t.stp.gone n)
   ·exact (t.own a n).symm
theorem RepSt.mask {H0 H : Hp} {σ : _l.St} {ρ : _d.Env} (st : RepSt H0 H σ ρ) (i : Nat) : RepSt H0 H σ (ρ.set i .un) where
 same:=st.same
 len:=by rw [List.length_set]; exact st.len
 sh:=fun j d h=>by
  by_cases q : i = j
  ·subst q; rw [List.getElem?_set] at h; simp only [if_true] at h; split at h <;> cases h
  ·rw [List.getElem?_set_ne q] at h; exact st.sh j d h
 ow:=fun j d h=>by
  by_cases q : i = j
  ·subst q; rw [List.getElem?_set] at h; simp only [if_true] at h; split at h <;> cases h
  ·rw [List.getElem?_set_ne q] at h; exact st.ow j d h
 dis:=fun j j' d d' a h1 h2 h3 h4=>by
  by_cases q : i = j
  ·subst q; rw [List.getElem?_set] at h1; simp only [if_true] at h1; split at h1 <;> cases h1
  ·by_cases q' : i = j'
   ·subst q'; rw [List.getElem?_set] at h2; simp only [if_true] at h2; split at h2 <;> cases h2
   ·rw [List.getElem?_set_ne q] at h1
    rw [List.getElem?_set_ne q'] at h2
    exact st.dis j j' d d' a h1 h2 h3 h4
theorem owned_mask {σ : _l.St} {ρ : _d.Env} {i : Nat} {a : Addr} (h : Owned σ (ρ.set i .un) a) : ∃ (j : Nat) (d : _d.Dat),j≠i∧ρ[j]? = some (_d.Cell.ow d)∧σ[j]? = some (some (V.ref a)):=by
 obtain ⟨j,d,h1,h2⟩:=h
 by_cases q : i = j
 ·subst q; rw [List.getElem?_set] at h1; simp only [if_true] at h1; split at h1 <;> cases h1
 ·rw [List.getElem?_set_ne q] at h1; exact ⟨j,d,fun z=>q z.symm,h1,h2⟩
section
variable {D : Ends} {σ : St} {H : Hp}
theorem r_nx (h : tDS _d.sNx D σ H) : tNext D σ H:=by
 obtain ⟨H0,ρ,o,st,e,k⟩:=h
 cases e
 exact k σ H0 H (.refl st)
theorem r_seq {s u : _d.FS} (h : tDS (_d.sSeq s u) D σ H) : tSeq (tDS s) (tDS u) D σ H:=by
 obtain ⟨H0,ρ,o,st,e,k⟩:=h
 unfold _d.sSeq at e
 split at e
 ·rename_i ρ1 e1
  exact ⟨H0,ρ,.nx ρ1,st,e1,fun σ' H0' H' t=>⟨H0',ρ1,o,t.st,e,k.pre t⟩⟩
 ·rename_i h1
  cases o with
  | nx ρ1=>exact absurd e (h1 ρ1)
  | bk ρ1=>exact ⟨H0,ρ,_,st,e,k⟩
  | ct ρ1=>exact ⟨H0,ρ,_,st,e,k⟩
  | ret z ρ1=>exact ⟨H0,ρ,_,st,e,k⟩
theorem r_expr {f : _d.FE} (h : tDS (_d.sE f) D σ H) : tDrop (tD f) D σ H:=by
 obtain ⟨H0,ρ,o,st,e,k⟩:=h
 unfold _d.sE at e
 split at e
 ·contradiction
 ·rename_i x ρ1 e1
  cases e
  exact ⟨H0,ρ,x,ρ1,st,e1,fun v H0' H' t r=>k σ H0' H' t.sst⟩
theorem r_ret {f : _d.FE} (h : tDS (_d.sR f) D σ H) : tRet (tD f) D σ H:=by
 obtain ⟨H0,ρ,o,st,e,k⟩:=h
 unfold _d.sR at e
 split at e
 ·contradiction
 ·rename_i d ρ1 e1
  cases e
  refine ⟨H0,ρ,_,ρ1,st,e1,fun v H0' H' t r=>?_⟩
  obtain ⟨a,e,n,no,n0,w⟩:=r
  exact k σ v H0' H' t.sst ⟨a,e,.inl n,n0,w⟩ fun d' a' _ e' z=>by
   rw [e] at e'
   cases e'
   exact no z
 ·rename_i d ρ1 e1
  cases e
  exact ⟨H0,ρ,_,ρ1,st,e1,fun v H0' H' t r=>k σ v H0' H' t.sst r fun d' a' z=>by cases z⟩
 ·rename_i i ρ1 e1
  split at e
  ·rename_i d h1
   cases e
   refine ⟨H0,ρ,_,ρ1,st,e1,fun v H0' H' t r=>?_⟩
   obtain ⟨q,_⟩:=r
   obtain ⟨a,q',n0,w⟩:=t.st.ow i d h1
   rw [q] at q'
   cases q'
   refine k σ _ H0' H' ⟨t.st.mask i,t.stp,fun b z=>?_,rfl⟩ ⟨a,rfl,.inr (t.own a ⟨i,d,h1,q⟩),n0,w⟩ fun d' a' _ e' z=>?_
   ·obtain ⟨j,d2,_,z1,z2⟩:=owned_mask z
    exact .inl (t.own b ⟨j,d2,z1,z2⟩)
   ·cases e'
    obtain ⟨j,d2,hj,z1,z2⟩:=owned_mask z
    exact hj (t.st.dis j i d2 d a z1 h1 z2 q)
  ·rename_i d h1
   cases e
   refine ⟨H0,ρ,_,ρ1,st,e1,fun v H0' H' t r=>?_⟩
   obtain ⟨q,_⟩:=r
   obtain ⟨u,q',w⟩:=t.st.sh i d h1
   rw [q] at q'
   cases q'
   exact k σ _ H0' H' t.sst w fun d' a' z=>by cases z
  ·contradiction
theorem r_ifS {t : _d.FT} {a b : _d.FS} (h : tDS (_d.sIf t a b) D σ H) : tIfS (tDT t) (tDS a) (tDS b) D σ H:=by
 obtain ⟨H0,ρ,o,st,e,k⟩:=h
 unfold _d.sIf at e
 split at e
 ·contradiction
 ·rename_i ρ1 e1
  refine ⟨H0,ρ,true,ρ1,st,e1,fun H1 Hb t1=>?_⟩
  dsimp only
  rw [if_pos rfl]
  exact ⟨H1,ρ1,o,t1.st,e,k.pre t1.sst⟩
 ·rename_i ρ1 e1
  refine ⟨H0,ρ,false,ρ1,st,e1,fun H1 Hb t1=>?_⟩
  dsimp only
  rw [if_neg Bool.false_ne_true]
  exact ⟨H1,ρ1,o,t1.st,e,k.pre t1.sst⟩
end
theorem set_getV {σ : St} {i j : Nat} {c d : Option V} (h : (σ.set i c)[j]? = some d) : (j = i∧d = c)∨(j≠i∧σ[j]? = some d):=by
 by_cases e : j = i
 ·subst e
  by_cases l : j < σ.length
  ·rw [List.getElem?_set_self l] at h
   exact .inl ⟨rfl,(Option.some.inj h).symm⟩
  ·rw [List.getElem?_eq_none (by simpa using Nat.not_lt.mp l)] at h
   cases h
 ·rw [List.getElem?_set_ne (Ne.symm e)] at h
  exact .inr ⟨e,h⟩
theorem RepSt.inσ {H0 H : Hp} {σ : St} {ρ : _d.Env} {i : Nat} {c d : _d.Cell} (st : RepSt H0 H σ ρ) (h : (ρ.set i c)[i]? = some d) : i < σ.length:=by
 have:=(List.getElem?_eq_some_iff.mp h).1
 rw [List.length_set] at this
 rw [st.len]; exact this
theorem owned_set_sh {σ : St} {ρ : _d.Env} {i : Nat} {v : V} {d : _d.Dat} {b : Addr} (h : Owned (σ.set i (some v)) (ρ.set i (.sh d)) b) : Owned σ ρ b:=by
 obtain ⟨j,d',h1,h2⟩:=h
 rcases set_get h1 with ⟨_,z⟩ | ⟨hj,h1⟩
 ·contradiction
 ·rcases set_getV h2 with ⟨z,_⟩ | ⟨_,h2⟩
  ·exact absurd z hj
  ·exact ⟨j,d',h1,h2⟩
theorem RepSt.set_sh {H0 H : Hp} {σ : St} {ρ : _d.Env} {i : Nat} {v : V} {d : _d.Dat} (st : RepSt H0 H σ ρ) (r : Rep H0 v d) : RepSt H0 H (σ.set i (some v)) (ρ.set i (.sh d)) where
 same:=st.same
 len:=by rw [List.length_set,List.length_set]; exact st.len
 sh:=fun j d' h=>by
  rcases set_get h with ⟨rfl,z⟩ | ⟨hj,h'⟩
  ·cases z
   exact ⟨v,List.getElem?_set_self (st.inσ h),r⟩
  ·refine bc fun ζ=>?_
   obtain ⟨u,q,w⟩:=st.sh j d' h'
   apply ζ;clear ζ
   exact ⟨u,by rw [List.getElem?_set_ne (Ne.symm hj)]; exact q,w⟩
 ow:=fun j d' h=>by
  rcases set_get h with ⟨_,z⟩ | ⟨hj,h'⟩
  ·contradiction
  ·refine bc fun ζ=>?_
   obtain ⟨u,q,w⟩:=st.ow j d' h'
   apply ζ;clear ζ
   exact ⟨u,by rw [List.getElem?_set_ne (Ne.symm hj)]; exact q,w⟩
 dis:=fun j k d1 d2 b h1 h2 h3 h4=>by
  rcases set_get h1 with ⟨_,z⟩ | ⟨hj,h1⟩
  ·contradiction
  rcases set_get h2 with ⟨_,z⟩ | ⟨hk,h2⟩
  ·contradiction
  rw [List.getElem?_set_ne (Ne.symm hj)] at h3
  rw [List.getElem?_set_ne (Ne.symm hk)] at h4
  exact st.dis j k d1 d2 b h1 h2 h3 h4
theorem RepSt.set_ow {H0 H : Hp} {σ : St} {ρ : _d.Env} {i : Nat} {a : Addr} {d : _d.Dat} (st : RepSt H0 H σ ρ) (no : ¬ Owned σ ρ a) (n0 : H0 a = none) (w : Own H0 H a d) : RepSt H0 H (σ.set i (some (.ref a))) (ρ.set i (.ow d)) where
 same:=st.same
 len:=by rw [List.length_set,List.length_set]; exact st.len
 sh:=fun j d' h=>by
  rcases set_get h with ⟨_,z⟩ | ⟨hj,h'⟩
  ·contradiction
  ·refine bc fun ζ=>?_
   obtain ⟨u,q,w⟩:=st.sh j d' h'
   apply ζ;clear ζ
   exact ⟨u,by rw [List.getElem?_set_ne (Ne.symm hj)]; exact q,w⟩
 ow:=fun j d' h=>by
  rcases set_get h with ⟨rfl,z⟩ | ⟨hj,h'⟩
  ·cases z
   exact ⟨a,List.getElem?_set_self (st.inσ h),n0,w⟩
  ·refine bc fun ζ=>?_
   obtain ⟨u,q,w⟩:=st.ow j d' h'
   apply ζ;clear ζ
   exact ⟨u,by rw [List.getElem?_set_ne (Ne.symm hj)]; exact q,w⟩
 dis:=fun j k d1 d2 b h1 h2 h3 h4=>by
  rcases set_get h1 with ⟨e1,z1⟩ | ⟨hj,h1'⟩
  ·rcases set_get h2 with ⟨e2,z2⟩ | ⟨hk,h2'⟩
   ·rw [e1,e2]
   ·rcases set_getV h3 with ⟨_,z⟩ | ⟨z,_⟩
    ·cases z
     rw [List.getElem?_set_ne (Ne.symm hk)] at h4
     exact absurd ⟨k,d2,h2',h4⟩ no
    ·exact absurd e1 z
  ·rcases set_get h2 with ⟨e2,z2⟩ | ⟨hk,h2'⟩
   ·rcases set_getV h4 with ⟨_,z⟩ | ⟨z,_⟩
    ·cases z
     rw [List.getElem?_set_ne (Ne.symm hj)] at h3
     exact absurd ⟨j,d1,h1',h3⟩ no
    ·exact absurd e2 z
   ·rw [List.getElem?_set_ne (Ne.symm hj)] at h3
    rw [List.getElem?_set_ne (Ne.symm hk)] at h4
    exact st.dis j k d1 d2 b h1' h2' h3 h4
theorem owned_set_ow {σ : St} {ρ : _d.Env} {i : Nat} {a b : Addr} {d : _d.Dat} (h : Owned (σ.set i (some (.ref a))) (ρ.set i (.ow d)) b) : b = a∨Owned σ ρ b:=by
 obtain ⟨j,d',h1,h2⟩:=h
 rcases set_get h1 with ⟨e,_⟩ | ⟨hj,h1⟩
 ·rcases set_getV h2 with ⟨_,z⟩ | ⟨z,_⟩
  ·cases z; exact .inl rfl
  ·exact absurd e z
 ·rcases set_getV h2 with ⟨z,_⟩ | ⟨_,h2⟩
  ·exact absurd z hj
  ·exact .inr ⟨j,d',h1,h2⟩
theorem RepSt.write {H0 H : Hp} {σ : St} {ρ : _d.Env} {i : Nat} {a : Addr} {d d' : _d.Dat} {o : HO} (st : RepSt H0 H σ ρ) (e : ρ[i]? = some (.ow d)) (q : σ[i]? = some (some (V.ref a))) (w' : Own H0 (upd H a o) a d') :
  RepSt H0 (upd H a o) σ (ρ.set i (.ow d')):=by
 refine bc fun ζ=>?_
 obtain ⟨a',q',n,w⟩:=st.ow i d e
 apply ζ;clear ζ
 rw [q] at q'
 cases q'
 refine ⟨fun b u z=>?_,by rw [List.length_set]; exact st.len,fun j d1 h=>?_,fun j d1 h=>?_,fun j k d1 d2 b h1 h2 h3 h4=>?_⟩
 ·rw [upd_ne (ne_of_none z n)]; exact st.same _ _ z
 ·rcases set_get h with ⟨_,z⟩ | ⟨hj,h'⟩
  ·contradiction
  ·exact st.sh j d1 h'
 ·rcases set_get h with ⟨rfl,z⟩ | ⟨hj,h'⟩
  ·cases z
   exact ⟨a,q,n,w'⟩
  ·refine bc fun ζ=>?_
   obtain ⟨b,q1,n1,w1⟩:=st.ow j d1 h'
   apply ζ;clear ζ
   have nb : b≠a:=fun y=>hj (st.dis j i d1 d a h' e (y ▸ q1) q)
   exact ⟨b,q1,n1,w1.mono (Same.refl _) (upd_ne nb)⟩
 ·have f : ∀ {j : Nat} {d1 : _d.Dat},(ρ.set i (.ow d'))[j]? = some (.ow d1)→∃ d2,ρ[j]? = some (.ow d2):=fun {j d1} h=>by
   rcases set_get h with ⟨rfl,_⟩ | ⟨_,h'⟩
   ·exact ⟨d,e⟩
   ·exact ⟨d1,h'⟩
  refine bc fun ζ=>?_
  obtain ⟨x1,y1⟩:=f h1
  obtain ⟨x2,y2⟩:=f h2
  exact ζ (st.dis j k x1 x2 b y1 y2 h3 h4)
theorem owned_write {σ : St} {ρ : _d.Env} {i : Nat} {d d' : _d.Dat} {b : Addr} (e : ρ[i]? = some (.ow d)) (h : Owned σ (ρ.set i (.ow d')) b) : Owned σ ρ b:=by
 refine bc fun ζ=>?_
 obtain ⟨j,d1,h1,h2⟩:=h
 apply ζ;clear ζ
 rcases set_get h1 with ⟨rfl,_⟩ | ⟨_,h'⟩
 ·exact ⟨j,d,e,h2⟩
 ·exact ⟨j,d1,h',h2⟩
theorem Stp.write {σ : St} {ρ : _d.Env} {H0 H : Hp} {a : Addr} {o : HO} (w : Owned σ ρ a) : Stp (Owned σ ρ) H0 H H0 (upd H a o) :=
 ⟨Same.refl _,fun b u e n=>by rw [upd_ne (show b≠a from fun z=>n (by rw [z]; exact w))]; exact e,fun b u e=>.inr (.inl e),fun b u e=>by
  by_cases z : b = a
  ·subst z; exact ⟨o,upd_same⟩
  ·exact ⟨u,by rw [upd_ne z]; exact e⟩⟩
section
variable {D : Ends} {σ : St} {H : Hp}
theorem r_asg {i : Nat} {f : _d.FE} (h : tDS (_d.sA i f) D σ H) : tAsg (tD f) (gName i) D σ H:=by
 obtain ⟨H0,ρ,o,st,e,k⟩:=h
 unfold _d.sA at e
 split at e
 ·contradiction
 rename_i hi0
 split at e
 ·contradiction
 ·rename_i d ρ1 e1
  cases e
  refine ⟨H0,ρ,_,ρ1,st,e1,fun v H0' H' t r=>?_⟩
  obtain ⟨a,e,n,no,n0,w⟩:=r
  subst e
  refine k _ H0' H' ⟨t.st.set_ow no n0 w,t.stp,fun b z=>?_,List.getElem?_set_ne hi0⟩
  rcases owned_set_ow z with rfl | z
  ·exact .inr n
  ·exact .inl (t.own b z)
 ·rename_i x ρ1 _ e1
  split at e
  ·contradiction
  ·rename_i d ρ2 e2
   cases e
   refine ⟨H0,ρ,_,ρ1,st,e1,fun v H0' H' t r=>?_⟩
   obtain ⟨H1,t1,b1,r1,_,_⟩:=take1 t (Same.refl _) r e2
   exact k _ H1 H' ⟨t1.st.set_sh r1,t1.stp,fun b z=>.inl (t1.own b (owned_set_sh z)),List.getElem?_set_ne hi0⟩
theorem def_set {ρ : _d.Env} {i : Nat} {d : _d.Dat} {j : Nat} (h : Def ρ j) : Def (ρ.set i (.sh d)) j:=trivial
noncomputable def gNames : List Nat→TGs
 | []=>gNil
 | i :: is=>gCons (gName i) (gNames is)
theorem sets_ok {H0 H : Hp} {Q : St→Hp→Prop} : ∀ {is : List Nat} {xs : List V} {ds : List _d.Dat} {σ : St} {ρ ρ' : _d.Env},RepSt H0 H σ ρ→Reps H0 xs ds→_d.sets is ds ρ = some ρ' →
  (∀ σ',RepSt H0 H σ' ρ'→(∀ a,Owned σ' ρ' a→Owned σ ρ a)→(∀ j,j ∉ is→σ'[j]? = σ[j]?)→(∀ j,Def ρ j→Def ρ' j)→σ'[0]? = σ[0]?→Q σ' H)→gNames is xs σ H Q
 | [],_,[],σ,ρ,ρ',st,r,e,k=>by
  cases r
  cases e
  exact ⟨rfl,k σ st (fun _ z=>z) (fun _ _=>rfl) (fun _ z=>z) rfl⟩
 | i :: is,_,d :: ds,σ,ρ,ρ',st,r,e,k=>by
  cases r with
  | cons h r =>
   unfold _d.sets at e
   refine bc fun ζ=>?_
   split at e
   ·contradiction
   rename_i hi0
   apply ζ;clear ζ
   refine ⟨_,_,rfl,?_⟩
   refine sets_ok (st.set_sh h) r e fun σ' st' o' n' d' f'=>k σ' st' (fun a z=>owned_set_sh (o' a z)) (fun j hj=>?_) (fun j z=>d' j (def_set z)) (f'.trans (List.getElem?_set_ne hi0))
   rw [n' j fun z=>hj (List.mem_cons_of_mem _ z)]
   exact List.getElem?_set_ne fun z=>hj (by rw [z]; exact List.mem_cons_self)
 | [],_,_ :: _,_,_,_,_,_,e,_=>by cases e
 | _ :: _,_,[],_,_,_,_,_,e,_=>by cases e
theorem sets_len : ∀ {is : List Nat} {ds : List _d.Dat} {ρ ρ' : _d.Env},_d.sets is ds ρ = some ρ'→ds.length = is.length
 | [],[],_,_,_=>rfl
 | i :: is,_ :: ds,_,_,e=>by
  unfold _d.sets at e
  split at e
  ·contradiction
  ·simp [sets_len (is:=is) (ds:=ds) e]
 | [],_ :: _,_,_,e=>by cases e
 | _ :: _,[],_,_,e=>by cases e
noncomputable def BD (is : List Nat) (g : TG) (bd : _d.FB) : Prop:=∀ (H0 H : Hp) (σ : St) (ρ ρ' : _d.Env) (x : V) (d : _d.Dat) (Q : St→Hp→Prop),RepSt H0 H σ ρ→Rep H0 x d→bd d ρ = some ρ' →
 (∀ σ',RepSt H0 H σ' ρ'→(∀ a,Owned σ' ρ' a→Owned σ ρ a)→(∀ j,j ∉ is→σ'[j]? = σ[j]?)→(∀ j,Def ρ j→Def ρ' j)→σ'[0]? = σ[0]?→Q σ' H)→g x σ H Q
theorem bd_name (i : Nat) : BD [i] (gName i) (_d.bN i):=by
 intro H0 H σ ρ ρ' x d Q st r e k
 unfold _d.bN at e
 split at e
 ·contradiction
 rename_i hi0
 cases e
 refine k _ (st.set_sh r) (fun a z=>owned_set_sh z) (fun j hj=>?_) (fun j h=>def_set h) (List.getElem?_set_ne hi0)
 exact List.getElem?_set_ne (fun z=>hj (by rw [z]; exact List.mem_singleton.mpr rfl))
theorem r_unpack {K : PySem.W.Frag} {is : List Nat} {n : Nat} {f : _d.FE} (hn : is.length = n) (h : tDS (_d.sU is f) D σ H) : tAsg (tD f) (gTup K n (gNames is)) D σ H:=by
 obtain ⟨H0,ρ,o,st,e,k⟩:=h
 unfold _d.sU at e
 split at e
 ·contradiction
 ·rename_i x ρ1 e1
  split at e
  ·rename_i ds ρ2 e2
   split at e
   ·contradiction
   ·rename_i ρ3 e3
    cases e
    refine ⟨H0,ρ,_,ρ1,st,e1,fun v H0' H' t r=>?_⟩
    obtain ⟨H1,t1,b1,r1,_,_⟩:=take1 t (Same.refl _) r e2
    cases r1 with
    | tup q rs =>
     refine ⟨_,_,rfl,SqT.of (t1.st.same _ _ q),by rw [rs.length,sets_len e3,hn],?_⟩
     exact sets_ok t1.st rs e3 fun σ' st' o' _ _ f'=>k σ' H1 H' ⟨st',t1.stp,fun a z=>.inl (t1.own a (o' a z)),f'⟩
  ·contradiction
theorem bd_tup {K : PySem.W.Frag} (is : List Nat) {n : Nat} (hn : is.length = n) : BD is (gTup K n (gNames is)) (_d.bT is):=by
 intro H0 H σ ρ ρ' x d Q st r e k
 unfold _d.bT at e
 split at e
 ·cases r with
  | tup q rs=>exact ⟨_,_,rfl,SqT.of (st.same _ _ q),by rw [rs.length,sets_len e,hn],sets_ok st rs e k⟩
 ·contradiction
theorem r_app {K : PySem.W.Frag} {i : Nat} {f : _d.FE} (h : tDS (_d.sApp i f) D σ H) : tDrop (tBM K "list" rAppend (tVar i) (tDA [f])) D σ H:=by
 obtain ⟨H0,ρ,o,st,e,k⟩:=h
 unfold _d.sApp at e
 split at e
 ·rename_i ds0 h0
  refine bc fun ζ=>?_
  obtain ⟨a0,q0,n0,w0⟩:=st.ow i _ h0
  apply ζ;clear ζ
  refine ⟨_,q0,?_⟩
  split at e
  ·contradiction
  rename_i x ρ1 e1
  split at e
  ·contradiction
  rename_i d ρ2 e2
  split at e
  ·rename_i ds h2
   split at e
   ·rename_i hz
    cases e
    refine bc fun ζ=>?_
    obtain ⟨xs0,y0,_⟩:=w0
    apply ζ;clear ζ
    refine ⟨.inl ⟨rfl,xs0,.inl (.inl y0)⟩,?_⟩
    refine ⟨H0,ρ,[x],ρ1,st,by unfold _d.eAs; rw [e1]; rfl,fun vs H0' H' t r=>?_⟩
    cases r with
    | cons r rr =>
     cases rr
     refine bc fun ζ=>?_
     obtain ⟨H1,t1,b1,r1,_,_⟩:=take1 t (Same.refl _) r e2
     obtain ⟨a,q,n,w⟩:=t1.st.ow i _ h2
     rw [q0] at q
     cases q
     obtain ⟨xs,y,rs⟩:=w
     apply ζ;clear ζ
     refine ⟨a0,xs,_,rfl,rfl,y,by rw [rs.length]; exact Nat.lt_of_lt_of_le hz (by decide),?_⟩
     have ow : Owned σ ρ2 a0:=⟨i,_,h2,q0⟩
     refine k σ H1 _ ⟨t1.st.write h2 q0 ⟨_,upd_same,rs.append (.cons r1 .nil)⟩,t1.stp.trans (Stp.write ow) fun b z=>.inl (t1.own b z),fun b z=>.inl (t1.own b (owned_write h2 z)),rfl⟩
   ·contradiction
  ·contradiction
 ·contradiction
theorem r_set {i : Nat} {j f : _d.FE} (h : tDS (_d.sSet i j f) D σ H) : tAsg (tD f) (gSub (tVar i) (tD j) rSetL) D σ H:=by
 obtain ⟨H0,ρ,o,st,e,k⟩:=h
 unfold _d.sSet at e
 split at e
 ·contradiction
 rename_i x ρ1 e1
 split at e
 ·contradiction
 rename_i d ρ2 e2
 split at e
 case h_2=>cases e
 rename_i d0 h2
 split at e
 ·rename_i m ρ3 e3
  split at e
  ·rename_i ds h3
   split at e
   ·contradiction
   ·rename_i p e4
    cases e
    refine ⟨H0,ρ,_,ρ1,st,e1,fun v H0' H' t r=>?_⟩
    refine bc fun ζ=>?_
    obtain ⟨H1,t1,b1,r1,_,_⟩:=take1 t (Same.refl _) r e2
    obtain ⟨a0,q0,_,_⟩:=t1.st.ow i _ h2
    apply ζ;clear ζ
    refine ⟨_,q0,H1,ρ2,_,ρ3,t1.st,e3,fun u H2 Hc t2 r2=>?_⟩
    refine bc fun ζ=>?_
    obtain ⟨a,q,n,w⟩:=t2.st.ow i _ h3
    rw [q0] at q
    cases q
    obtain ⟨xs,y,rs⟩:=w
    apply ζ;clear ζ
    refine ⟨a0,xs,m,p,rfl,Rep.isInt r2,y,by rw [rs.length]; exact e4,?_⟩
    have ow : Owned σ ρ3 a0:=⟨i,_,h3,q0⟩
    have tt:=t1.trans t2
    refine k σ H2 _ ⟨t2.st.write h3 q0 ⟨_,upd_same,rs.set (r1.mono t2.stp.s0) p⟩,tt.stp.trans (Stp.write ow) fun b z=>.inl (tt.own b z),fun b z=>.inl (tt.own b (owned_write h3 z)),rfl⟩
  ·contradiction
 ·contradiction
noncomputable def JW (J : It) (H00 : Hp) (ys : List _d.Dat) : Prop:=∀ H0 H,Same H00 H0→Same H0 H→(∀ i,ys.length≤i→J.stop i H) ∧
 ∀ (i : Nat) (d : _d.Dat),ys[i]? = some d→J.go i H∧∀ x H',J.yld i H x H'→∃ H0',Grow H0 H H0' H'∧Rep H0' x d
noncomputable def tDI (fi : _d.FI) : TI:=fun σ H R=>∃ H0 ρ ys ρ',RepSt H0 H σ ρ∧fi ρ = some (ys,ρ')∧∀ J H0' H',ESt σ ρ H0 H ρ' H0' H'→JW J H0' ys→R J H'
theorem r_for {fi : _d.FI} {bd : _d.FB} {g : TG} {body : _d.FS} {is : List Nat} (hb : BD is g bd) (h : tDS (_d.sFor fi bd body) D σ H) : tFor (tDI fi) g (tDS body) D σ H:=by
 refine bc fun ζ=>?_
 obtain ⟨H0,ρ,o,st,e,k⟩:=h
 unfold _d.sFor at e
 split at e
 ·contradiction
 rename_i ys ρ1 e1
 apply ζ;clear ζ
 refine ⟨H0,ρ,ys,ρ1,st,e1,fun J H00 Hb t1 jw=>?_⟩
 refine ⟨fun i m σ H=>∃ H0 ρ o,RepSt H0 H σ ρ∧Same H00 H0∧m = ys.length - i∧i≤ys.length∧_d.forD bd body (ys.drop i) ρ = some o∧OutOk D σ ρ H0 H o,
  ⟨ys.length,H00,ρ1,o,t1.st,Same.refl _,by simp,Nat.zero_le _,by simpa using e,k.pre t1.sst⟩,?_⟩
 intro i m σ H zP4
 refine bc fun ζ=>?_
 obtain ⟨H0,ρ,o,st,s00,rfl,hi,e,k⟩:=zP4
 obtain ⟨js,jg⟩:=jw H0 H s00 st.same
 apply ζ;clear ζ
 by_cases hlt : i < ys.length
 ·have hd : ys[i]? = some ys[i]:=by simp [hlt]
  obtain ⟨g1,g2⟩:=jg i ys[i] hd
  rw [List.drop_eq_getElem_cons hlt] at e
  unfold _d.forD at e
  refine .inr ⟨g1,fun σ' H'=>∃ H0 ρ o,RepSt H0 H' σ' ρ∧Same H00 H0∧_d.forD bd body (ys.drop (i + 1)) ρ = some o∧OutOk D σ' ρ H0 H' o,?_,fun x H' y=>?_⟩
  ·intro σ' H' zP2
   refine bc fun ζ=>?_
   obtain ⟨H0',ρ',o',h1,h2,h3,h4⟩:=zP2
   apply ζ;clear ζ
   exact ⟨ys.length - (i + 1),by lia,H0',ρ',o',h1,h2,rfl,hlt,h3,h4⟩
  ·obtain ⟨H0',gr,rx⟩:=g2 x H' y
   split at e
   ·contradiction
   ·rename_i ρ2 e2
    have t2:=ESt.grow st gr
    refine hb H0' H' σ ρ ρ2 x ys[i] _ t2.st rx e2 fun σ2 st2 o2 _ _ f2=>?_
    have t3 : SSt σ ρ H0 H σ2 ρ2 H0' H':=⟨st2,t2.stp,fun a z=>.inl (o2 a z),f2⟩
    have k3:=k.pre t3
    have s3 : Same H00 H0':=s00.trans gr.s0
    split at e
    ·rename_i ρ3 e3
     exact ⟨H0',ρ2,_,st2,e3,fun σ4 H4 Hd t4=>⟨H4,ρ3,o,t4.st,s3.trans t4.stp.s0,e,k3.pre t4⟩⟩
    ·rename_i ρ3 e3
     exact ⟨H0',ρ2,_,st2,e3,fun σ4 H4 Hd t4=>⟨H4,ρ3,o,t4.st,s3.trans t4.stp.s0,e,k3.pre t4⟩⟩
    ·rename_i ρ3 e3
     cases e
     exact ⟨H0',ρ2,_,st2,e3,k3⟩
    ·rename_i v ρ3 e3
     cases e
     exact ⟨H0',ρ2,_,st2,e3,k3⟩
    ·contradiction
 ·have e' : i = ys.length:=by lia
  subst e'
  rw [List.drop_length] at e
  cases e
  exact .inl ⟨js _ (Nat.le_refl _),k σ H0 H (.refl st)⟩
theorem jw_list {K : PySem.W.Frag} {H0 : Hp} {a : Addr} {xs : List V} {ds : List _d.Dat} (hq : Rd H0 a (.lst xs)) (rs : Reps H0 xs ds) : JW (Itl K a) H0 ds:=by
 intro H0' H s0 s1
 have q : SqL K H a xs:=.inl (Same.rd s1 (Same.rd s0 hq))
 refine ⟨fun i hi=>⟨xs,q,by rw [rs.length]; exact hi⟩,fun i d e=>?_⟩
 refine bc fun ζ=>?_
 obtain ⟨v,hv,rv⟩:=rs.get e
 apply ζ;clear ζ
 refine ⟨⟨xs,v,q,hv⟩,fun x H' y=>?_⟩
 refine bc fun ζ=>?_
 obtain ⟨e1,y⟩:=y
 subst e1
 have z:=y xs q
 rw [hv] at z
 cases z
 exact ζ (⟨H0',Grow.refl s1,rv.mono s0⟩)
theorem jw_tup {K : PySem.W.Frag} {H0 : Hp} {a : Addr} {xs : List V} {ds : List _d.Dat} (hq : H0 a = some (.tup xs)) (rs : Reps H0 xs ds) : JW (Itt K a) H0 ds:=by
 intro H0' H s0 s1
 have q : SqT K H a xs:=.inl (.inl (s1 _ _ (s0 _ _ hq)))
 refine ⟨fun i hi=>⟨xs,q,by rw [rs.length]; exact hi⟩,fun i d e=>?_⟩
 refine bc fun ζ=>?_
 obtain ⟨v,hv,rv⟩:=rs.get e
 apply ζ;clear ζ
 refine ⟨⟨xs,v,q,hv⟩,fun x H' y=>?_⟩
 refine bc fun ζ=>?_
 obtain ⟨e1,y⟩:=y
 subst e1
 have z:=y xs q
 rw [hv] at z
 cases z
 exact ζ (⟨H0',Grow.refl s1,rv.mono s0⟩)
theorem jw_range {H0 : Hp} {lo : Int} {n : Nat} : JW (Itr lo n) H0 (_d.ups lo n):=by
 intro H0' H s0 s1
 have el : (_d.ups lo n).length = n:=by simp [_d.ups]
 refine ⟨fun i hi=>by rw [el] at hi; exact hi,fun i d e=>?_⟩
 have hi : i < n:=by have:=(List.getElem?_eq_some_iff.mp e).1; rw [el] at this; exact this
 have hd : d = .int (lo + i):=by
  unfold _d.ups at e
  rw [List.getElem?_map,List.getElem?_range hi] at e
  exact (Option.some.inj e).symm
 refine ⟨hi,fun x H' y=>?_⟩
 refine bc fun ζ=>?_
 obtain ⟨rfl,rfl⟩:=y
 subst hd
 exact ζ (⟨H0',Grow.refl s1,.int _⟩)
variable {R : It→Hp→Prop}
theorem r_iL {K : PySem.W.Frag} {f : _d.FE} (h : tDI (_d.iL f) σ H R) : iList K (tD f) σ H R:=by
 obtain ⟨H0,ρ,ys,ρ',st,e,k⟩:=h
 unfold _d.iL at e
 split at e
 ·contradiction
 rename_i x ρ1 e1
 split at e
 ·rename_i ds ρ2 e2
  cases e
  refine ⟨H0,ρ,_,ρ1,st,e1,fun v H0' H' t r=>?_⟩
  refine bc fun ζ=>?_
  obtain ⟨H1,t1,b1,r1,_,_⟩:=take1 t (Same.refl _) r e2
  apply ζ;clear ζ
  cases r1 with
  | lst q rs=>exact ⟨_,rfl,⟨_,.inl (Same.rd t1.st.same q)⟩,k _ H1 H' t1 (jw_list q rs)⟩
 ·contradiction
theorem r_iT {K : PySem.W.Frag} {f : _d.FE} (h : tDI (_d.iT f) σ H R) : iTup K (tD f) σ H R:=by
 obtain ⟨H0,ρ,ys,ρ',st,e,k⟩:=h
 unfold _d.iT at e
 split at e
 ·contradiction
 rename_i x ρ1 e1
 split at e
 ·rename_i ds ρ2 e2
  cases e
  refine ⟨H0,ρ,_,ρ1,st,e1,fun v H0' H' t r=>?_⟩
  refine bc fun ζ=>?_
  obtain ⟨H1,t1,b1,r1,_,_⟩:=take1 t (Same.refl _) r e2
  apply ζ;clear ζ
  cases r1 with
  | tup q rs=>exact ⟨_,rfl,⟨_,.inl (.inl (t1.st.same _ _ q))⟩,k _ H1 H' t1 (jw_tup q rs)⟩
 ·contradiction
theorem r_iR1 {f : _d.FE} (h : tDI (_d.iR1 f) σ H R) : iRng1 (tDA [f]) σ H R:=by
 obtain ⟨H0,ρ,ys,ρ',st,e,k⟩:=h
 unfold _d.iR1 at e
 split at e
 ·rename_i j ρ1 e1
  split at e
  ·rename_i hb
   cases e
   refine ⟨H0,ρ,[.val (.int j)],_,st,by unfold _d.eAs; rw [e1]; rfl,fun vs H0' H' t r=>?_⟩
   cases r with
   | cons r rr =>
    cases rr
    cases Rep.isInt r
    have h1:=hb.1
    have h2:=hb.2
    unfold _d.BIG at h1 h2
    exact ⟨j,rfl,by lia,by lia,k _ H0' H' t jw_range⟩
  ·contradiction
 ·contradiction
theorem r_iR2 {f g : _d.FE} (h : tDI (_d.iR2 f g) σ H R) : iRng2 (tDA [f,g]) σ H R:=by
 obtain ⟨H0,ρ,ys,ρ',st,e,k⟩:=h
 unfold _d.iR2 at e
 split at e
 ·rename_i i ρ1 e1
  split at e
  ·rename_i j ρ2 e2
   split at e
   ·rename_i hb
    cases e
    refine ⟨H0,ρ,[.val (.int i),.val (.int j)],_,st,by unfold _d.eAs; rw [e1]; dsimp only; unfold _d.eAs; rw [e2]; rfl,fun vs H0' H' t r=>?_⟩
    cases r with
    | cons r rr =>
     cases rr with
     | cons r' rr =>
      cases rr
      cases Rep.isInt r
      cases Rep.isInt r'
      obtain ⟨h1,h2,h3,h4⟩:=hb
      unfold _d.BIG at h1 h2 h3 h4
      exact ⟨i,j,rfl,⟨by lia,by lia,by lia,by lia⟩,k _ H0' H' t jw_range⟩
   ·contradiction
  ·contradiction
 ·contradiction
noncomputable def tLC (wi : TI) (own : Nat) (g : TG) (tt : TT) (te : TE) : TE:=fun σ H Q=>wi σ H fun J H1=>∀ D,H1 D = none→∃ W : Nat→Nat→St→Hp→Prop,
 (∃ m,W 0 m (σ ++ List.replicate own none) (upd H1 D (.lst [])))∧∀ i m σ' H',W i m σ' H' →
  (J.stop i H'∧Q (.ref D) H')∨(J.go i H'∧∀ x H2,J.yld i H' x H2→g x σ' H2 fun σ2 H3=>tt σ2 H3 fun b H4=>if b = true
   then te σ2 H4 fun y H5=>∃ acc,H5 D = some (.lst acc)∧acc.length < sizeLine∧∃ m',m' < m∧W (i + 1) m' σ2 (upd H5 D (.lst (acc ++ [y])))
   else ∃ m',m' < m∧W (i + 1) m' σ2 H4)
theorem RepSt.aside {H0 H : Hp} {σ : St} {ρ : _d.Env} {a : Addr} {o : HO} (st : RepSt H0 H σ ρ) (n0 : H0 a = none) (no : ¬ Owned σ ρ a) : RepSt H0 (upd H a o) σ ρ where
 same:=fun b u z=>by rw [upd_ne (ne_of_none z n0)]; exact st.same _ _ z
 len:=st.len
 sh:=st.sh
 ow:=fun j d h=>by
  obtain ⟨b,q,n,w⟩:=st.ow j d h
  have nb : b≠a:=fun y=>no ⟨j,d,h,y ▸ q⟩
  exact ⟨b,q,n,w.mono (Same.refl _) (upd_ne nb)⟩
 dis:=st.dis
theorem RepSt.notOwned {H0 H : Hp} {σ : St} {ρ : _d.Env} {a : Addr} (st : RepSt H0 H σ ρ) (h : H a = none) : ¬ Owned σ ρ a:=fun ⟨i,d,h1,h2⟩=>by
 obtain ⟨b,q,n,w⟩:=st.ow i d h1
 rw [h2] at q
 cases q
 obtain ⟨o,z⟩:=w.some
 rw [h] at z; cases z
theorem get_ext {α : Type} {l : List α} {r : List α} {i : Nat} {x : α} (h : (l ++ r)[i]? = some x) (n : x ∉ r) : i < l.length∧l[i]? = some x:=by
 by_cases hi : i < l.length
 ·rw [List.getElem?_append_left hi] at h
  exact ⟨hi,h⟩
 ·rw [List.getElem?_append_right (Nat.not_lt.mp hi)] at h
  exact absurd (List.mem_of_getElem? h) n
theorem sh_notun {d : _d.Dat} {k : Nat} : _d.Cell.sh d ∉ List.replicate k _d.Cell.un:=fun h=>by
 have:=List.eq_of_mem_replicate h
 cases this
theorem ow_notun {d : _d.Dat} {k : Nat} : _d.Cell.ow d ∉ List.replicate k _d.Cell.un:=fun h=>by
 have:=List.eq_of_mem_replicate h
 cases this
theorem RepSt.ext {H0 H : Hp} {σ : St} {ρ : _d.Env} (st : RepSt H0 H σ ρ) (k : Nat) : RepSt H0 H (σ ++ List.replicate k none) (ρ ++ List.replicate k .un) where
 same:=st.same
 len:=by simp [st.len]
 sh:=fun i d h=>by
  obtain ⟨hi,h⟩:=get_ext h sh_notun
  obtain ⟨v,q,r⟩:=st.sh i d h
  exact ⟨v,by rw [List.getElem?_append_left (by rw [st.len]; exact hi)]; exact q,r⟩
 ow:=fun i d h=>by
  obtain ⟨hi,h⟩:=get_ext h ow_notun
  obtain ⟨v,q,r⟩:=st.ow i d h
  exact ⟨v,by rw [List.getElem?_append_left (by rw [st.len]; exact hi)]; exact q,r⟩
 dis:=fun i j d e a h1 h2 h3 h4=>by
  obtain ⟨hi,h1⟩:=get_ext h1 ow_notun
  obtain ⟨hj,h2⟩:=get_ext h2 ow_notun
  rw [List.getElem?_append_left (by rw [st.len]; exact hi)] at h3
  rw [List.getElem?_append_left (by rw [st.len]; exact hj)] at h4
  exact st.dis i j d e a h1 h2 h3 h4
theorem owned_ext {H0 H : Hp} {σ : St} {ρ : _d.Env} (st : RepSt H0 H σ ρ) {k : Nat} {a : Addr} (h : Owned (σ ++ List.replicate k none) (ρ ++ List.replicate k .un) a) : Owned σ ρ a:=by
 obtain ⟨i,d,h1,h2⟩:=h
 obtain ⟨hi,h1⟩:=get_ext h1 ow_notun
 rw [List.getElem?_append_left (by rw [st.len]; exact hi)] at h2
 exact ⟨i,d,h1,h2⟩
theorem Stp.aside {O : Addr→Prop} {H0 H H0' H' : Hp} {D : Addr} {o : HO} (t : Stp O H0 H H0' H') (hD : H D = none) : Stp O H0 H H0' (upd H' D o) :=
 ⟨t.s0,fun a u e n=>by rw [upd_ne (ne_of_none e hD)]; exact t.s1 a u e n,t.s2,fun a u e=>by rw [upd_ne (ne_of_none e hD)]; exact t.s3 a u e⟩
theorem ESt.stay0 {σ : St} {ρ ρ' : _d.Env} {H0 H H0' H' : Hp} (t : ESt σ ρ H0 H ρ' H0' H') {D : Addr} {o : HO} (h : H D = some o) (n0 : H0 D = none) (no : ¬ Owned σ ρ D) : H' D = some o∧H0' D = none∧¬ Owned σ ρ' D:=by
 refine ⟨t.stp.s1 D o h no,?_,fun z=>no (t.own D z)⟩
 cases q : H0' D with
 | none=>rfl
 | some u =>
  rcases t.stp.s2 D u q with z | z | z
  ·rw [h] at z; cases z
  ·rw [n0] at z; cases z
  ·exact absurd z no
noncomputable def JWa (J : It) (H00 : Hp) (pa : Option (Addr×HO)) (ys : List _d.Dat) : Prop:=∀ H0 H,Same H00 H0→Same H0 H→(∀ q,pa = some q→H q.1 = some q.2)→(∀ i,ys.length≤i→J.stop i H) ∧
 ∀ (i : Nat) (d : _d.Dat),ys[i]? = some d→J.go i H∧∀ x H',J.yld i H x H'→∃ H0',Grow H0 H H0' H'∧Rep H0' x d
theorem comp_run {σ : St} {own : Nat} {bd : _d.FB} {g : TG} {t : _d.FT} {el : _d.FE} {is : List Nat} {Q : VK} {H00 Hb : Hp} {ρ1 ρ2 : _d.Env} {ds ys : List _d.Dat} {J : It} {pa : Option (Addr×HO)} (hb : BD is g bd) (hl : ∀ i∈is,σ.length≤i)
  (st1 : RepSt H00 Hb σ ρ1) (hp : ∀ q,pa = some q→Hb q.1 = some q.2∧H00 q.1 = none∧¬ Owned σ ρ1 q.1) (jw : JWa J H00 pa ds) (hsz : ds.length≤_d.SZ) (e2 : _d.compD bd t el ds (ρ1 ++ List.replicate own .un) [] = some (ys,ρ2))
  (k : ∀ v H0' H',ESt σ ρ1 H00 Hb (ρ2.take ρ1.length) H0' H'→RepV Hb H0' H' σ (ρ2.take ρ1.length) v (.new (.lst ys))→(∀ q,pa = some q→H' q.1 = some q.2∧H0' q.1 = none)→Q v H') (D : Addr) (hD : Hb D = none) :
  ∃ W : Nat→Nat→St→Hp→Prop,(∃ m,W 0 m (σ ++ List.replicate own none) (upd Hb D (.lst [])))∧∀ i m σ' H',W i m σ' H' →
  (J.stop i H'∧Q (.ref D) H')∨(J.go i H'∧∀ x H2,J.yld i H' x H2→g x σ' H2 fun σ2 H3=>tDT t σ2 H3 fun b H4=>if b = true
   then tD el σ2 H4 fun y H5=>∃ acc,H5 D = some (.lst acc)∧acc.length < sizeLine∧∃ m',m' < m∧W (i + 1) m' σ2 (upd H5 D (.lst (acc ++ [y])))
   else ∃ m',m' < m∧W (i + 1) m' σ2 H4):=by
 have hpD : ∀ q,pa = some q→q.1≠D:=fun q e z=>by have:=(hp q e).1; rw [z,hD] at this; cases this
 have noD : ¬ Owned σ ρ1 D:=st1.notOwned hD
 obtain ⟨W,hW⟩ : ∃ W : Nat→Nat→St→Hp→Prop,∀ i m σ' H',W i m σ' H'↔∃ (H0c : Hp) (ρc : _d.Env) (accD : List _d.Dat) (accV : List V),RepSt H0c H' σ' ρc∧Same H00 H0c∧m = ds.length - i∧i≤ds.length∧_d.compD bd t el (ds.drop i) ρc accD = some (ys,ρ2) ∧
  H' D = some (.lst accV)∧Reps H0c accV accD∧H0c D = none∧accD.length≤i∧Stp (Owned σ ρ1) H00 Hb H0c H'∧(∀ j,j < σ.length→σ'[j]? = σ[j]?)∧(∀ a,Owned σ' ρc a→Owned σ ρ1 a)∧(∀ j,Def ρ1 j→Def ρc j)∧(∀ q,pa = some q→H' q.1 = some q.2∧H0c q.1 = none∧¬ Owned σ' ρc q.1):=⟨_,fun _ _ _ _=>Iff.rfl⟩
 refine ⟨W,⟨ds.length,(hW _ _ _ _).mpr ⟨H00,ρ1 ++ List.replicate own .un,[],[],(st1.aside (st1.same.free hD) noD).ext own,Same.refl _,by simp,Nat.zero_le _,by simpa using e2,upd_same,.nil,st1.same.free hD,Nat.zero_le _,(Stp.refl _ _ _).aside hD,
   fun j hj=>List.getElem?_append_left hj,fun a z=>owned_ext st1 z,fun j z=>trivial,fun q e=>⟨by rw [upd_ne (hpD q e)]; exact (hp q e).1,(hp q e).2.1,fun z=>(hp q e).2.2 (owned_ext st1 z)⟩⟩⟩,?_⟩
 intro i m σ' H' w
 refine bc fun ζH=>?_
 obtain ⟨H0c,ρc,accD,accV,sc,s00,rfl,hi,ec,hDl,ra,n0,hal,sp,hσ,ho,hdf,hpc⟩:=(hW i m σ' H').mp w
 have nOc : ¬ Owned σ' ρc D:=fun z=>noD (ho D z)
 obtain ⟨js,jg⟩:=jw H0c H' s00 sc.same fun q e=>(hpc q e).1
 by_cases hlt : i < ds.length
 ·have hd : ds[i]? = some ds[i]:=by simp [hlt]
  obtain ⟨g1,g2⟩:=jg i ds[i] hd
  rw [List.drop_eq_getElem_cons hlt] at ec
  unfold _d.compD at ec
  refine ζH (.inr ⟨g1,fun y H2 yy=>?_⟩)
  clear ζH
  refine bc fun ζ=>?_
  obtain ⟨H0',gr,rx⟩:=g2 y H2 yy
  split at ec
  ·contradiction
  rename_i ρ3 e3
  have t2:=ESt.grow sc gr
  obtain ⟨hD2,n02,no2⟩:=t2.stay0 hDl n0 nOc
  apply ζ;clear ζ
  have hp2:=fun q e=>t2.stay0 (hpc q e).1 (hpc q e).2.1 (hpc q e).2.2
  refine hb H0' H2 σ' ρc ρ3 y ds[i] _ t2.st rx e3 fun σ3 st3 o3 k3 d3 _=>?_
  have no3 : ¬ Owned σ3 ρ3 D:=fun z=>no2 (o3 D z)
  have po3 : ∀ q,pa = some q→¬ Owned σ3 ρ3 q.1:=fun q e z=>(hp2 q e).2.2 (o3 q.1 z)
  have hσ3 : ∀ j,j < σ.length→σ3[j]? = σ[j]?:=fun j hj=>(k3 j fun z=>Nat.not_lt.mpr (hl j z) hj).trans (hσ j hj)
  have ho3 : ∀ a,Owned σ3 ρ3 a→Owned σ ρ1 a:=fun a z=>ho a (o3 a z)
  have hdf3 : ∀ j,Def ρ1 j→Def ρ3 j:=fun j z=>d3 j (hdf j z)
  have sp3 : Stp (Owned σ ρ1) H00 Hb H0' H2:=sp.trans t2.stp fun a z=>.inl (ho a z)
  have ra3:=ra.mono gr.s0
  have s3 : Same H00 H0':=s00.trans gr.s0
  split at ec
  ·contradiction
  ·rename_i ρ4 e4
   refine ⟨H0',ρ3,false,ρ4,st3,e4,fun H0'' H'' t4=>?_⟩
   dsimp only
   rw [if_neg Bool.false_ne_true]
   refine bc fun ζ=>?_
   obtain ⟨hD4,n04,no4⟩:=t4.stay0 hD2 n02 no3
   apply ζ;clear ζ
   have hp4:=fun q e=>t4.stay0 (hp2 q e).1 (hp2 q e).2.1 (po3 q e)
   exact ⟨ds.length - (i + 1),by lia,(hW _ _ _ _).mpr ⟨H0'',ρ4,accD,accV,t4.st,s3.trans t4.stp.s0,rfl,hlt,ec,hD4,ra3.mono t4.stp.s0,n04,Nat.le_succ_of_le hal,sp3.trans t4.stp fun a z=>.inl (ho3 a z),hσ3,fun a z=>ho3 a (t4.own a z),fun j z=>t4.dfn j (hdf3 j z),hp4⟩⟩
  ·rename_i ρ4 e4
   refine ⟨H0',ρ3,true,ρ4,st3,e4,fun H0'' H'' t4=>?_⟩
   dsimp only
   rw [if_pos rfl]
   refine bc fun ζ=>?_
   obtain ⟨hD4,n04,no4⟩:=t4.stay0 hD2 n02 no3
   have hp4:=fun q e=>t4.stay0 (hp2 q e).1 (hp2 q e).2.1 (po3 q e)
   split at ec
   ·contradiction
   rename_i x5 ρ5 e5
   split at ec
   ·contradiction
   rename_i y6 ρ6 e6
   apply ζ;clear ζ
   refine ⟨H0'',ρ4,x5,ρ5,t4.st,e5,fun v H5 Hc t5 r5=>?_⟩
   refine bc fun ζ=>?_
   obtain ⟨H6,t6,b6,r6,_,_⟩:=take1 t5 (Same.refl _) r5 e6
   obtain ⟨hD6,n06,no6⟩:=t6.stay0 hD4 n04 no4
   apply ζ;clear ζ
   have hp6:=fun q e=>t6.stay0 (hp4 q e).1 (hp4 q e).2.1 (hp4 q e).2.2
   refine ⟨accV,hD6,?_,ds.length - (i + 1),by lia,(hW _ _ _ _).mpr ⟨H6,ρ6,accD ++ [y6],accV ++ [v],t6.st.aside n06 no6,(s3.trans t4.stp.s0).trans t6.stp.s0,rfl,hlt,ec,upd_same,?_,n06,?_,?_,hσ3,fun a z=>ho3 a (t4.own a (t6.own a z)),fun j z=>t6.dfn j (t4.dfn j (hdf3 j z)),fun q e=>⟨by rw [upd_ne (hpD q e)]; exact (hp6 q e).1,(hp6 q e).2.1,(hp6 q e).2.2⟩⟩⟩
   ·rw [ra.length]
    unfold _d.SZ at hsz
    exact Nat.lt_of_le_of_lt (Nat.le_trans hal (Nat.le_trans (Nat.le_of_lt hlt) hsz)) (by decide)
   ·exact ((ra3.mono t4.stp.s0).mono t6.stp.s0).append (.cons r6 .nil)
   ·rw [List.length_append,List.length_singleton]; lia
   ·exact ((sp3.trans t4.stp fun a z=>.inl (ho3 a z)).trans t6.stp fun a z=>.inl (ho3 a (t4.own a z))).aside hD
 ·have e' : i = ds.length:=by lia
  subst e'
  rw [List.drop_length] at ec
  cases ec
  refine ζH (.inl ⟨js _ (Nat.le_refl _),k _ H0c H' ?_ ?_ fun q e=>⟨(hpc q e).1,(hpc q e).2.1⟩⟩)
  ·have hlen : σ.length≤ρ2.length:=by
    rw [← sc.len]
    refine Nat.not_lt.mp fun z=>?_
    have q:=hσ σ'.length z
    rw [List.getElem?_eq_none (Nat.le_refl _),List.getElem?_eq_getElem z] at q
    cases q
   have tk : ∀ {j : Nat} {c : _d.Cell},(ρ2.take ρ1.length)[j]? = some c→j < σ.length∧ρ2[j]? = some c:=fun {j c} h=>by
    have hj : j < ρ1.length:=by
     have:=(List.getElem?_eq_some_iff.mp h).1
     rw [List.length_take] at this
     lia
    rw [List.getElem?_take_of_lt hj] at h
    exact ⟨by rw [st1.len]; exact hj,h⟩
   have own' : ∀ a,Owned σ (ρ2.take ρ1.length) a→Owned σ' ρ2 a:=fun a ⟨j,d,h1,h2⟩=>by
    obtain ⟨hj,h1⟩:=tk h1
    exact ⟨j,d,h1,(hσ j hj).trans h2⟩
   refine ⟨⟨sc.same,?_,fun j d h=>?_,fun j d h=>?_,fun j j' d d' a h1 h2 h3 h4=>?_⟩,sp,fun a z=>ho a (own' a z),fun j z=>?_⟩
   ·rw [List.length_take,← st1.len]; lia
   ·refine bc fun ζ=>?_
    obtain ⟨hj,h⟩:=tk h
    obtain ⟨v,q,r⟩:=sc.sh j d h
    exact ζ (⟨v,(hσ j hj).symm.trans q,r⟩)
   ·refine bc fun ζ=>?_
    obtain ⟨hj,h⟩:=tk h
    obtain ⟨v,q,r⟩:=sc.ow j d h
    exact ζ (⟨v,(hσ j hj).symm.trans q,r⟩)
   ·refine bc fun ζ=>?_
    obtain ⟨hj,h1⟩:=tk h1
    obtain ⟨hj',h2⟩:=tk h2
    exact ζ (sc.dis j j' d d' a h1 h2 ((hσ j hj).trans h3) ((hσ j' hj').trans h4))
   ·trivial
  ·refine ⟨D,rfl,hD,fun ⟨j,d,h1,h2⟩=>?_,n0,accV,hDl,ra⟩
   have hj : j < ρ1.length:=by
    have:=(List.getElem?_eq_some_iff.mp h1).1
    rw [List.length_take] at this
    lia
   rw [List.getElem?_take_of_lt hj] at h1
   exact nOc ⟨j,d,h1,(hσ j (by rw [st1.len]; exact hj)).trans h2⟩
theorem r_comp {fi : _d.FI} {own : Nat} {bd : _d.FB} {g : TG} {t : _d.FT} {el : _d.FE} {is : List Nat} {Q : VK} (hb : BD is g bd) (hl : ∀ i∈is,σ.length≤i) (h : tD (_d.eComp fi own bd t el) σ H Q) :
  tLC (tDI fi) own g (tDT t) (tD el) σ H Q:=by
 refine bc fun ζ=>?_
 obtain ⟨H0,ρ,x,ρ',st,e,k⟩:=h
 unfold _d.eComp at e
 split at e
 ·contradiction
 rename_i ds ρ1 e1
 split at e
 case isFalse=>cases e
 rename_i hsz
 split at e
 ·contradiction
 rename_i ys ρ2 e2
 cases e
 apply ζ;clear ζ
 refine ⟨H0,ρ,ds,ρ1,st,e1,fun J H00 Hb t1 jw D hD=>comp_run (pa:=none) hb hl t1.st (fun q e=>by cases e) (fun H0 H s0 s1 _=>jw H0 H s0 s1) hsz e2 (fun v H0' H' t2 r2 _=>k v H0' H' (t1.trans t2) (r2.early fun a n=>t1.stp.gone n)) D hD⟩
theorem fn_len {n m : Nat} {body : _d.FS} {vs : List V} {H : Hp} {Q : VK} {E : XK} (h : spD (_d.fn n m body) vs H Q E) : vs.length = n:=by
 obtain ⟨H0,ds,z,s,rs,e,k⟩:=h
 unfold _d.fn at e
 split at e
 ·rename_i hl
  rw [rs.length]; exact hl
 ·contradiction
theorem r_fn {N : List Str} {n m : Nat} {body : _d.FS} {vs : List V} {Q : VK} {E : XK} (hm : N.length = n + m) (h : spD (_d.fn n m body) vs H Q E) :
  tDS body { nx:=fun _ H'=>Q .non H',rt:=Q } (start N vs) H:=by
 have hvn:=fn_len h
 refine bc fun ζ=>?_
 obtain ⟨H0,ds,z,s,rs,e,k⟩:=h
 apply ζ;clear ζ
 have hl:=rs.length
 have no : ∀ a,¬ Owned (start N vs) (ds.map _d.Cell.sh ++ List.replicate m .un) a:=fun a ⟨i,d,h1,_⟩=>by
  by_cases hi : i < ds.length
  ·rw [List.getElem?_append_left (by simpa using hi),List.getElem?_map] at h1
   cases q : ds[i]? with
   | none=>rw [q] at h1; cases h1
   | some y=>rw [q] at h1; cases h1
  ·rw [List.getElem?_append_right (by simpa using hi),List.getElem?_replicate] at h1
   split at h1 <;> cases h1
 have st : RepSt H0 H (start N vs) (ds.map _d.Cell.sh ++ List.replicate m .un):=by
  refine ⟨s,?_,fun i d h=>?_,fun i d h=>?_,fun i j d e a h1 h2 _ _=>?_⟩
  ·unfold _l.start
   simp only [List.length_append,List.length_map,List.length_replicate]
   lia
  ·have hi : i < ds.length:=by
    by_cases hi : i < ds.length
    ·exact hi
    ·rw [List.getElem?_append_right (by simpa using hi),List.getElem?_replicate] at h
     split at h <;> cases h
   rw [List.getElem?_append_left (by simpa using hi),List.getElem?_map] at h
   cases q : ds[i]? with
   | none=>rw [q] at h; cases h
   | some y =>
    rw [q] at h
    cases h
    refine bc fun ζ=>?_
    obtain ⟨v,hv,r⟩:=rs.get q
    apply ζ;clear ζ
    refine ⟨v,?_,r⟩
    unfold _l.start
    rw [List.getElem?_append_left (by simpa [hl] using hi),List.getElem?_map,hv]
    rfl
  ·by_cases hi : i < ds.length
   ·rw [List.getElem?_append_left (by simpa using hi),List.getElem?_map] at h
    cases q : ds[i]? with
    | none=>rw [q] at h; cases h
    | some y=>rw [q] at h; cases h
   ·rw [List.getElem?_append_right (by simpa using hi),List.getElem?_replicate] at h
    split at h <;> cases h
  ·by_cases hi : i < ds.length
   ·rw [List.getElem?_append_left (by simpa using hi),List.getElem?_map] at h1
    cases q : ds[i]? with
    | none=>rw [q] at h1; cases h1
    | some y=>rw [q] at h1; cases h1
   ·rw [List.getElem?_append_right (by simpa using hi),List.getElem?_replicate] at h1
    split at h1 <;> cases h1
 have gr : ∀ {H0' H'},Stp (Owned (start N vs) (ds.map _d.Cell.sh ++ List.replicate m .un)) H0 H H0' H'→Same H0' H'→Grow H0 H H0' H':=fun {H0' H'} t ss =>
  ⟨t.s0,fun a o e=>t.s1 a o e (no a),fun a o e=>(t.s2 a o e).imp id fun q=>q.elim id fun z=>absurd z (no a),ss⟩
 unfold _d.fn at e
 rw [if_pos (by rw [← hl]; exact hvn)] at e
 split at e
 ·rename_i r ρ' e1
  cases e
  refine ⟨H0,_,_,st,e1,fun σ' v H0' H' t r _=>k v H0' H' (gr t.stp t.st.same) ?_⟩
  cases z with
  | val d=>exact r
  | new d =>
   refine bc fun ζ=>?_
   obtain ⟨a,e,n,n0,w⟩:=r
   exact ζ (⟨a,e,n.elim id fun z=>absurd z (no a),n0,w⟩)
 ·rename_i ρ' e1
  cases e
  exact ⟨H0,_,_,st,e1,fun σ' H0' H' t=>k _ H0' H' (gr t.stp t.st.same) .non⟩
 ·contradiction
end
open PySem PySem.Spec PyProof.Rows _l
noncomputable def compX (X : Cx) (nm : List Str) (scope : Scope) (own : List Str) (cl : List (Str×Addr)) (C : Addr) (s : Shared) (H : Hp) (fp : List Addr) : Cx where
 prog:=X.prog
 w:=X.w
 K:=X.K
 mg:=X.mg
 base:=X.base
 A:=X.A
 N:=nm ++ own
 s₀:=s
 H₀:=H
 env:=compEnvC scope cl C X.env
 outer:=X.stack
 stack:=X.stack
 ex:=fp
 fn:=fun _=>false
 calm:=X.calm
 pn:=[]
 xe:=fun _ _=>False
noncomputable def PTs (X : Cx) (ifs : List Expr) (t : TT) : Prop :=
 ∀ (pins : List (Addr×Obj)) (s : Shared) (σ : _l.St) (H : Hp) (Q : Bool→Hp→Prop),Inv X pins σ H s→t σ H Q →
  wpAny (model X.prog X.w) X.A (forIn ifs true fun c r=>if r = true then do let ok ← isTrue c X.env (eval c X.env); pure (ForInStep.yield ok) else pure (ForInStep.yield r)) (TP X pins σ Q) X.xe s
noncomputable def tYes : TT:=fun _ H Q=>Q true H
theorem pts_nil {X : Cx} : PTs X [] tYes:=fun pins s σ H Q I h=>wpAny_tests_nil ⟨H,I,h⟩
theorem pts_one {X : Cx} {c : Expr} {t : TT} (h : PT X c t) : PTs X [c] t:=fun pins s σ H Q I hq=>wpAny_tests_one (h pins s σ H Q I hq)
theorem closure_names (env : Env) : ∀ (names : List (Str×NameKind)) (cs : List (Str×Addr)),(∀ y∈names,y.2 = .free→∃ c,env.cells.lookup y.1 = some c) →
  ∃ cl,(forIn names cs fun (x : Str×NameKind) (r : List (Str×Addr))=>(if (x.2 == NameKind.free) = true then do let c ← cellOf env x.1; pure (ForInStep.yield ((x.1,c) :: r)) else pure (ForInStep.yield r) : Sem (ForInStep (List (Str×Addr))))) = pure cl ∧
   (∀ x c,cl.lookup x = some c→env.cells.lookup x = some c∨cs.lookup x = some c)∧(∀ y∈names,y.2 = .free→∃ c,cl.lookup y.1 = some c)∧(∀ x c,cs.lookup x = some c→∃ c',cl.lookup x = some c')
 | [],cs,_=>⟨cs,rfl,fun _ _ h=>.inr h,fun _ h=>(nomatch h),fun _ c h=>⟨c,h⟩⟩
 | (n,k) :: r,cs,h=>by
  have hr : ∀ y∈r,y.2 = .free→∃ c,env.cells.lookup y.1 = some c:=fun y hy=>h y (List.mem_cons_of_mem _ hy)
  by_cases hk : k = .free
  ·subst hk
   refine bc fun ζ=>?_
   obtain ⟨c,hc⟩:=h (n,.free) List.mem_cons_self rfl
   obtain ⟨cl,e,h1,h2,h3⟩:=closure_names env r ((n,c) :: cs) hr
   apply ζ;clear ζ
   refine ⟨cl,?_,fun x c' q=>?_,fun y hy hf=>?_,fun x c' q=>?_⟩
   ·rw [List.forIn_cons]
    have e1 : cellOf env n = pure c:=by unfold cellOf; rw [hc]
    simp only [beq_self_eq_true,if_true,e1,pure_bind]
    exact e
   ·rcases h1 x c' q with z | z
    ·exact .inl z
    ·rw [List.lookup_cons] at z
     cases hx : x == n with
     | true =>
      rw [hx] at z
      have : x = n:=by simpa using hx
      subst this
      injection z with z
      subst z
      exact .inl hc
     | false=>rw [hx] at z; exact .inr z
   ·rcases List.mem_cons.mp hy with rfl | hy
    ·exact h3 n c (by rw [List.lookup_cons,beq_self_eq_true])
    ·exact h2 y hy hf
   ·by_cases hx : x = n
    ·subst hx
     exact h3 x c (by rw [List.lookup_cons,beq_self_eq_true])
    ·have hx' : (x == n) = false:=by simpa using hx
     exact h3 x c' (by rw [List.lookup_cons,hx']; exact q)
  ·have hb : (k == NameKind.free) = false:=by simpa using hk
   refine bc fun ζ=>?_
   obtain ⟨cl,e,h1,h2,h3⟩:=closure_names env r cs hr
   apply ζ;clear ζ
   refine ⟨cl,?_,h1,fun y hy hf=>?_,h3⟩
   ·rw [List.forIn_cons]
    simp only [hb,Bool.false_eq_true,if_false,pure_bind]
    exact e
   ·rcases List.mem_cons.mp hy with rfl | hy
    ·exact absurd hf hk
    ·exact h2 y hy hf
theorem closure_of {env : Env} {scope : Scope} (h : ∀ y∈scope.names,y.2 = .free→∃ c,env.cells.lookup y.1 = some c) :
  ∃ cl,closureFor scope env = pure cl∧(∀ x c,cl.lookup x = some c→env.cells.lookup x = some c)∧∀ y∈scope.names,y.2 = .free→∃ c,cl.lookup y.1 = some c:=by
 refine bc fun ζ=>?_
 obtain ⟨cl,e,h1,h2,_⟩:=closure_names env scope.names [] h
 apply ζ;clear ζ
 refine ⟨cl,?_,fun x c q=>(h1 x c q).elim id fun z=>by simp at z,h2⟩
 unfold closureFor
 have e' : (forIn scope.names ([] : List (Str×Addr)) fun (x : Str×NameKind) (r : List (Str×Addr))=>(if (x.2 == NameKind.free) = true then do let c ← cellOf env x.1; pure (ForInStep.yield ((x.1,c) :: r)) else pure (ForInStep.yield r) : Sem (ForInStep (List (Str×Addr))))) = pure cl:=e
 first
  | (rw [show (forIn scope.names ([] : List (Str×Addr)) _ : Sem (List (Str×Addr))) = pure cl from e']; rfl)
  | (simp only [e']; rfl)
theorem compLoop_any {prog : Program} {w : World} {A : Around} {R : Result→Shared→Prop} {s : Shared} {elt target iter : Expr} {ifs : List Expr} {scope : Scope} {pos : Pos} {it acc : Value} {env : Env} (I : Nat→Shared→Prop)
  (turn : ∀ n s,I n s→wpAny (model prog w) A (pyNext it) (fun r s₁=>match r with
   | none=>R (.ok .next) s₁
   | some v=>wpAny (model prog w) A (letOwnedTupleGo target it v) (fun _ s₁'=>wpAny (model prog w) A (assign target env v) (fun _ s₂ =>
     wpAny (model prog w) A (forIn ifs true fun c r=>if r = true then do let ok ← isTrue c env (eval c env); pure (ForInStep.yield ok) else pure (ForInStep.yield r)) (fun ok s₃ =>
      if ok = true then wpAny (model prog w) A (eval elt env) (fun x s₄ =>
       wpAny (model prog w) A (call (.builtin "list.append") [acc, x]) (fun _ s₅=>∃ m, m < n∧I m s₅) (fun _ _=>False) s₄) (fun _ _=>False) s₃
      else ∃ m,m < n∧I m s₃) (fun _ _=>False) s₂) (fun _ _=>False) s₁') (fun _ _=>False) s₁) (fun _ _=>False) s)
  (n : Nat) (h : I n s) :
  codeAny (model prog w) A (.compLoop (.ListComp elt [⟨target,iter,ifs,0⟩] scope pos) 0 it acc env) R s:=by
 have no : ∀ {P : Value→Shared→Prop} (x : Value) (s' : Shared),False→P x s':=fun _ _ f=>f.elim
 refine codeAny_loop rfl I (fun n s hI=>?_) n h
 show wpAny _ A ((compTurn (.ListComp elt [⟨target,iter,ifs,0⟩] scope pos) 0 it acc env).onRaise (fun x=>do noteFrame x env; theTreesLotGoes x)) _ _ s
 refine wpAny_noted ?_
 rw [compTurn_list]
 refine wpAny_bind (wpAny_standAt (wpAny_bind (wpAny_mono (turn n s hI) (fun r s₁ h₁=>?_) no)))
 cases r with
 | none=>exact wpAny_pure h₁
 | some v =>
  refine wpAny_bind (wpAny_mono h₁ (fun _ s₁' h₁'=>?_) no)
  refine wpAny_bind (wpAny_mono h₁' (fun _ s₂ h₂=>wpAny_bind (wpAny_mono h₂ (fun ok s₃ h₃=>?_) no)) no)
  cases ok with
  | false=>exact wpAny_pure ⟨rfl,h₃⟩
  | true =>
   exact wpAny_bind (wpAny_bind (wpAny_mono h₃ (fun x s₄ h₄=>wpAny_bind (wpAny_mono h₄ (fun _ s₅ h₅=>wpAny_pure (wpAny_pure ⟨rfl,h₅⟩)) no)) no))
theorem relabel_names (env : Env) : ∀ (names : List (Str×NameKind)) (x : Str) (k : NameKind),
  (names.map fun (n,k)=>if (k == NameKind.free && env.scope.kind == .function && env.kindOf n == some .cell) then (n,NameKind.cell) else (n,k)).lookup x = some k →
  ∃ k0,names.lookup x = some k0∧(k = k0∨(k0 = .free∧k = .cell))
 | [],x,k,h=>by simp at h
 | (n,k1) :: r,x,k,h=>by
  have h : List.lookup x ((if (k1 == NameKind.free && env.scope.kind == .function && env.kindOf n == some .cell) = true then (n,NameKind.cell) else (n,k1)) :: r.map fun (n,k)=>if (k == NameKind.free && env.scope.kind == .function && env.kindOf n == some .cell) then (n,NameKind.cell) else (n,k)) = some k:=h
  cases hx : x == n with
  | true =>
   by_cases hc : (k1 == NameKind.free && env.scope.kind == .function && env.kindOf n == some .cell) = true
   ·rw [if_pos hc,List.lookup_cons,hx] at h
    injection h with h
    have hk : k1 = .free:=by
     simp only [Bool.and_eq_true,beq_iff_eq] at hc
     exact hc.1.1
    exact ⟨k1,by rw [List.lookup_cons,hx],.inr ⟨hk,h.symm⟩⟩
   ·rw [if_neg hc,List.lookup_cons,hx] at h
    injection h with h
    exact ⟨k1,by rw [List.lookup_cons,hx],.inl h.symm⟩
  | false =>
   by_cases hc : (k1 == NameKind.free && env.scope.kind == .function && env.kindOf n == some .cell) = true
   ·rw [if_pos hc,List.lookup_cons,hx] at h
    refine bc fun ζ=>?_
    obtain ⟨k0,e,z⟩:=relabel_names env r x k h
    apply ζ;clear ζ
    exact ⟨k0,by rw [List.lookup_cons,hx]; exact e,z⟩
   ·rw [if_neg hc,List.lookup_cons,hx] at h
    refine bc fun ζ=>?_
    obtain ⟨k0,e,z⟩:=relabel_names env r x k h
    apply ζ;clear ζ
    exact ⟨k0,by rw [List.lookup_cons,hx]; exact e,z⟩
structure CScope (X : Cx) (nm : List Str) (scope : Scope) : Prop where
 kind : scope.kind = .function
 cell : ∀ y∈scope.names,y.2≠.cell
 names : ∀ y∈scope.names,y.2 = .local→scope.names.lookup y.1 = some .local
 free : ∀ y∈scope.names,y.2 = .free→X.env.kindOf y.1 = some .cell∨X.env.kindOf y.1 = some .free
 apart : ∀ x∈nm,scope.names.lookup x≠some .local
 len : nm.length = X.N.length
 mask : ∀ (i : Nat) (x : Str),nm[i]? = some x→X.N[i]? = some x∨scope.names.lookup x = none
section
variable {X : Cx} {nm : List Str} {elt tg iter : Expr} {ifs : List Expr} {scope : Scope} {pos : Pos} {own : List Str} {wi : TI} {g : TG} {tt : TT} {te : TE}
theorem comp_core {pins : List (Addr×Obj)} {s2 : Shared} {σ : _l.St} {H2 : Hp} {cl : List (Str×Addr)} {it : Addr} {fp : List Addr} {tn : Nat→Heap→Prop} {J : It} {Q : VK} {E : Value→Shared→Prop} {RR : Value→Addr→Result→Shared→Prop}
  (hc : X.calm = true) (S : CScope X nm scope) (hcl1 : ∀ x c,cl.lookup x = some c→X.env.cells.lookup x = some c) (hcl2 : ∀ y∈scope.names,y.2 = .free→∃ c,cl.lookup y.1 = some c)
  (hg : ∀ cl C s H fp,PG (compX X nm scope own cl C s H fp) tg g) (ht : ∀ cl C s H fp,PTs (compX X nm scope own cl C s H fp) ifs tt) (he : ∀ cl C s H fp,PE (compX X nm scope own cl C s H fp) elt te)
  (I2 : Inv X pins σ H2 s2) (T : Turn X.prog X.w X.K tg J fp it tn) (st2 : tn 0 s2.heap) (f2 : ∀ b∈fp,FpOk X pins H2 b)
  (hR : ∀ D,H2 D = none→∃ W : Nat→Nat→_l.St→Hp→Prop,
   (∃ m,W 0 m (σ ++ List.replicate own.length none) (upd H2 D (.lst [])))∧∀ i m σ' H',W i m σ' H' →
    (J.stop i H'∧Q (.ref D) H')∨(J.go i H'∧∀ x H2,J.yld i H' x H2→g x σ' H2 fun σ2 H3=>tt σ2 H3 fun b H4=>if b = true
     then te σ2 H4 fun y H5=>∃ acc,H5 D = some (.lst acc)∧acc.length < sizeLine∧∃ m',m' < m∧W (i + 1) m' σ2 (upd H5 D (.lst (acc ++ [y])))
     else ∃ m',m' < m∧W (i + 1) m' σ2 H4))
  (hfin : ∀ D C H6 s6,Inv X pins σ H6 s6→H6 C = none→C≠X.env.locals→X.s₀.heap.objs.size≤C→(∀ x c,X.env.cells.lookup x = some c→c≠C)→(∀ p∈X.pn ++ pins,p.1≠C)→(∃ m,s6.heap.Ns C m)→Q (.ref D) H6→RR (.ref D) C (.ok .next) s6) :
  wpAny (model X.prog X.w) X.A (newList []) (fun acc s₃=>wpAny (model X.prog X.w) X.A (newFunctionEnv scope X.env.globals cl [] X.env.qual none .none (some X.env)) (fun cenv s₄ =>
   codeAny (model X.prog X.w) X.A (.compStart (.ListComp elt [⟨tg,iter,ifs,0⟩] scope pos) 0 (.ref it) acc { cenv with scope:=relabel scope X.env }) (RR acc cenv.locals) s₄) E s₃) E s2:=by
 have no : ∀ {P : Value→Shared→Prop} (x : Value) (s' : Shared),False→P x s':=fun _ _ f=>f.elim
 refine wpAny_newObj_type (wpAny_newFunctionEnv S.cell (by intro y hy; simp at hy) (fun h₁ hns₁ hsb₁=>?_) S.kind)
 dsimp only at hns₁ hsb₁ ⊢
 have I3 : Inv X pins σ (upd H2 s2.heap.objs.size (.lst [])) { s2 with heap:=s2.heap.push { cls:=.type "list",dict:=none,data:=.seq ([] : List Value).toArray } }:=I2.lnew (t':=s2.toks) (ys:=[]) (its:=[]) .nil (Nat.zero_le _)
 generalize hG2 : s2.heap.push { cls:=.type "list",dict:=none,data:=.seq ([] : List Value).toArray } = G2 at hns₁ hsb₁ I3 ⊢
 have hC : G2.objs.size = s2.heap.objs.size + 1:=by rw [← hG2,Heap.size_push]
 have up2 : ∀ b o,s2.heap.get? b = some o→G2.get? b = some o:=fun b o e=>hG2 ▸ Heap.get?_push_of_some _ e
 have up3 : ∀ b o,G2.get? b = some o→h₁.get? b = some o:=fun b o e=>hsb₁.extBut b o (Nat.ne_of_lt (Heap.lt_size e)) (Heap.get?_push_of_some _ e)
 have C_none : G2.get? G2.objs.size = none:=Heap.get?_none_of_le (Nat.le_refl _)
 have fpo : ∀ b∈fp,∃ o,s2.heap.get? b = some o:=fun b hb=>by
  refine bc fun ζ=>?_
  obtain ⟨o,e,_⟩:=T.obj 0 _ st2 b hb
  exact ζ (⟨o,e⟩)
 have fpC : ∀ b∈fp,b≠G2.objs.size:=fun b hb=>by
  obtain ⟨o,e⟩:=fpo b hb
  exact Nat.ne_of_lt (Heap.lt_size (up2 b o e))
 have H3C : (upd H2 s2.heap.objs.size (.lst [])) G2.objs.size = none:=I3.hok.fresh (Nat.le_refl _)
 have fpD : ∀ b∈fp,b≠s2.heap.objs.size:=fun b hb=>by
  obtain ⟨o,e⟩:=fpo b hb
  exact Nat.ne_of_lt (Heap.lt_size e)
 have stkN : ∀ b∈fp,b ∉ frs X.stack:=fun b hb z=>by
  rcases List.mem_cons.mp (I3.stkSub b z) with y | y
  ·exact (f2 b hb).2.1 y
  ·exact (f2 b hb).2.2.1 y
 let Y:=compX X nm scope own cl G2.objs.size { s2 with heap:=G2 } (upd H2 s2.heap.objs.size (.lst [])) fp
 have ok' : Y.Ok:=by
  refine ⟨I3.ok.mod,S.kind,I3.ok.glob,I3.ok.blt,Nat.le_refl _,fun x y c e1 e2=>I3.ok.inj x y c (hcl1 x c e1) (hcl1 y c e2),fun x hx=>?_,fun x c z=>(nomatch z),I3.ok.hd,I3.ok.frames,.inl rfl,
   fun b hb=>⟨fpC b hb,fun x c e=>(f2 b hb).2.2.2.2.1 x c (hcl1 x c e)⟩,fun b o e=>I3.bs b o e,Nat.le_trans I3.ok.bsz I3.sz,fun b o e hb=>?_,fun b hb=>stkN b hb,I3.stack,I3.stkFree⟩
  ·have hx : (relabel scope X.env).names.lookup x = some .cell∨(relabel scope X.env).names.lookup x = some .free:=hx
   have key : ∀ k,(relabel scope X.env).names.lookup x = some k→k≠.local→k = .cell∨k = .free→∃ c,cl.lookup x = some c:=fun k hk _ hkk=>by
    refine bc fun ζ=>?_
    obtain ⟨k0,e0,z⟩:=relabel_names X.env scope.names x k hk
    apply ζ;clear ζ
    have m0:=PySem.mem_of_lookup e0
    have f0 : k0 = .free:=by
     rcases z with z | z
     ·subst z
      rcases hkk with q | q
      ·exact absurd q (S.cell _ m0)
      ·exact q
     ·exact z.1
    exact hcl2 (x,k0) m0 f0
   rcases hx with hx | hx
   ·exact key _ hx (by decide) (.inl rfl)
   ·exact key _ hx (by decide) (.inr rfl)
  ·rcases (f2 b hb).2.2.2.1 with z | z
   ·exact I3.ok.noex b o e z
   ·exact absurd (Nat.lt_of_lt_of_le (Heap.lt_size e) (Nat.le_trans I3.ok.bsz z)) (Nat.lt_irrefl _)
 have stat : ∀ {H' : Hp},(∀ b∈fp,H' b = none)→∀ b∈fp,FpOk Y [] H' b:=fun hn b hb =>
  ⟨hn b hb,fpC b hb,stkN b hb,.inl hb,fun x c e=>(f2 b hb).2.2.2.2.1 x c (hcl1 x c e),fun p hp=>(nomatch (show p∈([] : List (Addr×Obj)) from hp))⟩
 have I4 : Inv Y [] (σ ++ List.replicate own.length none) (upd H2 s2.heap.objs.size (.lst [])) { s2 with heap:=h₁,toks:=s2.toks + ([] : List (Str×Value)).length }:=by
  refine ⟨ok',rfl,I3.bare,Un.kept up3,⟨_,hns₁,fun i x v e1 e2 e3=>?_⟩,fun x c e=>?_,H3C,fun x c e=>I3.freeC x c (hcl1 x c e),fun p hp=>(nomatch (show p∈([] : List (Addr×Obj)) from hp)),I3.hok.kept up3,?_⟩
  ·have e1 : (nm ++ own)[i]? = some x:=e1
   have hi : i < σ.length:=by
    by_cases hi : i < σ.length
    ·exact hi
    ·rw [List.getElem?_append_right (Nat.not_lt.mp hi),List.getElem?_replicate] at e2
     split at e2 <;> cases e2
   rw [List.getElem?_append_left hi] at e2
   rw [List.getElem?_append_left (by rw [S.len,← I3.len]; exact hi)] at e1
   have key : ∀ k,(relabel scope X.env).names.lookup x = some k→k = .local∨k = .cell∨k = .free→scope.names.lookup x = some .free∧(k = .cell∨k = .free):=fun k hk hkk=>by
    refine bc fun ζ=>?_
    obtain ⟨k0,e0,z⟩:=relabel_names X.env scope.names x k hk
    apply ζ;clear ζ
    have m0:=PySem.mem_of_lookup e0
    have n1 : k0≠.local:=fun y=>S.apart x (List.mem_of_getElem? e1) (y ▸ e0)
    have n2 : k0≠.cell:=S.cell _ m0
    rcases z with z | z
    ·subst z
     rcases hkk with q | q | q
     ·exact absurd q n1
     ·exact absurd q n2
     ·subst q; exact ⟨e0,.inr rfl⟩
    ·obtain ⟨z1,z2⟩:=z
     subst z1; subst z2
     exact ⟨e0,.inl rfl⟩
   have hk : ∃ k,(relabel scope X.env).names.lookup x = some k∧(k = .cell∨k = .free)∧scope.names.lookup x = some .free:=by
    rcases (show (relabel scope X.env).names.lookup x = some .local∨(relabel scope X.env).names.lookup x = some .cell∨(relabel scope X.env).names.lookup x = some .free from e3) with q | q | q
    ·obtain ⟨a,b⟩:=key _ q (.inl rfl); exact ⟨_,q,b,a⟩
    ·obtain ⟨a,b⟩:=key _ q (.inr (.inl rfl)); exact ⟨_,q,b,a⟩
    ·obtain ⟨a,b⟩:=key _ q (.inr (.inr rfl)); exact ⟨_,q,b,a⟩
   refine bc fun ζ=>?_
   obtain ⟨k,hk1,hk2,hk3⟩:=hk
   have m0:=PySem.mem_of_lookup hk3
   obtain ⟨c,hcc⟩:=hcl2 (x,.free) m0 rfl
   obtain ⟨m,hn,hl⟩:=I3.loc
   have hout:=S.free (x,.free) m0 rfl
   have hvis : Vis X.env.scope x:=by
    rcases hout with q | q
    ·exact .inr (.inl q)
    ·exact .inr (.inr q)
   have e1' : X.N[i]? = some x:=by
    rcases S.mask i x e1 with z | z
    ·exact z
    ·rw [z] at hk3; cases hk3
   obtain ⟨u,ru,lk⟩:=hl i x v e1' e2 hvis
   apply ζ;clear ζ
   refine ⟨u,ru,.inr ⟨?_,c,hcc,?_⟩⟩
   ·rcases hk2 with q | q
    ·subst q; exact .inl hk1
    ·subst q; exact .inr hk1
   ·rcases lk with ⟨q,_⟩ | ⟨_,c',e',z⟩
    ·rcases hout with y | y
     ·rw [q] at y; cases y
     ·rw [q] at y; cases y
    ·rw [hcl1 x c hcc] at e'
     cases e'
     refine bc fun ζ=>?_
     obtain ⟨o,ho,hd⟩:=z
     exact ζ (⟨o,up3 c o ho,hd⟩)
  ·refine bc fun ζ=>?_
   obtain ⟨v,o,ho,hd⟩:=I3.cell x c (hcl1 x c e)
   exact ζ (⟨v,o,up3 c o ho,hd⟩)
  ·show (σ ++ List.replicate own.length none).length = (nm ++ own).length
   rw [List.length_append,List.length_append,List.length_replicate,I3.len,S.len]
 refine bc fun ζ=>?_
 obtain ⟨W,⟨m0,w0⟩,turn⟩:=hR s2.heap.objs.size I2.fresh
 apply ζ;clear ζ
 have st4 : tn 0 h₁:=T.keep 0 _ _ st2 fun b hb o e=>up3 b o (up2 b o e)
 have H3fp : ∀ b∈fp,(upd H2 s2.heap.objs.size (.lst [])) b = none:=fun b hb=>by rw [upd_ne (fpD b hb)]; exact (f2 b hb).1
 obtain ⟨P,hP⟩ : ∃ P : Nat→Shared→Prop,∀ n s',P n s'↔∃ i σ' H',Inv Y [] σ' H' s'∧tn i s'.heap∧(∀ b∈fp,H' b = none)∧W i n σ' H':=⟨_,fun _ _=>Iff.rfl⟩
 have loop : ∀ s₃ : Shared,s₃ = { s2 with heap:=h₁,toks:=s2.toks + ([] : List (Str×Value)).length } →
   codeAny (model X.prog X.w) X.A (.compLoop (.ListComp elt [⟨tg,iter,ifs,0⟩] scope pos) 0 (.ref it) (.ref s2.heap.objs.size) (compEnvC scope cl G2.objs.size X.env))
    (RR (.ref s2.heap.objs.size) G2.objs.size) s₃:=by
  rintro s₃ rfl
  refine compLoop_any P ?_ m0 ((hP _ _).mpr ⟨0,_,_,I4,st4,H3fp,w0⟩)
  intro n s5 w
  refine bc fun ζH=>?_
  obtain ⟨i,σ5,H5,I5,st5,fr5,w5⟩:=(hP n s5).mp w
  rcases turn i n σ5 H5 w5 with ⟨stop,q⟩ | ⟨go,step⟩
  ·apply ζH; clear ζH
   refine wpAny_mono (T.done Y rfl rfl rfl hc i [] s5 σ5 H5 (fun _ _=>False) I5 (stat fr5) st5 stop) (fun r s6 hr6=>?_) no
   refine bc fun ζ=>?_
   obtain ⟨hr,I6⟩:=hr6
   subst hr
   apply ζ;clear ζ
   have I7 : Inv X pins σ H5 s6:=I3.call' (ch:=fp) I6.os I6.base I6.hok I6.bare fun b hb=>⟨(f2 b hb).2.2.2.1,(f2 b hb).2.1,(f2 b hb).2.2.2.2.1,(f2 b hb).2.2.2.2.2⟩
   refine hfin _ _ H5 s6 I7 I6.free (Nat.ne_of_gt (show X.env.locals < G2.objs.size from I3.lt)) I3.sz (fun x c e=>?_) (fun p hp=>?_) (let ⟨m,hn,_⟩:=I6.loc; ⟨m,hn⟩) q
   ·obtain ⟨v,z⟩:=I3.cell x c e
    exact Nat.ne_of_lt z.lt
   ·exact Nat.ne_of_lt (Heap.lt_size (I3.pin p hp).1)
  ·apply ζH; clear ζH
   refine wpAny_mono (T.item Y rfl rfl rfl hc i [] s5 σ5 H5 (fun _ _=>False) I5 (stat fr5) st5 go) (fun r s6 hr6=>?_) no
   refine bc fun ζ=>?_
   obtain ⟨u,hr,h6⟩:=hr6
   subst hr
   apply ζ;clear ζ
   refine wpAny_mono h6 (fun _ s7 h7=>?_) no
   refine bc fun ζ=>?_
   obtain ⟨x,H7,I7,r7,y7,st7,fr7⟩:=h7
   apply ζ;clear ζ
   have I7':=I7.pinned (stat fr7) (T.obj _ _ st7)
   have again : ∀ {s9 : Shared} {σ9 : _l.St} {H9 : Hp} {m' : Nat},m' < n→Inv Y ([] ++ pinsAt fp s7.heap) σ9 H9 s9→W (i + 1) m' σ9 H9 →
     ∃ m,m < n∧P m s9:=fun {s9 σ9 H9 m'} hm I9 w9=>by
    refine ⟨m',hm,(hP _ _).mpr ⟨i + 1,σ9,H9,I9.unpinned,T.keep _ _ _ st7 fun b hb o e=>(I9.pin (b,o) (List.mem_append_right _ (List.mem_append_right _ (mem_pinsAt hb e)))).1,fun b hb=>?_,w9⟩⟩
    refine bc fun ζ=>?_
    obtain ⟨o,e,d⟩:=T.obj _ _ st7 b hb
    exact ζ ((I9.pin (b,o) (List.mem_append_right _ (List.mem_append_right _ (mem_pinsAt hb e)))).2.1)
   refine wpAny_mono (hg cl G2.objs.size _ _ fp _ s7 σ5 H7 x u _ I7' r7 (step x H7 y7)) (fun _ s8 h8=>?_) no
   refine bc fun ζ=>?_
   obtain ⟨σ8,H8,I8,q8⟩:=h8
   apply ζ;clear ζ
   refine wpAny_mono (ht cl G2.objs.size _ _ fp _ s8 σ8 H8 _ I8 q8) (fun b s9 h9=>?_) no
   refine bc fun ζ=>?_
   obtain ⟨H9,I9,q9⟩:=h9
   apply ζ;clear ζ
   cases b with
   | false =>
    rw [if_neg Bool.false_ne_true] at q9 ⊢
    refine bc fun ζ=>?_
    obtain ⟨m',hm,w9⟩:=q9
    exact ζ (again hm I9 w9)
   | true =>
    rw [if_pos rfl] at q9 ⊢
    refine wpAny_mono (he cl G2.objs.size _ _ fp _ s9 σ8 H9 _ I9 q9) (fun y s10 h10=>?_) no
    refine bc fun ζ=>?_
    obtain ⟨yv,H10,I10,r10,acc,hacc,hlen,m',hm,w10⟩:=h10
    apply ζ;clear ζ
    refine wpAny_mono (mt_append (X:=Y) _ s10 σ8 H10 (.ref s2.heap.objs.size) [yv] (.ref s2.heap.objs.size) [y] (fun _ H'=>H' = upd H10 s2.heap.objs.size (.lst (acc ++ [yv]))) I10 rfl (.cons r10 .nil) ⟨_,acc,yv,rfl,rfl,hacc,hlen,rfl⟩) (fun _ s11 h11=>?_) no
    refine bc fun ζ=>?_
    obtain ⟨_,H11,I11,_,e11⟩:=h11
    subst e11
    exact ζ (again hm I11 w10)
 exact codeAny_compStart_list (loop _ rfl) (T.self _ 0 _ _ _ st4 (loop _ rfl))
theorem pe_comp (hc : X.calm = true) (S : CScope X nm scope) (hi : PI X tg iter wi)
  (hg : ∀ cl C s H fp,PG (compX X nm scope own cl C s H fp) tg g) (ht : ∀ cl C s H fp,PTs (compX X nm scope own cl C s H fp) ifs tt) (he : ∀ cl C s H fp,PE (compX X nm scope own cl C s H fp) elt te)
  (hs : autoParam (∀ x,foldedSetIterable iter X.env x = pure x) _l.a2._auto_1) : PE X (.ListComp elt [⟨tg,iter,ifs,0⟩] scope pos) (tLC wi own.length g tt te):=by
 intro pins s σ H Q I h
 refine bc fun ζ=>?_
 obtain ⟨cl,hclos,hcl1,hcl2⟩:=closure_of (env:=X.env) (scope:=scope) fun y hy hf=>I.ok.has y.1 (S.free y hy hf)
 apply ζ;clear ζ
 rw [eval_ListComp]
 refine wpAny_comprehension_free (use:=none) rfl hs hclos S.kind S.names (thn (hi pins s σ H _ I h) fun v s1 h1=>thn h1 fun itv s2 h2=>?_)
 refine bc fun ζ=>?_
 obtain ⟨it,fp,tn,J,H2,e,I2,T,st2,f2,hR⟩:=h2
 subst e
 apply ζ;clear ζ
 refine comp_core (Q:=Q) (RR:=fun acc C=>compPost (model X.prog X.w) X.A X.xe none (EP X pins σ Q) acc C) hc S hcl1 hcl2 hg ht he I2 T st2 f2 hR ?_
 intro D C H6 s6 I6 hCn hCL hCs hCc hCp hns q
 obtain ⟨m,hn⟩:=hns
 refine ⟨m,hn,fun h' hs'=>⟨.ref D,H6,I6.turned (t':=s6.toks) (fun b o hb e=>(hs'.2 b hb).trans e) hCn hCL (.inr hCs) hCc hCp,rfl,q⟩⟩
theorem ps_set_comp {i : Nat} {y : Str} {py spos : Pos} (hN : X.N.Nodup) (hi' : X.N[i]? = some y) (hy : Loc X.env.scope y) (hc : X.calm = true) (S : CScope X nm scope) (hi : PI X tg iter wi)
  (hg : ∀ cl C s H fp,PG (compX X nm scope own cl C s H fp) tg g) (ht : ∀ cl C s H fp,PTs (compX X nm scope own cl C s H fp) ifs tt) (he : ∀ cl C s H fp,PE (compX X nm scope own cl C s H fp) elt te)
  (hsw : autoParam (swapsWith (.ListComp elt [⟨tg,iter,ifs,0⟩] scope pos) (some (.Name y py)) spos.line X.env = pure true) _l.a0._auto_1)
  (hs : autoParam (∀ x,foldedSetIterable iter X.env x = pure x) _l.a2._auto_1) (hf : autoParam (X.fn y = true∨X.env.scope.names.lookup y = some .local) _l.a3._auto_1) :
  PS X (.Assign [.Name y py] (.ListComp elt [⟨tg,iter,ifs,0⟩] scope pos) spos) (tAsg (tLC wi own.length g tt te) (gName i)):=by
 intro pins s σ H Dn I h
 refine bc fun ζ=>?_
 obtain ⟨cl,hclos,hcl1,hcl2⟩:=closure_of (env:=X.env) (scope:=scope) fun y hy hf=>I.ok.has y.1 (S.free y hy hf)
 apply ζ;clear ζ
 rw [exec_Assign_Name_used _ _ _ _ hsw]
 refine wpAny_bind (wpAny_standAt (wpAny_bind ?_))
 show wpAny _ X.A (do let _ ← comprehension (.ListComp elt [⟨tg,iter,ifs,0⟩] scope pos) scope X.env _ (newList []) false (eval iter X.env) (some (assign (.Name y py) X.env))) _ _ s
 refine wpAny_bind (wpAny_mono (wpAny_comprehension_free (use:=some (assign (.Name y py) X.env)) (Q:=fun _ s'=>SP X pins Dn .next s') rfl hs hclos S.kind S.names
  (thn (hi pins s σ H _ I h) fun v s1 h1=>thn h1 fun itv s2 h2=>?_)) (fun _ s' hq=>wpAny_pure (wpAny_pure hq)) fun _ _ e=>e)
 refine bc fun ζ=>?_
 obtain ⟨it,fp,tn,J,H2,e,I2,T,st2,f2,hR⟩:=h2
 subst e
 apply ζ;clear ζ
 refine comp_core (Q:=fun x H1=>gName i x σ H1 Dn.nx) (RR:=fun acc C=>compPost (model X.prog X.w) X.A X.xe (some (assign (.Name y py) X.env)) (fun _ s'=>SP X pins Dn .next s') acc C) hc S hcl1 hcl2 hg ht he I2 T st2 f2 hR ?_
 intro D C H6 s6 I6 hCn hCL hCs hCc hCp hns q
 obtain ⟨m,hn⟩:=hns
 show wpAny _ X.A (assign (.Name y py) X.env (.ref D)) _ _ _
 refine wpAny_assign_Name (store_ok2 I6 hN hi' hy (v:=.ref D) rfl (fun s7 I7 h7=>?_) hf)
 refine bc fun ζ=>?_
 obtain ⟨a,sb,ha⟩:=h7
 apply ζ;clear ζ
 have hCa : C≠a:=by
  rcases ha with ha | ha
  ·rw [ha]; exact hCL
  ·exact Ne.symm (hCc y a ha)
 refine ⟨m,hn.sameBut sb hCa,fun h' hs'=>⟨_,H6,I7.turned (t':=s7.toks) (fun b o hb e=>(hs'.2 b hb).trans e) hCn hCL (.inr hCs) hCc hCp,q⟩⟩
end
mutual
noncomputable def toPy : _d.Dat→PyData
 | .non=>.none
 | .bl b=>.bool b
 | .int i=>.int i
 | .str s=>.str ⟨s.toArray⟩
 | .tup xs=>.tuple (toPys xs)
 | .lst xs=>.list (toPys xs)
 | .dct _ _=>.dict []
 | .exc _=>.dict []
 | .fn _=>.dict []
noncomputable def toPys : List _d.Dat→List PyData
 | []=>[]
 | x :: xs=>toPy x :: toPys xs
end
mutual
theorem eqv_toPy : ∀ a b : _d.Dat,PyData.eqv (toPy a) (toPy b) = _d.eqD a b
 | .non,b=>by cases b <;> simp [toPy,PyData.eqv,_d.eqD]
 | .bl x,b=>by cases b <;> simp [toPy,PyData.eqv,_d.eqD,_d.b2i]
 | .int x,b=>by cases b <;> simp [toPy,PyData.eqv,_d.eqD,_d.b2i]
 | .str x,b=>by
  cases b with
  | str y =>
   simp only [toPy,PyData.eqv,_d.eqD]
   rw [Bool.eq_iff_iff]
   simp only [beq_iff_eq]
   constructor
   ·intro h
    have h:=congrArg (fun s : Str=>s.cps.toList) h
    simpa using h
   ·rintro rfl
    rfl
  | _=>simp [toPy,PyData.eqv,_d.eqD]
 | .tup xs,b=>by
  cases b with
  | tup ys=>simp only [toPy,PyData.eqv,_d.eqD]; exact eqvs_toPy xs ys
  | _=>simp [toPy,PyData.eqv,_d.eqD]
 | .lst xs,b=>by
  cases b with
  | lst ys=>simp only [toPy,PyData.eqv,_d.eqD]; exact eqvs_toPy xs ys
  | _=>simp [toPy,PyData.eqv,_d.eqD]
 | .dct ks vs,b=>by cases b <;> simp [toPy,PyData.eqv,_d.eqD]
 | .exc C,b=>by cases b <;> simp [toPy,PyData.eqv,_d.eqD]
 | .fn C,b=>by cases b <;> simp [toPy,PyData.eqv,_d.eqD]
theorem eqvs_toPy : ∀ a b : List _d.Dat,PyData.eqvAll (toPys a) (toPys b) = _d.eqDs a b
 | [],b=>by cases b <;> simp [toPys,PyData.eqvAll,_d.eqDs]
 | x :: xs,b=>by
  cases b with
  | nil=>simp [toPys,PyData.eqvAll,_d.eqDs]
  | cons y ys=>simp only [toPys,PyData.eqvAll,_d.eqDs]; rw [eqv_toPy x y,eqvs_toPy xs ys]
end
theorem str_ok {s : List Nat} (h : (s.all fun c=>decide (c < 128)) = true) : PyData.strOk ⟨s.toArray⟩ = true:=by
 unfold PyData.strOk
 rw [Array.all_eq_true']
 intro c hc
 have h1:=List.all_eq_true.mp h c (by simpa using hc)
 have h2 : c < 128:=of_decide_eq_true h1
 exact decide_eq_true (by lia)
theorem reads_of {P : Program} {w : World} {H : Hp} {h : Heap} (ok : HOk P w H h) : ∀ (n : Nat),
  (∀ (v : V) (d : _d.Dat) (u : Value),Rep H v d→RelV v u→_d.okD n d = true→∃ as,Reads h u (toPy d) as∧(toPy d).canLay0 = true∧(toPy d).depth≤n) ∧
  (∀ (vs : List V) (ds : List _d.Dat) (us : List Value),Reps H vs ds→Vals vs us→ds.all (_d.okD n) = true→∃ as,ReadsAll h us (toPys ds) as∧PyData.canLayAll0 (toPys ds) = true∧PyData.depthAll (toPys ds)≤n):=by
 intro n
 induction n with
 | zero =>
  have one : ∀ (v : V) (d : _d.Dat) (u : Value),Rep H v d→RelV v u→_d.okD 0 d = true→∃ as,Reads h u (toPy d) as∧(toPy d).canLay0 = true∧(toPy d).depth≤0:=by
   intro v d u r rv k
   cases r with
   | non=>cases rv; exact ⟨_,.none,rfl,Nat.le_refl _⟩
   | bl b=>cases rv; exact ⟨_,.bool b,rfl,Nat.le_refl _⟩
   | int i=>obtain ⟨t,rfl⟩:=rv; exact ⟨_,.int i t,rfl,Nat.le_refl _⟩
   | str s=>obtain ⟨t,rfl⟩:=rv; exact ⟨_,.str _ t,str_ok k,Nat.le_refl _⟩
   | tup _ _=>cases k
   | lst _ _=>cases k
   | dct _ _ _=>cases k
   | exc _=>cases k
   | fn _=>cases k
  refine ⟨one,fun vs ds=>?_⟩
  induction ds generalizing vs with
  | nil=>intro us r rv _; cases r; cases rv; exact ⟨_,.nil,rfl,Nat.le_refl _⟩
  | cons d ds ih =>
   intro us r rv k
   cases r with
   | cons r rs =>
    cases rv with
    | cons q qs =>
     rw [List.all_cons,Bool.and_eq_true] at k
     refine bc fun ζ=>?_
     obtain ⟨a1,h1,h2,h3⟩:=one _ _ _ r q k.1
     obtain ⟨a2,h4,h5,h6⟩:=ih _ _ rs qs k.2
     apply ζ;clear ζ
     exact ⟨_,.cons h1 h4,by simp [toPys,PyData.canLayAll0,h2,h5],by simp only [toPys,PyData.depthAll]; lia⟩
 | succ n ih =>
  have one : ∀ (v : V) (d : _d.Dat) (u : Value),Rep H v d→RelV v u→_d.okD (n + 1) d = true→∃ as,Reads h u (toPy d) as∧(toPy d).canLay0 = true∧(toPy d).depth≤n + 1:=by
   intro v d u r rv k
   cases r with
   | non=>cases rv; exact ⟨_,.none,rfl,Nat.zero_le _⟩
   | bl b=>cases rv; exact ⟨_,.bool b,rfl,Nat.zero_le _⟩
   | int i=>obtain ⟨t,rfl⟩:=rv; exact ⟨_,.int i t,rfl,Nat.zero_le _⟩
   | str s=>obtain ⟨t,rfl⟩:=rv; exact ⟨_,.str _ t,str_ok k,Nat.zero_le _⟩
   | tup q rs =>
    cases rv
    refine bc fun ζ=>?_
    obtain ⟨z,its,vr,ob,e,hc,m,hd⟩:=ok _ _ q
    obtain ⟨as,h1,h2,h3⟩:=ih.2 _ _ _ rs vr k
    apply ζ;clear ζ
    exact ⟨_,.tuple e hc hd h1,h2,by simp only [toPy,PyData.depth]; lia⟩
   | lst q rs =>
    cases rv
    refine bc fun ζ=>?_
    obtain ⟨z,its,m,vr,e⟩:=q.ok ok
    obtain ⟨as,h1,h2,h3⟩:=ih.2 _ _ _ rs vr k
    apply ζ;clear ζ
    exact ⟨_,.list e rfl rfl h1,h2,by simp only [toPy,PyData.depth]; lia⟩
   | dct _ _ _=>cases k
   | exc _=>cases k
   | fn _=>cases k
  refine ⟨one,fun vs ds=>?_⟩
  induction ds generalizing vs with
  | nil=>intro us r rv _; cases r; cases rv; exact ⟨_,.nil,rfl,Nat.zero_le _⟩
  | cons d ds ih =>
   intro us r rv k
   cases r with
   | cons r rs =>
    cases rv with
    | cons q qs =>
     rw [List.all_cons,Bool.and_eq_true] at k
     refine bc fun ζ=>?_
     obtain ⟨a1,h1,h2,h3⟩:=one _ _ _ r q k.1
     obtain ⟨a2,h4,h5,h6⟩:=ih _ _ rs qs k.2
     apply ζ;clear ζ
     exact ⟨_,.cons h1 h4,by simp [toPys,PyData.canLayAll0,h2,h5],by simp only [toPys,PyData.depthAll]; lia⟩
theorem RepO.full {H0 H : Hp} (s : Same H0 H) {v : V} {d : _d.Dat} (r : RepO H0 H v d) : Rep H v d:=by
 rcases r with r | ⟨a,rfl,w⟩
 ·exact r.mono s
 ·cases d with
  | lst ds=>obtain ⟨xs,q,rs⟩:=w; exact .lst (.inl q) (rs.mono s)
  | dct ks ds=>obtain ⟨kvs,q,e,rs⟩:=w; exact .dct q e (rs.mono s)
  | _=>exact False.elim w
noncomputable def rEqD (neg : Bool) : R2:=fun x y H Q=>∃ dx dy,Rep H x dx∧Rep H y dy∧_d.okD 8 dx = true∧_d.okD 8 dy = true∧Q (.bl (if neg then !_d.eqD dx dy else _d.eqD dx dy)) H
section
variable {X : Cx}
theorem op_eqD {k : Nat} (hr : Room k X.A) : OpR X (compareOp .Eq) (rEqD false):=by
 intro pins s σ H x y v u Q I rx ry h
 refine bc fun ζ=>?_
 obtain ⟨dx,dy,r1,r2,k1,k2,q⟩:=h
 obtain ⟨as,h1,h2,h3⟩:=(reads_of I.hok 8).1 x dx v r1 rx k1
 obtain ⟨bs,h4,h5,h6⟩:=(reads_of I.hok 8).1 y dy u r2 ry k2
 apply ζ;clear ζ
 have hu:=hr.units
 refine PySem.SeqAt.compareEq_reads h1 h4 h2 h5 (by lia) ?_
 rw [eqv_toPy]
 exact ⟨.bl (_d.eqD dx dy),H,I,rfl,q⟩
theorem op_neD {k : Nat} (hr : Room k X.A) : OpR X (compareOp .NotEq) (rEqD true):=by
 intro pins s σ H x y v u Q I rx ry h
 refine bc fun ζ=>?_
 obtain ⟨dx,dy,r1,r2,k1,k2,q⟩:=h
 obtain ⟨as,h1,h2,h3⟩:=(reads_of I.hok 8).1 x dx v r1 rx k1
 obtain ⟨bs,h4,h5,h6⟩:=(reads_of I.hok 8).1 y dy u r2 ry k2
 apply ζ;clear ζ
 have hu:=hr.units
 refine PySem.SeqAt.compareNe_reads h1 h4 h2 h5 (by lia) ?_
 rw [eqv_toPy]
 exact ⟨.bl (!_d.eqD dx dy),H,I,rfl,q⟩
noncomputable def rInD (neg : Bool) : R2:=fun x y H Q=>∃ dx ds,Rep H x dx∧(Rep H y (.lst ds)∨Rep H y (.tup ds))∧_d.okD 8 dx = true∧ds.all (_d.okD 7) = true∧Q (.bl (if neg then !_d.inD dx ds else _d.inD dx ds)) H
theorem any_toPy (x : _d.Dat) : ∀ ds : List _d.Dat,((toPys ds).any fun y=>PyData.eqv y (toPy x)) = _d.inD x ds
 | []=>rfl
 | d :: ds=>by
  have:=any_toPy x ds
  unfold _d.inD at this ⊢
  simp only [toPys,List.any_cons,eqv_toPy]
  rw [this]
theorem op_inD {k : Nat} (hr : Room k X.A) : OpR X (compareOp .In) (rInD false):=by
 intro pins s σ H x y v u Q I rx ry h
 refine bc fun ζ=>?_
 obtain ⟨dx,ds,r1,r2,k1,k2,q⟩:=h
 obtain ⟨as,h1,h2,h3⟩:=(reads_of I.hok 8).1 x dx v r1 rx k1
 apply ζ;clear ζ
 have hu:=hr.units
 rcases r2 with r2 | r2
 ·refine bc fun ζ=>?_
  obtain ⟨bs,h4,h5,h6⟩:=(reads_of I.hok 8).1 y (.lst ds) u r2 ry k2
  apply ζ;clear ζ
  have h6 : PyData.depthAll (toPys ds) + 1≤8:=h6
  refine PySem.SeqAt.in_list_reads h4 h1 h5 h2 (by lia) ?_
  rw [any_toPy]
  exact ⟨.bl (_d.inD dx ds),H,I,rfl,q⟩
 ·refine bc fun ζ=>?_
  obtain ⟨bs,h4,h5,h6⟩:=(reads_of I.hok 8).1 y (.tup ds) u r2 ry k2
  apply ζ;clear ζ
  have h6 : PyData.depthAll (toPys ds) + 1≤8:=h6
  refine PySem.SeqAt.in_tuple_reads h4 h1 h5 h2 (by lia) ?_
  rw [any_toPy]
  exact ⟨.bl (_d.inD dx ds),H,I,rfl,q⟩
theorem op_notInD {k : Nat} (hr : Room k X.A) : OpR X (compareOp .NotIn) (rInD true):=by
 intro pins s σ H x y v u Q I rx ry h
 refine bc fun ζ=>?_
 obtain ⟨dx,ds,r1,r2,k1,k2,q⟩:=h
 obtain ⟨as,h1,h2,h3⟩:=(reads_of I.hok 8).1 x dx v r1 rx k1
 apply ζ;clear ζ
 have hu:=hr.units
 rcases r2 with r2 | r2
 ·refine bc fun ζ=>?_
  obtain ⟨bs,h4,h5,h6⟩:=(reads_of I.hok 8).1 y (.lst ds) u r2 ry k2
  apply ζ;clear ζ
  have h6 : PyData.depthAll (toPys ds) + 1≤8:=h6
  refine PySem.SeqAt.notIn_list_reads h4 h1 h5 h2 (by lia) ?_
  rw [any_toPy]
  exact ⟨.bl (!_d.inD dx ds),H,I,rfl,q⟩
 ·refine bc fun ζ=>?_
  obtain ⟨bs,h4,h5,h6⟩:=(reads_of I.hok 8).1 y (.tup ds) u r2 ry k2
  apply ζ;clear ζ
  have h6 : PyData.depthAll (toPys ds) + 1≤8:=h6
  refine PySem.SeqAt.notIn_tuple_reads h4 h1 h5 h2 (by lia) ?_
  rw [any_toPy]
  exact ⟨.bl (!_d.inD dx ds),H,I,rfl,q⟩
end
theorem repO_int {H0 H : Hp} {v : V} {i : Int} (r : RepO H0 H v (.int i)) : v = .int i:=by
 rcases r with r | ⟨a,_,w⟩
 ·exact Rep.isInt r
 ·exact False.elim w
theorem repO_bl {H0 H : Hp} {v : V} {b : Bool} (r : RepO H0 H v (.bl b)) : v = .bl b:=by
 rcases r with r | ⟨a,_,w⟩
 ·exact Rep.isBl r
 ·exact False.elim w
theorem repO_lst {H0 H : Hp} (s : Same H0 H) {v : V} {ds : List _d.Dat} (r : RepO H0 H v (.lst ds)) : ∃ a xs,v = .ref a∧Rd H a (.lst xs)∧Reps H0 xs ds:=by
 rcases r with r | ⟨a,e,xs,q,rs⟩
 ·cases r with
  | lst q rs=>exact ⟨_,_,rfl,Same.rd s q,rs⟩
 ·exact ⟨a,xs,e,.inl q,rs⟩
theorem repO_tup {H0 H : Hp} (s : Same H0 H) {v : V} {ds : List _d.Dat} (r : RepO H0 H v (.tup ds)) : ∃ a xs,v = .ref a∧H a = some (.tup xs)∧Reps H0 xs ds:=by
 rcases r with r | ⟨a,_,w⟩
 ·cases r with
  | tup q rs=>exact ⟨_,_,rfl,s _ _ q,rs⟩
 ·exact False.elim w
theorem od_sub : OpD (rI0 fun i j=>.int (i - j)) _d.gSub:=by
 intro H0 H x y dx dy z Q s rx ry e k
 unfold _d.gSub at e
 split at e
 ·cases e; cases repO_int rx; cases repO_int ry
  exact ⟨_,_,rfl,rfl,k _ H0 H (Grow.refl s) (.int _)⟩
 ·contradiction
theorem od_lt : OpD (rI0 fun i j=>.bl (decide (i < j))) _d.gLt:=by
 intro H0 H x y dx dy z Q s rx ry e k
 unfold _d.gLt at e
 split at e
 ·cases e; cases repO_int rx; cases repO_int ry
  exact ⟨_,_,rfl,rfl,k _ H0 H (Grow.refl s) (.bl _)⟩
 ·contradiction
theorem od_le : OpD (rI0 fun i j=>.bl (decide (i≤j))) _d.gLe:=by
 intro H0 H x y dx dy z Q s rx ry e k
 unfold _d.gLe at e
 split at e
 ·cases e; cases repO_int rx; cases repO_int ry
  exact ⟨_,_,rfl,rfl,k _ H0 H (Grow.refl s) (.bl _)⟩
 ·contradiction
theorem od_gt : OpD (rI0 fun i j=>.bl (decide (j < i))) _d.gGt:=by
 intro H0 H x y dx dy z Q s rx ry e k
 unfold _d.gGt at e
 split at e
 ·cases e; cases repO_int rx; cases repO_int ry
  exact ⟨_,_,rfl,rfl,k _ H0 H (Grow.refl s) (.bl _)⟩
 ·contradiction
theorem od_ge : OpD (rI0 fun i j=>.bl (decide (j≤i))) _d.gGe:=by
 intro H0 H x y dx dy z Q s rx ry e k
 unfold _d.gGe at e
 split at e
 ·cases e; cases repO_int rx; cases repO_int ry
  exact ⟨_,_,rfl,rfl,k _ H0 H (Grow.refl s) (.bl _)⟩
 ·contradiction
theorem od_mod : OpD (rI (fun _ j=>0 < j) fun i j=>.int (i % j)) _d.gMod:=by
 intro H0 H x y dx dy z Q s rx ry e k
 unfold _d.gMod at e
 split at e
 ·split at e
  ·rename_i hj
   cases e; cases repO_int rx; cases repO_int ry
   exact ⟨_,_,rfl,rfl,hj,k _ H0 H (Grow.refl s) (.int _)⟩
  ·contradiction
 ·contradiction
theorem od_pow : OpD (rI CPow fun i j=>.int (i ^ j.toNat)) _d.gPow:=by
 intro H0 H x y dx dy z Q s rx ry e k
 unfold _d.gPow at e
 split at e
 ·split at e
  ·rename_i hj
   cases e; cases repO_int rx; cases repO_int ry
   exact ⟨_,_,rfl,rfl,⟨hj.1,hj.2.1,Nat.lt_trans hj.2.2 (by decide)⟩,k _ H0 H (Grow.refl s) (.int _)⟩
  ·contradiction
 ·contradiction
section
variable {X : Cx}
noncomputable def CDiv2 (i j : Int) : Prop:=0 < j∧j < _d.B200
theorem op_fdiv2 : OpR X (binaryOp .FloorDiv) (rI CDiv2 fun i j=>.int (i / j)):=opI fun i j _ _ _ _ _ hc q=>by
 have h : j.natAbs.log2 < 9000:=by
  have h1 : j.natAbs < 2 ^ 200:=by
   have:=hc.2
   unfold _d.B200 at this
   have h2:=hc.1
   have e : (2 : Nat) ^ 200 = 1606938044258990275541962092341162602522202993782792835301376:=by decide +kernel
   omega
  have h3 : j.natAbs≠0:=by have:=hc.1; omega
  have:=(Nat.log2_lt h3).mpr h1
  omega
 have e : i.fdiv j = i / j:=Int.fdiv_eq_ediv_of_nonneg i (Int.le_of_lt hc.1)
 rw [← e] at q
 exact floordiv_int (Int.ne_of_gt hc.1) q (.inl (PyProof.noPylong_of_log2 h))
end
theorem od_div : OpD (rI CDiv2 fun i j=>.int (i / j)) _d.gDiv:=by
 intro H0 H x y dx dy z Q s rx ry e k
 unfold _d.gDiv at e
 split at e
 ·split at e
  ·rename_i hj
   cases e; cases repO_int rx; cases repO_int ry
   exact ⟨_,_,rfl,rfl,hj,k _ H0 H (Grow.refl s) (.int _)⟩
  ·contradiction
 ·contradiction
theorem od_neg : UnD (rU fun i=>.int (-i)) _d.gNeg:=by
 intro H0 H x dx z Q s rx e k
 unfold _d.gNeg at e
 split at e
 ·cases e; cases repO_int rx
  exact ⟨_,rfl,k _ H0 H (Grow.refl s) (.int _)⟩
 ·contradiction
noncomputable def rCatR : R2:=fun x y H Q=>∃ l b xs zs,x = .ref l∧y = .ref b∧Rd H l (.lst xs)∧Rd H b (.lst zs)∧xs.length + zs.length≤sizeLine∧∀ p,H p = none→Q (.ref p) (upd H p (.lst (xs ++ zs)))
noncomputable def rRepR : R2:=fun x y H Q=>∃ l k xs,x = .ref l∧y = .int k∧Rd H l (.lst xs)∧-(2 ^ 63)≤k∧k < 2 ^ 63∧xs.length * k.toNat≤sizeLine ∧
 ∀ p,H p = none→Q (.ref p) (upd H p (.lst (List.replicate k.toNat xs).flatten))
section
variable {X : Cx}
theorem op_catR : OpR X (binaryOp .Add) rCatR:=by
 intro pins s σ H x y v u Q I rx ry h
 refine bc fun ζ=>?_
 obtain ⟨l,b,xs,zs,rfl,rfl,hH,hB,hz,q⟩:=h
 cases rx
 cases ry
 obtain ⟨z,its,n,r,e⟩:=hH.ok I.hok
 obtain ⟨z2,its2,n2,r2,e2⟩:=hB.ok I.hok
 apply ζ;clear ζ
 have hl:=r.length
 have hl2:=r2.length
 refine PySem.P.add_list e e2 ?_ (by rw [List.size_toArray,List.size_toArray]; lia)
 have ea : its.toArray ++ its2.toArray = (its ++ its2).toArray:=by simp
 rw [ea]
 exact ⟨.ref _,_,I.lnew (t':=s.toks) (r.append r2) (by rw [List.length_append]; lia),rfl,q _ I.fresh⟩
theorem op_repR : OpR X (binaryOp .Mult) rRepR:=by
 intro pins s σ H x y v u Q I rx ry h
 refine bc fun ζ=>?_
 obtain ⟨l,k,xs,rfl,rfl,hH,h1,h2,hz,q⟩:=h
 cases rx
 obtain ⟨t,rfl⟩:=ry
 obtain ⟨z,its,n,r,e⟩:=hH.ok I.hok
 apply ζ;clear ζ
 have hl:=r.length
 have hlen : its.toArray.size * k.toNat≤sizeLine:=by rw [List.size_toArray,← hl]; exact hz
 have hcap : ¬ its.toArray.size * k.toNat > (2 ^ 63 - 1) / 8:=by
  have : (sizeLine : Nat)≤(2 ^ 63 - 1) / 8:=by decide
  lia
 have hfit : ¬ (!Builtin.List.listFitsIndex k) = true:=by
  rw [fitsIndex_both h1 h2]
  exact Bool.false_ne_true
 have hlong : ¬ Builtin.List.listTooLong (its.toArray.size * k.toNat) = true:=by
  rw [notLongL hlen]
  exact Bool.false_ne_true
 have hnew : List.foldl (fun x1 x2=>x1 ++ x2) #[] (List.replicate (if its.toArray.isEmpty = true then 0 else k.toNat) its.toArray) = (List.replicate k.toNat its).flatten.toArray:=by
  have f0 : ∀ m : Nat,List.foldl (fun x1 x2=>x1 ++ x2) #[] (List.replicate m its.toArray) = (List.replicate m its).flatten.toArray:=fun m=>by
   have:=foldl_rep its m []
   rw [List.nil_append] at this
   exact this
  rw [f0]
  cases its with
  | nil=>simp
  | cons a r'=>rw [if_neg (by simp)]
 refine wpAny_binaryOp_repeat_ref (T:="list") (U:="int") (by decide) ⟨_, e, rfl⟩ (fun s'=>typeIs_int s' k t) noFill_list_mul F.fills_int_mul F.slot_int_rmul repeat_list F.slot_int_index.lookup
  (call_meets F.slot_int_rmul (typeIs_int s k t) F.entry_int_rmul (F.args_int_rmul_2 _ _) (int___rmul___int_list k t l its.toArray n)
   ⟨e,rfl,⟨_,e,rfl⟩,call_meets F.slot_list_mul ⟨_,e,rfl⟩ F.entry_list_mul (F.args_list_mul_2 _ _) (AutoListH.list___mul___list_int_3 l its.toArray n k t hfit hcap hlong) ⟨e,?_⟩⟩)
 rw [hnew]
 exact ⟨.ref _,_,I.lnew (t':=s.toks) (r.rep k.toNat) (by rw [len_rep,Nat.mul_comm]; exact hz),rfl,q _ I.fresh⟩
theorem op_addD : OpR X (binaryOp .Add) (fun x y H Q=>rI0 (fun i j=>.int (i + j)) x y H Q∨rCatR x y H Q):=op_add.or op_catR
theorem op_mulD : OpR X (binaryOp .Mult) (fun x y H Q=>rI CMul (fun i j=>.int (i * j)) x y H Q∨rRepR x y H Q):=op_mul.or op_repR
end
theorem od_add : OpD (fun x y H Q=>rI0 (fun i j=>.int (i + j)) x y H Q∨rCatR x y H Q) _d.gAdd:=by
 intro H0 H x y dx dy z Q s rx ry e k
 unfold _d.gAdd at e
 split at e
 ·cases e; cases repO_int rx; cases repO_int ry
  exact .inl ⟨_,_,rfl,rfl,k _ H0 H (Grow.refl s) (.int _)⟩
 ·split at e
  ·rename_i hz
   cases e
   obtain ⟨a,us,rfl,qa,ra⟩:=repO_lst s rx
   obtain ⟨b,ws,rfl,qb,rb⟩:=repO_lst s ry
   refine .inr ⟨a,b,us,ws,rfl,rfl,qa,qb,by rw [ra.length,rb.length]; exact sz_line hz,fun p hp=>?_⟩
   exact k _ _ _ (Grow.newO s hp) ⟨p,rfl,hp,s.free hp,_,upd_same,ra.append rb⟩
  ·contradiction
 ·contradiction
theorem od_mul : OpD (fun x y H Q=>rI CMul (fun i j=>.int (i * j)) x y H Q∨rRepR x y H Q) _d.gMul:=by
 intro H0 H x y dx dy z Q s rx ry e k
 unfold _d.gMul at e
 split at e
 ·split at e
  ·rename_i hj
   cases e; cases repO_int rx; cases repO_int ry
   exact .inl ⟨_,_,rfl,rfl,hj,k _ H0 H (Grow.refl s) (.int _)⟩
  ·contradiction
 ·split at e
  ·rename_i hz
   cases e; cases repO_int ry
   obtain ⟨a,us,rfl,qa,ra⟩:=repO_lst s rx
   obtain ⟨h1,h2,h3⟩:=hz
   unfold _d.BIG at h1 h2
   refine .inr ⟨a,_,us,rfl,rfl,qa,by lia,by lia,by rw [ra.length]; exact sz_line h3,fun p hp=>?_⟩
   exact k _ _ _ (Grow.newO s hp) ⟨p,rfl,hp,s.free hp,_,upd_same,ra.rep _⟩
  ·contradiction
 ·contradiction
theorem od_eq : OpD (rEqD false) _d.gEq:=by
 intro H0 H x y dx dy z Q s rx ry e k
 unfold _d.gEq at e
 split at e
 ·rename_i hk
  rw [Bool.and_eq_true] at hk
  cases e
  exact ⟨dx,dy,rx.full s,ry.full s,hk.1,hk.2,k _ H0 H (Grow.refl s) (.bl _)⟩
 ·contradiction
theorem od_ne : OpD (rEqD true) _d.gNe:=by
 intro H0 H x y dx dy z Q s rx ry e k
 unfold _d.gNe at e
 split at e
 ·rename_i hk
  rw [Bool.and_eq_true] at hk
  cases e
  exact ⟨dx,dy,rx.full s,ry.full s,hk.1,hk.2,k _ H0 H (Grow.refl s) (.bl _)⟩
 ·contradiction
theorem od_in : OpD (rInD false) _d.gIn:=by
 intro H0 H x y dx dy z Q s rx ry e k
 unfold _d.gIn at e
 split at e
 ·split at e
  ·rename_i hk
   rw [Bool.and_eq_true] at hk
   cases e
   exact ⟨dx,_,rx.full s,.inl (ry.full s),hk.1,hk.2,k _ H0 H (Grow.refl s) (.bl _)⟩
  ·contradiction
 ·split at e
  ·rename_i hk
   rw [Bool.and_eq_true] at hk
   cases e
   exact ⟨dx,_,rx.full s,.inr (ry.full s),hk.1,hk.2,k _ H0 H (Grow.refl s) (.bl _)⟩
  ·contradiction
 ·contradiction
theorem od_notIn : OpD (rInD true) _d.gNotIn:=by
 intro H0 H x y dx dy z Q s rx ry e k
 unfold _d.gNotIn at e
 split at e
 ·split at e
  ·rename_i hk
   rw [Bool.and_eq_true] at hk
   cases e
   exact ⟨dx,_,rx.full s,.inl (ry.full s),hk.1,hk.2,k _ H0 H (Grow.refl s) (.bl _)⟩
  ·contradiction
 ·split at e
  ·rename_i hk
   rw [Bool.and_eq_true] at hk
   cases e
   exact ⟨dx,_,rx.full s,.inr (ry.full s),hk.1,hk.2,k _ H0 H (Grow.refl s) (.bl _)⟩
  ·contradiction
 ·contradiction
theorem reps_at {H0 : Hp} {xs : List V} {ds : List _d.Dat} {i : Int} {d : _d.Dat} (rs : Reps H0 xs ds) (e : _d.atI ds i = some d) : ∃ v,_l.atI xs i = some v∧Rep H0 v d:=by
 unfold _d.atI at e
 cases q : _d.ixN ds.length i with
 | none=>rw [q] at e; cases e
 | some j =>
  rw [q] at e
  refine bc fun ζ=>?_
  obtain ⟨v,hv,r⟩:=rs.get (i:=j) e
  apply ζ;clear ζ
  refine ⟨v,?_,r⟩
  unfold _l.atI
  rw [rs.length]
  have q' : _l.ixN ds.length i = some j:=q
  rw [q']
  exact hv
theorem od_ix {K : PySem.W.Frag} : OpD (fun x y H Q=>rIxL K x y H Q∨rIxT K x y H Q) _d.gIx:=by
 intro H0 H x y dx dy z Q s rx ry e k
 unfold _d.gIx at e
 split at e
 ·rename_i ds i
  cases q : _d.atI ds i with
  | none=>rw [q] at e; cases e
  | some d =>
   rw [q] at e; cases e
   cases repO_int ry
   obtain ⟨a,us,rfl,qa,ra⟩:=repO_lst s rx
   obtain ⟨v,hv,rv⟩:=reps_at ra q
   exact .inl ⟨a,us,i,v,rfl,rfl,.inl qa,hv,k _ H0 H (Grow.refl s) rv⟩
 ·rename_i ds i
  cases q : _d.atI ds i with
  | none=>rw [q] at e; cases e
  | some d =>
   rw [q] at e; cases e
   cases repO_int ry
   obtain ⟨a,us,rfl,qa,ra⟩:=repO_tup s rx
   obtain ⟨v,hv,rv⟩:=reps_at ra q
   exact .inr ⟨a,us,i,v,rfl,rfl,.inl (.inl qa),hv,k _ H0 H (Grow.refl s) rv⟩
 ·contradiction
theorem cd_len {K : PySem.W.Frag} : CallD (fun xs H Q=>∃ p ys,xs = [.ref p]∧(SqL K H p ys∨SqT K H p ys)∧Q (.int ys.length) H) _d.gLen:=by
 intro H0 H vs ds z Q s rs e k
 unfold _d.gLen at e
 split at e
 ·cases e
  cases rs with
  | cons r rr =>
   cases rr
   obtain ⟨a,us,rfl,qa,ra⟩:=repO_lst s r
   exact ⟨a,us,rfl,.inl (.inl qa),k _ H0 H (Grow.refl s) (by rw [ra.length]; exact .int _)⟩
 ·cases e
  cases rs with
  | cons r rr =>
   cases rr
   obtain ⟨a,us,rfl,qa,ra⟩:=repO_tup s r
   exact ⟨a,us,rfl,.inr (.inl (.inl qa)),k _ H0 H (Grow.refl s) (by rw [ra.length]; exact .int _)⟩
 ·contradiction
theorem cd_min2 : CallD (fun xs H Q=>∃ i j,xs = [.int i,.int j]∧Q (.int (if j < i then j else i)) H) _d.gMin2:=by
 intro H0 H vs ds z Q s rs e k
 unfold _d.gMin2 at e
 split at e
 ·cases e
  cases rs with
  | cons r rr =>
   cases rr with
   | cons r' rr =>
    cases rr
    cases repO_int r; cases repO_int r'
    exact ⟨_,_,rfl,k _ H0 H (Grow.refl s) (.int _)⟩
 ·contradiction
theorem cd_max2 : CallD (fun xs H Q=>∃ i j,xs = [.int i,.int j]∧Q (.int (if j > i then j else i)) H) _d.gMax2:=by
 intro H0 H vs ds z Q s rs e k
 unfold _d.gMax2 at e
 split at e
 ·cases e
  cases rs with
  | cons r rr =>
   cases rr with
   | cons r' rr =>
    cases rr
    cases repO_int r; cases repO_int r'
    exact ⟨_,_,rfl,k _ H0 H (Grow.refl s) (.int _)⟩
 ·contradiction
theorem cd_list {K : PySem.W.Frag} : CallD (fun xs H Q=>∃ p ys,xs = [.ref p]∧(SqL K H p ys∨SqT K H p ys)∧∀ l,H l = none→Q (.ref l) (upd H l (.lst ys))) _d.gList:=by
 intro H0 H vs ds z Q s rs e k
 unfold _d.gList at e
 split at e
 ·cases e
  cases rs with
  | cons r rr =>
   cases rr
   obtain ⟨a,us,rfl,qa,ra⟩:=repO_lst s r
   exact ⟨a,us,rfl,.inl (.inl qa),fun p hp=>k _ _ _ (Grow.newO s hp) ⟨p,rfl,hp,s.free hp,_,upd_same,ra⟩⟩
 ·cases e
  cases rs with
  | cons r rr =>
   cases rr
   obtain ⟨a,us,rfl,qa,ra⟩:=repO_tup s r
   exact ⟨a,us,rfl,.inr (.inl (.inl qa)),fun p hp=>k _ _ _ (Grow.newO s hp) ⟨p,rfl,hp,s.free hp,_,upd_same,ra⟩⟩
 ·contradiction
noncomputable abbrev DS (X : Cx) (st : Stmt) (f : _d.FS) : Prop:=PS X st (tDS f)
noncomputable abbrev DSs (X : Cx) (st : List Stmt) (f : _d.FS) : Prop:=PSs X st (tDS f)
noncomputable abbrev DI (X : Cx) (tg it : Expr) (f : _d.FI) : Prop:=PI X tg it (tDI f)
theorem PI.weak {X : Cx} {tg it : Expr} {t t' : TI} (h : PI X tg it t) (k : ∀ σ H R,t' σ H R→t σ H R) : PI X tg it t':=fun pins s σ H R I q=>h pins s σ H R I (k σ H R q)
section
variable {X : Cx} {a b c e : Expr} {fa fb fc f : _d.FE} {pos : Pos}
theorem d_v (i : Nat) {x : Str} (hN : autoParam (X.N[i]? = some x) _l.a0._auto_1) (hv : autoParam (Vis X.env.scope x) _l.a5._auto_1) (hd : autoParam ((x == ("__debug__" : Str)) = false) _l.a1._auto_1)
  (hcd : autoParam ((x == ("__classdict__" : Str)) = false) _l.a1._auto_1) : DE X (.Name x pos) (_d.eV i):=PE.weak (pe_var hN hv hd hcd) fun _ _ _=>r_var
theorem d_i {i : Int} {j} : DE X (.Constant (.int i) j pos) (_d.eC (.int i)):=PE.weak pe_int fun _ _ _=>r_const fun _=>.int i
theorem d_b {v : Bool} {j} : DE X (.Constant (.bool v) j pos) (_d.eC (.bl v)):=PE.weak pe_bl fun _ _ _=>r_const fun _=>.bl v
theorem d_g {x : Str} {i : Int} {t : Tok} (hg : Gl X x) (hm : X.mg x = some (.int i t)) (hd : autoParam ((x == ("__debug__" : Str)) = false) _l.a1._auto_1) : DE X (.Name x pos) (_d.eC (.int i)) :=
 PE.weak (pe_glob (v:=.int i) hg hm ⟨t,rfl⟩ hd) fun _ _ _=>r_const fun _=>.int i
theorem d_op {op : Operator} {r : R2} {g : _d.Dat→_d.Dat→Option _d.RV} (o : OpR X (binaryOp op) r) (od : OpD r g) (ha : DE X a fa) (hb : DE X b fb) : DE X (.BinOp a op b pos) (_d.e2 g fa fb) :=
 PE.weak (pe_op o ha hb) fun _ _ _=>r_e2 od
theorem d_add (ha : DE X a fa) (hb : DE X b fb) : DE X (.BinOp a .Add b pos) (_d.e2 _d.gAdd fa fb):=d_op op_addD od_add ha hb
theorem d_sub (ha : DE X a fa) (hb : DE X b fb) : DE X (.BinOp a .Sub b pos) (_d.e2 _d.gSub fa fb):=d_op op_sub od_sub ha hb
theorem d_mul (ha : DE X a fa) (hb : DE X b fb) : DE X (.BinOp a .Mult b pos) (_d.e2 _d.gMul fa fb):=d_op op_mulD od_mul ha hb
theorem d_div (ha : DE X a fa) (hb : DE X b fb) : DE X (.BinOp a .FloorDiv b pos) (_d.e2 _d.gDiv fa fb):=d_op op_fdiv2 od_div ha hb
theorem d_mod (ha : DE X a fa) (hb : DE X b fb) : DE X (.BinOp a .Mod b pos) (_d.e2 _d.gMod fa fb):=d_op op_mod od_mod ha hb
theorem d_pow (ha : DE X a fa) (hb : DE X b fb) : DE X (.BinOp a .Pow b pos) (_d.e2 _d.gPow fa fb):=d_op op_pow od_pow ha hb
theorem d_neg (ha : DE X a fa) : DE X (.UnaryOp .USub a pos) (_d.e1 _d.gNeg fa):=PE.weak (pe_un un_neg ha) fun _ _ _=>r_e1 od_neg
theorem d_cmp {op : CmpOp} {r : R2} {g : _d.Dat→_d.Dat→Option _d.RV} (o : OpR X (compareOp op) r) (od : OpD r g) (ha : DE X a fa) (hb : DE X b fb) (hm : behindInMarks op b = false) : DE X (.Compare a [op] [b] pos) (_d.e2 g fa fb) :=
 PE.weak (pe_cmpR o ha hb hm) fun _ _ _=>r_e2 od
theorem t_cmp {op : CmpOp} {r : R2} {g : _d.Dat→_d.Dat→Option _d.RV} (o : OpR X (compareOp op) r) (od : OpD r g) (ha : DE X a fa) (hb : DE X b fb) (hm : behindInMarks op b = false) : DT X (.Compare a [op] [b] pos) (_d.tV (_d.e2 g fa fb)) :=
 PT.weak (pt_cmpR o ha hb hm) fun σ H Q h=>r_e2 od (r_test h)
theorem d_eq {k : Nat} (hr : Room k X.A) (ha : DE X a fa) (hb : DE X b fb) : DE X (.Compare a [.Eq] [b] pos) (_d.e2 _d.gEq fa fb):=d_cmp (op_eqD hr) od_eq ha hb (nomark _)
theorem d_lt (ha : DE X a fa) (hb : DE X b fb) : DE X (.Compare a [.Lt] [b] pos) (_d.e2 _d.gLt fa fb):=d_cmp op_lt od_lt ha hb (nomark _)
theorem d_le (ha : DE X a fa) (hb : DE X b fb) : DE X (.Compare a [.LtE] [b] pos) (_d.e2 _d.gLe fa fb):=d_cmp op_le od_le ha hb (nomark _)
theorem d_gt (ha : DE X a fa) (hb : DE X b fb) : DE X (.Compare a [.Gt] [b] pos) (_d.e2 _d.gGt fa fb):=d_cmp op_gt od_gt ha hb (nomark _)
theorem d_in {k : Nat} (hr : Room k X.A) (ha : DE X a fa) (hb : DE X b fb) (hm : autoParam (behindInMarks .In b = false) _l.a0._auto_1) : DE X (.Compare a [.In] [b] pos) (_d.e2 _d.gIn fa fb):=d_cmp (op_inD hr) od_in ha hb hm
theorem d_nin {k : Nat} (hr : Room k X.A) (ha : DE X a fa) (hb : DE X b fb) (hm : autoParam (behindInMarks .NotIn b = false) _l.a0._auto_1) : DE X (.Compare a [.NotIn] [b] pos) (_d.e2 _d.gNotIn fa fb):=d_cmp (op_notInD hr) od_notIn ha hb hm
theorem t_eq {k : Nat} (hr : Room k X.A) (ha : DE X a fa) (hb : DE X b fb) : DT X (.Compare a [.Eq] [b] pos) (_d.tV (_d.e2 _d.gEq fa fb)):=t_cmp (op_eqD hr) od_eq ha hb (nomark _)
theorem t_ne {k : Nat} (hr : Room k X.A) (ha : DE X a fa) (hb : DE X b fb) : DT X (.Compare a [.NotEq] [b] pos) (_d.tV (_d.e2 _d.gNe fa fb)):=t_cmp (op_neD hr) od_ne ha hb (nomark _)
theorem t_lt (ha : DE X a fa) (hb : DE X b fb) : DT X (.Compare a [.Lt] [b] pos) (_d.tV (_d.e2 _d.gLt fa fb)):=t_cmp op_lt od_lt ha hb (nomark _)
theorem t_gt (ha : DE X a fa) (hb : DE X b fb) : DT X (.Compare a [.Gt] [b] pos) (_d.tV (_d.e2 _d.gGt fa fb)):=t_cmp op_gt od_gt ha hb (nomark _)
theorem t_ge (ha : DE X a fa) (hb : DE X b fb) : DT X (.Compare a [.GtE] [b] pos) (_d.tV (_d.e2 _d.gGe fa fb)):=t_cmp op_ge od_ge ha hb (nomark _)
theorem t_in {k : Nat} (hr : Room k X.A) (ha : DE X a fa) (hb : DE X b fb) (hm : autoParam (behindInMarks .In b = false) _l.a0._auto_1) : DT X (.Compare a [.In] [b] pos) (_d.tV (_d.e2 _d.gIn fa fb)):=t_cmp (op_inD hr) od_in ha hb hm
theorem d_ix (ha : DE X a fa) (hb : DE X b fb) (hs : autoParam (PlainIx b) _l.a6._auto_1) : DE X (.Subscript a b pos) (_d.e2 _d.gIx fa fb):=PE.weak (pe_ix (ix_list.or ix_tup) ha hb hs) fun _ _ _=>r_e2 od_ix
theorem a_nil : DA X [] []:=PA.weak pa_nil fun _ _ _=>r_nil
theorem a_cons {es : List Expr} {fs : List _d.FE} (h : DE X e f) (r : DA X es fs) (hs : autoParam (starEach (e :: es) X.env = (false,eval e X.env) :: starEach es X.env) _l.a0._auto_1) : DA X (e :: es) (f :: fs):=PA.weak (pa_cons h r hs) fun _ _ _=>r_cons
theorem d_tup {es : List Expr} {fs : List _d.FE} {x1} (h : DA X es fs) : DE X (.Tuple es x1 pos) (_d.eTup fs):=PE.weak (pe_tup h) fun _ _ _=>r_tup
theorem d_lst {es : List Expr} {fs : List _d.FE} (h : DA X es fs) : DE X (.List es pos) (_d.eLst fs):=PE.weak (pe_lst h) fun _ _ _=>r_lst
theorem d_bf {es : List Expr} {fs : List _d.FE} {r : List V→Hp→VK→Prop} {g : List _d.Dat→Option _d.RV} {x : Str} {id : String} {p : Pos} (hc : CallR X (.builtin id) r) (cd : CallD r g) (hv : bootBuiltins x = some (.builtin id)) (hg : Gl X x) (hm : X.mg x = none) (ha : DA X (e :: es) fs)
  (hn : autoParam (x≠"__name__") _l.a1._auto_1) (hdb : autoParam ((x == ("__debug__" : Str)) = false) _l.a1._auto_1) (he : autoParam (starEach (e :: es) X.env = (false, eval e X.env) :: starEach es X.env) _l.a0._auto_1) (hpl : autoParam ((backTo pos (starEach es X.env)).any (·.1) = false) _l.a0._auto_1) :
  DE X (.Call (.Name x p) (e :: es) [] pos) (_d.eB g fs):=PE.weak (pe_callB hc hg hm hv ha hn hdb he hpl) fun _ _ _=>r_cb cd
theorem d_bt {es : List Expr} {fs : List _d.FE} {r : List V→Hp→VK→Prop} {g : List _d.Dat→Option _d.RV} {x : Str} {T : String} {p : Pos} (hc : CallR X (.type T) r) (cd : CallD r g) (hv : bootBuiltins x = some (.type T)) (hg : Gl X x) (hm : X.mg x = none) (ha : DA X (e :: es) fs)
  (hn : autoParam (x≠"__name__") _l.a1._auto_1) (hdb : autoParam ((x == ("__debug__" : Str)) = false) _l.a1._auto_1) (he : autoParam (starEach (e :: es) X.env = (false, eval e X.env) :: starEach es X.env) _l.a0._auto_1) (hpl : autoParam ((backTo pos (starEach es X.env)).any (·.1) = false) _l.a0._auto_1) :
  DE X (.Call (.Name x p) (e :: es) [] pos) (_d.eB g fs):=PE.weak (pe_callTy hc hg hm hv ha hn hdb he hpl) fun _ _ _=>r_cb cd
variable {es : List Expr} {fs : List _d.FE} {p : Pos}
theorem d_len (hg : Gl X "len") (hm : X.mg "len" = none) (ha : DA X [e] fs) (he : autoParam (starEach [e] X.env = [(false, eval e X.env)]) _l.a0._auto_1) (hpl : autoParam ((backTo pos (starEach [] X.env)).any (·.1) = false) _l.a0._auto_1) : DE X (.Call (.Name "len" p) [e] [] pos) (_d.eB _d.gLen fs):=d_bf call_len_seq cd_len PySem.boot_len hg hm ha (he:=he) (hpl:=hpl)
theorem d_min2 (hc : X.calm = true) (hg : Gl X "min") (hm : X.mg "min" = none) (ha : DA X [a, b] fs) (he : autoParam (starEach [a, b] X.env = (false, eval a X.env) :: starEach [b] X.env) _l.a0._auto_1) (hpl : autoParam ((backTo pos (starEach [b] X.env)).any (·.1) = false) _l.a0._auto_1) : DE X (.Call (.Name "min" p) [a, b] [] pos) (_d.eB _d.gMin2 fs):=d_bf (call_min2 hc) cd_min2 (by rfl) hg hm ha (he:=he) (hpl:=hpl)
theorem d_max2 (hc : X.calm = true) (hg : Gl X "max") (hm : X.mg "max" = none) (ha : DA X [a, b] fs) (he : autoParam (starEach [a, b] X.env = (false, eval a X.env) :: starEach [b] X.env) _l.a0._auto_1) (hpl : autoParam ((backTo pos (starEach [b] X.env)).any (·.1) = false) _l.a0._auto_1) : DE X (.Call (.Name "max" p) [a, b] [] pos) (_d.eB _d.gMax2 fs):=d_bf (call_max2 hc) cd_max2 (by rfl) hg hm ha (he:=he) (hpl:=hpl)
theorem d_list (hg : Gl X "list") (hm : X.mg "list" = none) (ha : DA X [e] fs) (he : autoParam (starEach [e] X.env = [(false, eval e X.env)]) _l.a0._auto_1) (hpl : autoParam ((backTo pos (starEach [] X.env)).any (·.1) = false) _l.a0._auto_1) : DE X (.Call (.Name "list" p) [e] [] pos) (_d.eB _d.gList fs):=d_bt call_list_of cd_list (by rfl) hg hm ha (he:=he) (hpl:=hpl)
theorem d_call {k : Nat} {F : Addr} {fd : FuncData} {ps : List Str} {g : List _d.Dat→Option _d.RV} {x : Str} (G : FnOk X.prog X.w X.K X.mg X.base CX0 k F fd ps (spD g)) (hr : Room k X.A) (hg : Gl X x) (hm : X.mg x = some (.ref F)) (hk : PySem.W.keepIn X.K (.ref F) = true) (hb : Binds X.K fd ps [])
  (ha : DA X (e :: es) fs) (hdb : autoParam ((x == ("__debug__" : Str)) = false) _l.a1._auto_1) (he : autoParam (starEach (e :: es) X.env = (false, eval e X.env) :: starEach es X.env) _l.a0._auto_1) (hpl : autoParam ((backTo pos (starEach es X.env)).any (·.1) = false) _l.a0._auto_1) :
  DE X (.Call (.Name x p) (e :: es) [] pos) (_d.eF g fs):=PE.weak (pe_call G hr hg hm hk hb .nil (pass0 (X:=X)) ha hdb he hpl) fun _ _ _=>r_call
theorem d_if {t : _d.FT} {q : Expr} (hq : DT X q t) (ha : DE X a fa) (hb : DE X b fb) : DE X (.IfExp q a b pos) (_d.eIf t fa fb):=PE.weak (pe_ifExp hq ha hb) fun _ _ _=>r_if
theorem d_one {op} (h : DE X a fa) : DE X (.BoolOp op [a] pos) fa:=pe_one h
theorem d_and {rest : List Expr} (ha : DE X a fa) (hb : DE X (.BoolOp .And (b :: rest) pos) fb) : DE X (.BoolOp .And (a :: b :: rest) pos) (_d.eAnd fa fb):=PE.weak (pe_and ha hb) fun _ _ _=>r_and
theorem d_not (ha : DE X a fa) : DE X (.UnaryOp .Not a pos) (_d.eNot fa):=PE.weak (pe_not ha) fun _ _ _=>r_not
noncomputable abbrev DW (X : Cx) (e : Expr) (f : _d.FT) : Prop:=PW X e (tDT f)
theorem PW.weak {t t' : TT} (h : PW X e t) (k : ∀ σ H Q,t' σ H Q→t σ H Q) : PW X e t':=fun whole pins s σ H Q I q=>h whole pins s σ H Q I (k σ H Q q)
variable {ta tb : _d.FT}
theorem w_and1 (h : DT X a ta) : DW X (.BoolOp .And [a] pos) ta:=pw_and1 h
theorem w_or1 (h : DT X a ta) : DW X (.BoolOp .Or [a] pos) ta:=pw_or1 h
theorem w_and {rest : List Expr} (ha : DT X a ta) (hb : DW X (.BoolOp .And (b :: rest) pos) tb) : DW X (.BoolOp .And (a :: b :: rest) pos) (_d.tAnd ta tb):=PW.weak (pw_and ha hb) fun _ _ _=>r_tand
theorem w_or {rest : List Expr} (ha : DT X a ta) (hb : DW X (.BoolOp .Or (b :: rest) pos) tb) : DW X (.BoolOp .Or (a :: b :: rest) pos) (_d.tOr ta tb):=PW.weak (pw_or ha hb) fun _ _ _=>r_tor
theorem t_w (h : DW X a ta) : DT X a ta:=h.pt
theorem t_not (h : DT X a ta) : DT X (.UnaryOp .Not a pos) (_d.tNot ta):=PT.weak (pt_not h) fun _ _ _=>r_tnot
theorem t_val (h : DE X e f) (he : autoParam (∀ whole,isTrue e X.env whole = (do let v ← whole; standAt e.pos; holding [v] (truthy v))) _l.a2._auto_1) : DT X e (_d.tV f):=PT.weak (pt_val h he) fun _ _ _=>r_test
variable {tg : Expr}
theorem i_R1 (hg : Gl X "range") (hm : X.mg "range" = none) (ha : DA X [a] [fa]) (hs : autoParam (starEach [a] X.env = [(false, eval a X.env)]) _l.a0._auto_1) : DI X tg (.Call (.Name "range" p) [a] [] pos) (_d.iR1 fa) :=
 PI.weak (pi_range1 hg hm ha hs) fun _ _ _=>r_iR1
theorem i_R2 (hg : Gl X "range") (hm : X.mg "range" = none) (ha : DA X [a, b] [fa, fb]) (hs : autoParam (starEach [a, b] X.env = [(false, eval a X.env), (false, eval b X.env)]) _l.a0._auto_1) (hs2 : autoParam (starEach [b] X.env = [(false, eval b X.env)]) _l.a0._auto_1) : DI X tg (.Call (.Name "range" p) [a, b] [] pos) (_d.iR2 fa fb) :=
 PI.weak (pi_range2 hg hm ha hs hs2) fun _ _ _=>r_iR2
end
section
variable {X : Cx} {st : Stmt} {rest : List Stmt} {fs gs : _d.FS} {e a b c : Expr} {f fa fb : _d.FE} {pos : Pos}
theorem s_nil : DSs X [] _d.sNx:=PSs.weak pss_nil fun _ _ _=>r_nx
theorem s_cons (h1 : DS X st fs) (h2 : DSs X rest gs) : DSs X (st :: rest) (_d.sSeq fs gs):=PSs.weak (pss_cons h1 h2) fun _ _ _=>r_seq
theorem s_one (h1 : DS X st fs) : DSs X [st] fs:=pss_one h1
theorem s_a (i : Nat) {x : Str} {pos' : Pos} (hN : X.N.Nodup) (he : DE X e f) (hi : autoParam (X.N[i]? = some x) _l.a0._auto_1) (hx : autoParam (Loc X.env.scope x) _l.a4._auto_1) (hs : autoParam (swapsWith e (some (.Name x pos')) pos.line X.env = pure false) _l.a0._auto_1)
  (hf : autoParam (X.fn x = true∨X.env.scope.names.lookup x = some .local) _l.a3._auto_1) : DS X (.Assign [.Name x pos'] e pos) (_d.sA i f):=PS.weak (ps_set hN hi hx he hs hf) fun _ _ _=>r_asg
theorem gs_nil : PGs X [] (gNames []):=pgs_nil
theorem gs_cons {es : List Expr} {is : List Nat} (i : Nat) {x : Str} {px : Pos} (hN : X.N.Nodup) (h2 : PGs X es (gNames is)) (hi : autoParam (X.N[i]? = some x) _l.a0._auto_1) (hx : autoParam (Loc X.env.scope x) _l.a4._auto_1)
  (hf : autoParam (X.fn x = true∨X.env.scope.names.lookup x = some .local) _l.a3._auto_1) (hs : autoParam ((assignEach (.Name x px :: es) X.env).map (·.2) = assign (.Name x px) X.env :: (assignEach es X.env).map (·.2)) _l.a0._auto_1) : PGs X (.Name x px :: es) (gNames (i :: is)):=pgs_cons (pg_name hN hi hx hf) h2 hs
theorem s_u {is : List Nat} {es : List Expr} {k : Nat} {tpos : Pos} (hc : X.calm = true) (hg : PGs X es (gNames is)) (he : DE X e f) (hn : autoParam ((assignEach es X.env).length = is.length) _l.a0._auto_1) (hst : autoParam ((assignEach es X.env).findIdx? (·.1) = none) _l.a0._auto_1)
  (hs : autoParam (swapsWithSole [.Tuple es k tpos] e pos.line X.env = pure false) _l.a0._auto_1) (hw : autoParam (swappedStores [.Tuple es k tpos] e X.env = pure none) _l.a0._auto_1) (h1 : autoParam ((assignEach [.Tuple es k tpos] X.env).map (·.2) = [assign (.Tuple es k tpos) X.env]) _l.a0._auto_1) :
  DS X (.Assign [.Tuple es k tpos] e pos) (_d.sU is f):=PS.weak (ps_asg he (pg_tup hc hg hn hst) hs hw h1) fun _ _ _=>r_unpack rfl
theorem s_e (he : DE X e f) (hs : autoParam (swapsWith e none pos.line X.env = pure false) _l.a0._auto_1) : DS X (.Expr e pos) (_d.sE f):=PS.weak (ps_expr he hs) fun _ _ _=>r_expr
theorem s_r (he : DE X e f) : DS X (.Return (some e) pos) (_d.sR f):=PS.weak (ps_ret he) fun _ _ _=>r_ret
theorem s_if {t : _d.FT} {x y : List Stmt} (ht : DT X c t) (ha : DSs X x fs) (hb : DSs X y gs) : DS X (.If c x y pos) (_d.sIf t fs gs):=PS.weak (ps_if ht ha hb) fun _ _ _=>r_ifS
theorem s_never : DS X st (fun _=>none):=PS.weak ps_never fun _ _ _ ⟨_,_,_,_,z,_⟩=>by cases z
theorem s_app (i : Nat) {x : Str} {px ap cp : Pos} (he : DE X e f) (hi : autoParam (X.N[i]? = some x) _l.a0._auto_1) (hv : autoParam (Vis X.env.scope x) _l.a5._auto_1) (hd : autoParam ((x == ("__debug__" : Str)) = false) _l.a1._auto_1)
  (hcd : autoParam ((x == ("__classdict__" : Str)) = false) _l.a1._auto_1) (hbase : autoParam (attributeBase (.Name x px) "append" X.env (eval (.Name x px) X.env) = eval (.Name x px) X.env) _l.a0._auto_1)
  (hfew : autoParam (((backTo cp (starEach [e] X.env)).all (fun x=>!x.1) && (backToKw cp (keywordEach [] X.env)).all (fun x=>x.1.isSome)
   && decide ([e].length + ([] : List Keyword).length + (if ([] : List Keyword).isEmpty then 0 else 1) < 30)) = true) _l.a0._auto_1)
  (hline : autoParam ((ap.endLine == cp.line) = true) _l.a0._auto_1) (hs : autoParam (starEach [e] X.env = (false,eval e X.env) :: starEach [] X.env) _l.a0._auto_1) (hplain : autoParam ((backTo cp (starEach [] X.env)).any (·.1) = false) _l.a0._auto_1)
  (hsw : autoParam (swapsWith (.Call (.Attribute (.Name x px) "append" ap) [e] [] cp) none pos.line X.env = pure false) _l.a0._auto_1) :
  DS X (.Expr (.Call (.Attribute (.Name x px) "append" ap) [e] [] cp) pos) (_d.sApp i f) :=
 PS.weak (ps_expr (pe_bm PySem.F.plainAttrs_list PySem.F.slot_list_append PySem.F.type_list_append mt_append (pe_var hi hv hd hcd) (a_cons he a_nil hs) hbase hfew hline hs hplain) hsw) fun _ _ _=>r_app
theorem s_set (i : Nat) {x : Str} {j : Expr} {fj : _d.FE} {px sp : Pos} (hj : DE X j fj) (he : DE X e f) (hi : autoParam (X.N[i]? = some x) _l.a0._auto_1) (hv : autoParam (Vis X.env.scope x) _l.a5._auto_1) (hd : autoParam ((x == ("__debug__" : Str)) = false) _l.a1._auto_1)
  (hcd : autoParam ((x == ("__classdict__" : Str)) = false) _l.a1._auto_1) (ha : autoParam (∀ v, assign (.Subscript (.Name x px) j sp) X.env v = (do
   let ov ← holding [v] (eval (.Name x px) X.env)
   let iv ← holding [v,ov] (eval j X.env)
   standAt sp
   holding [v,ov,iv] (setItem ov iv v)
   release [v,ov,iv] [])) _l.a2._auto_1)
  (hs : autoParam (swapsWithSole [.Subscript (.Name x px) j sp] e pos.line X.env = pure false) _l.a0._auto_1) (hw : autoParam (swappedStores [.Subscript (.Name x px) j sp] e X.env = pure none) _l.a0._auto_1) (h1 : autoParam ((assignEach [.Subscript (.Name x px) j sp] X.env).map (·.2) = [assign (.Subscript (.Name x px) j sp) X.env]) _l.a0._auto_1) :
  DS X (.Assign [.Subscript (.Name x px) j sp] e pos) (_d.sSet i fj f):=PS.weak (ps_asg he (pg_sub (pe_var hi hv hd hcd) hj set_list ha) hs hw h1) fun _ _ _=>r_set
structure TG' (X : Cx) (tg : Expr) (is : List Nat) (bd : _d.FB) : Prop where
 ex : ∃ g,PG X tg g∧BD is g bd
theorem g_n (i : Nat) {x : Str} {px : Pos} (hN : X.N.Nodup) (hi : autoParam (X.N[i]? = some x) _l.a0._auto_1) (hx : autoParam (Loc X.env.scope x) _l.a4._auto_1) (hf : autoParam (X.fn x = true∨X.env.scope.names.lookup x = some .local) _l.a3._auto_1) :
  TG' X (.Name x px) [i] (_d.bN i):=⟨⟨_,pg_name hN hi hx hf,bd_name i⟩⟩
theorem g_t {is : List Nat} {es : List Expr} {k : Nat} {tpos : Pos} (hc : X.calm = true) (hg : PGs X es (gNames is)) (hn : autoParam ((assignEach es X.env).length = is.length) _l.a0._auto_1) (hst : autoParam ((assignEach es X.env).findIdx? (·.1) = none) _l.a0._auto_1) : TG' X (.Tuple es k tpos) is (_d.bT is) :=
 ⟨⟨_,pg_tup hc hg hn hst,bd_tup is rfl⟩⟩
theorem s_for {tg it : Expr} {fi : _d.FI} {is : List Nat} {bd : _d.FB} {body : List Stmt} (hp : PassesOwn (model X.prog X.w) X.A X.env X.xe) (hc : X.calm = true) (hi : DI X tg it fi) (hg : TG' X tg is bd) (hb : DSs X body fs)
  (hs : autoParam (∀ x,foldedSetIterable it X.env x = pure x) _l.a2._auto_1) : DS X (.For tg it body [] pos) (_d.sFor fi bd fs):=by
 refine bc fun ζ=>?_
 obtain ⟨g,h1,h2⟩:=hg.ex
 exact ζ (PS.weak (ps_for hp hc hi h1 hb hs) fun _ _ _=>r_for h2)
end
noncomputable def tyName : _d.Dat→String
 | .non=>"NoneType"
 | .bl _=>"bool"
 | .int _=>"int"
 | .str _=>"str"
 | .tup _=>"tuple"
 | .lst _=>"list"
 | .dct _ _=>"dict"
 | .exc _=>"dict"
 | .fn _=>"dict"
noncomputable def KitP (T : String) (p : _d.Dat→Bool) : Prop:=∀ (K : PySem.W.Frag) (d : _d.Dat),PySem.W.kitOne K (.type (tyName d)) (.type T) = some (p d)
theorem kit_int : KitP "int" _d.isI:=fun K d=>by cases d <;> rfl
theorem kit_bool : KitP "bool" _d.isB:=fun K d=>by cases d <;> rfl
theorem kit_list : KitP "list" _d.isL:=fun K d=>by cases d <;> rfl
theorem kit_tuple : KitP "tuple" _d.isT:=fun K d=>by cases d <;> rfl
theorem tyOf_rep {K : PySem.W.Frag} {H : Hp} {v : V} {d : _d.Dat} (r : Rep H v d) (nx : ∀ C,d≠.exc C∧d≠.fn C) : TyOf K H v (.type (tyName d)):=by
 cases r with
 | non=>exact .non
 | bl b=>exact .bl b
 | int i=>exact .int i
 | str s=>exact .str _
 | tup q _=>exact .tup q
 | lst q _ =>
  rcases q with q | ⟨o,q⟩
  ·exact .lst q
  ·exact .frz q
 | dct q _ _=>exact .dK q
 | exc _=>exact absurd rfl (nx _).1
 | fn _=>exact absurd rfl (nx _).2
noncomputable def rIsi (K : PySem.W.Frag) (T : String) : List V→Hp→VK→Prop:=fun xs H Q=>∃ x t b,xs = [x,.ty T]∧TyOf K H x t∧PySem.W.kitOne K t (.type T) = some b∧Q (.bl b) H
section
variable {X : Cx} {e : Expr} {f : _d.FE} {p p2 pos : Pos}
theorem call_isi {T : String} : CallR X (.builtin "isinstance") (rIsi X.K T):=by
 intro pins s σ H xs us Q I r h
 refine bc fun ζ=>?_
 obtain ⟨x,t,b,rfl,ty,e,q⟩:=h
 obtain ⟨u,u2,rfl,rx,ry⟩:=vals2 r
 cases ry
 exact ζ (isinst_ok I rx ty e fun tk=>⟨.bl b,H,I.tok tk,rfl,q⟩)
theorem r_isi {K : PySem.W.Frag} {T : String} {p : _d.Dat→Bool} (kp : KitP T p) {σ : _l.St} {H : Hp} {Q : VK} (h : tD (_d.e1 (_d.gIsi p) f) σ H Q) : tCB (rIsi K T) (tCons (tD f) (tCons (tC (.ty T)) tNil)) σ H Q:=by
 refine bc fun ζ=>?_
 obtain ⟨H0,ρ,x,ρ',st,e,k⟩:=h
 unfold _d.e1 at e
 split at e
 ·contradiction
 rename_i x1 ρ1 e1
 split at e
 ·contradiction
 rename_i dx p1
 apply ζ;clear ζ
 have nx : ∀ C,dx≠.exc C∧dx≠.fn C:=fun C=>⟨fun z=>(by subst z; cases e),fun z=>(by subst z; cases e)⟩
 have ev : _d.gIsi p dx = _d.vB (p dx):=by cases dx <;> first | rfl | exact absurd rfl (nx _).1 | exact absurd rfl (nx _).2
 rw [ev] at e
 dsimp only at e
 cases e
 refine ⟨H0,ρ,x1,_,st,e1,fun v H1 Hb t1 r1=>?_⟩
 exact ⟨v,_,_,rfl,tyOf_rep ((r1.look t1.st p1).full t1.st.same) nx,kp K dx,k _ H1 Hb t1 (Rep.bl _)⟩
theorem d_isi {T : String} {tn : Str} {p' : _d.Dat→Bool} (kp : KitP T p') (hvT : bootBuiltins tn = some (.type T)) (hgT : Gl X tn) (hmT : X.mg tn = none) (hg : Gl X "isinstance") (hm : X.mg "isinstance" = none) (h : DE X e f)
  (hn : autoParam (tn≠"__name__") _l.a1._auto_1) (hdb : autoParam ((tn == ("__debug__" : Str)) = false) _l.a1._auto_1)
  (he : autoParam (starEach [e,.Name tn p2] X.env = (false,eval e X.env) :: starEach [.Name tn p2] X.env) _l.a0._auto_1) (hpl : autoParam ((backTo pos (starEach [.Name tn p2] X.env)).any (·.1) = false) _l.a0._auto_1) (he2 : autoParam (starEach [.Name tn p2] X.env = (false,eval (.Name tn p2) X.env) :: starEach [] X.env) _l.a0._auto_1) :
  DE X (.Call (.Name "isinstance" p) [e, .Name tn p2] [] pos) (_d.e1 (_d.gIsi p') f) :=
 PE.weak (pe_callB call_isi hg hm PyProof.Rows.boot_isinstance (pa_cons h (pa_cons (pe_bltn (v:=.ty T) hgT hmT hvT rfl hn hdb) pa_nil he2) he) (he:=he) (hpl:=hpl)) fun _ _ _=>r_isi kp
theorem all_range (bs : List Bool) : (List.range bs.length).all (fun i=>bs.getD i true) = bs.all id:=by
 rw [Bool.eq_iff_iff,List.all_eq_true,List.all_eq_true]
 constructor
 ·intro h b hb
  refine bc fun ζ=>?_
  obtain ⟨i,hi,rfl⟩:=List.mem_iff_getElem.mp hb
  apply ζ;clear ζ
  have:=h i (List.mem_range.mpr hi)
  rw [List.getD_eq_getElem?_getD,List.getElem?_eq_getElem hi] at this
  exact this
 ·intro h i hi
  have hi:=List.mem_range.mp hi
  rw [List.getD_eq_getElem?_getD,List.getElem?_eq_getElem hi]
  exact h _ (List.getElem_mem hi)
theorem call_allB (hc : X.calm = true) : CallR X (.builtin "all") (fun xs H Q=>∃ (a : Addr) (bs : List Bool), xs = [.ref a]∧Rd H a (.lst (bs.map V.bl))∧Q (.bl (bs.all id)) H):=by
 intro pins s σ H xs us Q I r h
 refine bc fun ζ=>?_
 obtain ⟨a,bs,rfl,hq,q⟩:=h
 obtain ⟨u,rfl,rx⟩:=vals1 r
 cases rx
 obtain ⟨z,its,n,rv,e⟩:=hq.ok I.hok
 apply ζ;clear ζ
 have hl : s.heap.IsList a its.toArray:=⟨_,e,rfl,_,rfl⟩
 have hlen:=rv.length
 rw [List.length_map] at hlen
 have hax : a≠s.heap.objs.size:=Nat.ne_of_lt (Heap.lt_size e)
 refine PySem.call_all_walk (wpAny_pyIter_list hl ⟨s.heap.objs.size,_,_,_,_,_,fun i=>bs.getD i true,rfl,Walks.list (A:=X.A.in1) (I.ok.hd hc) s.heap.objs.size a hax its.toArray,⟨⟨_,Heap.get?_push_size _ rfl,rfl,rfl⟩,hl.push _⟩,?_,fun h' tk hk=>?_⟩)
 ·intro i v s' Q' E' hv hQ'
  have hv' : its[i]? = some v:=by simpa using hv
  have hi : i < bs.length:=by rw [hlen]; exact (List.getElem?_eq_some_iff.mp hv').1
  have hb : (bs.map V.bl)[i]? = some (V.bl bs[i]):=by rw [List.getElem?_map,List.getElem?_eq_getElem hi]; rfl
  refine bc fun ζ=>?_
  obtain ⟨u,hu,ru⟩:=rv.get hb
  rw [hv'] at hu
  cases hu
  cases ru
  apply ζ;clear ζ
  refine wpAny_truthy_bool ?_
  have e2 : bs.getD i true = bs[i]:=by rw [List.getD_eq_getElem?_getD,List.getElem?_eq_getElem hi]; rfl
  rw [← e2]
  exact hQ'
 ·have e1 : its.toArray.size = bs.length:=by rw [List.size_toArray,hlen]
  rw [e1,all_range]
  refine ⟨.bl _,H,I.kept (t':=tk) fun b o eb=>hk b o ?_ (Heap.get?_push_of_some _ eb),rfl,q⟩
  intro hm
  have : b = s.heap.objs.size:=by simpa using hm
  exact absurd (Heap.lt_size eb) (by rw [this]; exact Nat.lt_irrefl _)
end
section
variable {X : Cx} {a b c e : Expr} {f fa fb fc : _d.FE} {p p2 pos : Pos}
noncomputable def rIsB (neg : Bool) : R2:=fun x y H Q=>∃ i j,x = .bl i∧y = .bl j∧Q (.bl (if neg then i != j else i == j)) H
theorem op_isnotB : OpR X (compareOp .IsNot) (rIsB true):=by
 intro pins s σ H x y v u Q I rx ry h
 refine bc fun ζ=>?_
 obtain ⟨i,j,rfl,rfl,q⟩:=h
 apply ζ;clear ζ
 cases rx; cases ry
 exact isnot_bool ⟨.bl _,H,I,rfl,q⟩
theorem od_isnotB : OpD (rIsB true) _d.gIsNot2:=by
 intro H0 H x y dx dy z Q s rx ry e k
 unfold _d.gIsNot2 at e
 split at e
 ·cases e; cases repO_bl rx; cases repO_bl ry
  exact ⟨_,_,rfl,rfl,k _ H0 H (Grow.refl s) (.bl _)⟩
 ·contradiction
theorem t_isn (ha : DE X a fa) (hb : DE X b fb) : DT X (.Compare a [.IsNot] [b] pos) (_d.tV (_d.e2 _d.gIsNot2 fa fb)):=t_cmp op_isnotB od_isnotB ha hb (nomark _)
theorem r_chain {r r' : R2} {g h : _d.Dat→_d.Dat→Option _d.RV} (o1 : OpD r g) (o2 : OpD r' h) {σ : _l.St} {H : Hp} {Q : VK} (hh : tD (_d.eChain g h fa fb fc) σ H Q) : tChain r r' (tD fa) (tD fb) (tD fc) σ H Q:=by
 refine bc fun ζ=>?_
 obtain ⟨H0,ρ,x,ρ',st,e,k⟩:=hh
 unfold _d.eChain at e
 split at e
 ·contradiction
 rename_i x1 ρ1 e1
 split at e
 ·contradiction
 rename_i y1 ρ2 e2
 split at e
 ·contradiction
 rename_i dx p1
 split at e
 ·contradiction
 rename_i dy p2
 apply ζ;clear ζ
 refine ⟨H0,ρ,x1,ρ1,st,e1,fun v H1 Hb t1 r1=>⟨H1,ρ1,y1,ρ2,t1.st,e2,fun u H2 Hc t2 r2=>?_⟩⟩
 split at e
 ·rename_i gz
  refine o1 H2 Hc v u dx dy _ _ t2.st.same ((r1.mono t2).look t2.st p1) (r2.look t2.st p2) gz fun w H3 Hd g3 r3=>?_
  refine ⟨true,Rep.isBl r3,?_⟩
  rw [if_pos rfl]
  have t3:=t2.trans (.grow t2.st g3)
  have r2':=r2.mono (.grow t2.st g3)
  refine bc fun ζ=>?_
  split at e
  ·contradiction
  rename_i z ρ3 e3
  split at e
  ·contradiction
  rename_i dy' p3
  split at e
  ·contradiction
  rename_i dz p4
  split at e
  ·contradiction
  rename_i w2 hz
  cases e
  apply ζ;clear ζ
  refine ⟨H3,ρ2,z,_,t3.st,e3,fun w' H4 He t4 r4=>?_⟩
  refine o2 H4 He u w' dy' dz w2 Q t4.st.same ((r2'.mono t4).look t4.st p3) (r4.look t4.st p4) hz fun w5 H5 Hf g5 r5=>?_
  exact k w5 H5 Hf (t1.trans (t3.trans (t4.trans (.grow t4.st g5)))) ((r5.toV t4.st).early fun a n=>(t1.trans (t3.trans t4)).stp.gone n)
 ·rename_i gz
  cases e
  refine o1 H2 Hc v u dx dy _ _ t2.st.same ((r1.mono t2).look t2.st p1) (r2.look t2.st p2) gz fun w H3 Hd g3 r3=>?_
  refine ⟨false,Rep.isBl r3,?_⟩
  rw [if_neg Bool.false_ne_true]
  exact k _ H3 Hd (t1.trans (t2.trans (.grow t2.st g3))) (Rep.bl false)
 ·contradiction
theorem d_chain {op op' : CmpOp} {r r' : R2} {g h : _d.Dat→_d.Dat→Option _d.RV} (o1 : OpR X (compareOp op) r) (q1 : OpD r g) (o2 : OpR X (compareOp op') r') (q2 : OpD r' h) (ha : DE X a fa) (hb : DE X b fb) (hc : DE X c fc)
  (hm : autoParam (lastMarks [op,op'] [b,c] = false) _l.a7._auto_1) : DE X (.Compare a [op,op'] [b,c] pos) (_d.eChain g h fa fb fc):=PE.weak (pe_chain o1 o2 ha hb hc hm) fun _ _ _=>r_chain q1 q2
theorem sIx_eq (n d : Nat) (o : Option Int) (hd : d≤n) : _h.sIx n d o = _d.sIx n d o:=by
 cases o with
 | none=>rfl
 | some v =>
  unfold _h.sIx _d.sIx
  first
   | rfl
   | (dsimp only; split <;> lia)
theorem cutV_reps {H0 : Hp} {xs : List V} {ds : List _d.Dat} (rs : Reps H0 xs ds) (lo hi : Option Int) : Reps H0 (cutV xs lo hi) (_d.cut ds lo hi):=by
 unfold cutV _d.cut
 rw [rs.length,sIx_eq _ _ _ (Nat.zero_le _),sIx_eq _ _ _ (Nat.le_refl _)]
 exact (rs.drop _).take _
theorem part_ok {fo : Option _d.FE} {σ : _l.St} {H0 H : Hp} {ρ ρ' : _d.Env} {o : Option Int} {Q : Option Int→Hp→Prop} (st : RepSt H0 H σ ρ) (e : _d.part fo ρ = some (o,ρ')) (k : ∀ H0' H',ESt σ ρ H0 H ρ' H0' H'→Q o H') :
  (match fo with | none=>tNoPart | some f=>tPart (tD f)) σ H Q:=by
 cases fo with
 | none=>cases e; exact k H0 H (.refl st)
 | some f =>
  unfold _d.part at e
  dsimp only at e
  split at e
  ·rename_i i ρ1 e1
   cases e
   exact ⟨H0,ρ,_,_,st,e1,fun v H1 Hb t1 r1=>⟨i,Rep.isInt r1,k H1 Hb t1⟩⟩
  ·contradiction
noncomputable abbrev tOf (fo : Option _d.FE) : TO:=match fo with | none=>tNoPart | some f=>tPart (tD f)
theorem r_sl {K : PySem.W.Frag} {lo hi : Option _d.FE} {σ : _l.St} {H : Hp} {Q : VK} (h : tD (_d.eSl f lo hi) σ H Q) : tSl (rSlL K) (tD f) (tOf lo) (tOf hi) σ H Q:=by
 obtain ⟨H0,ρ,x,ρ',st,e,k⟩:=h
 unfold _d.eSl at e
 split at e
 ·contradiction
 rename_i x1 ρ1 e1
 split at e
 ·contradiction
 rename_i l ρ2 e2
 split at e
 ·contradiction
 rename_i hh ρ3 e3
 split at e
 ·rename_i ds p1
  cases e
  refine ⟨H0,ρ,x1,ρ1,st,e1,fun v H1 Hb t1 r1=>?_⟩
  refine part_ok t1.st e2 fun H2 Hc t2=>?_
  refine part_ok t2.st e3 fun H3 Hd t3=>?_
  have tt:=t1.trans (t2.trans t3)
  refine bc fun ζ=>?_
  obtain ⟨a,xs,rfl,qa,ra⟩:=repO_lst t3.st.same ((r1.mono (t2.trans t3)).look t3.st p1)
  apply ζ;clear ζ
  refine ⟨a,xs,rfl,.inl qa,fun q hq=>?_⟩
  have g:=Grow.newO (o:=HO.lst (cutV xs l hh)) t3.st.same hq
  refine k _ _ _ (tt.trans (.grow t3.st g)) ⟨q,rfl,tt.stp.gone hq,t3.st.notOwned hq,t3.st.same.free hq,_,upd_same,cutV_reps ra l hh⟩
 ·contradiction
theorem d_sl {lo hi : Option Expr} {flo fhi : Option _d.FE} (h : DE X e f) (hl : PO X lo (tOf flo)) (hh : PO X hi (tOf fhi)) : DE X (.Subscript e (.Slice lo hi none p2) pos) (_d.eSl f flo fhi):=PE.weak (pe_slice sl_list h hl hh) fun _ _ _=>r_sl
theorem o_n : PO X none (tOf none):=po_none
theorem o_s (h : DE X e f) : PO X (some e) (tOf (some f)):=po_some h
end
section
variable {X : Cx} {nm : List Str} {elt tg iter : Expr} {ifs : List Expr} {scope : Scope} {pos : Pos} {own : List Str} {fi : _d.FI} {bd : _d.FB} {is : List Nat} {t : _d.FT} {f : _d.FE}
noncomputable abbrev DTs (X : Cx) (ifs : List Expr) (t : _d.FT) : Prop:=PTs X ifs (tDT t)
theorem ts_nil : DTs X [] _d.tTrue:=fun pins s σ H Q I h=>by
 refine bc fun ζ=>?_
 obtain ⟨H0,ρ,b,ρ',st,e,k⟩:=h
 cases e
 exact ζ (pts_nil pins s σ H Q I (k H0 H (.refl st)))
theorem ts_one {c : Expr} (h : DT X c t) : DTs X [c] t:=pts_one h
structure TGc (X : Cx) (nm : List Str) (scope : Scope) (own : List Str) (tg : Expr) (is : List Nat) (bd : _d.FB) : Prop where
 ex : ∃ g,(∀ cl C s H fp,PG (compX X nm scope own cl C s H fp) tg g)∧BD is g bd
theorem c_n (i : Nat) {x : Str} {px : Pos} (hN : (nm ++ own).Nodup) (hi : (nm ++ own)[i]? = some x) (hx : (relabel scope X.env).names.lookup x = some .local) : TGc X nm scope own (.Name x px) [i] (_d.bN i) :=
 ⟨⟨_,fun cl C s H fp=>pg_name (X:=compX X nm scope own cl C s H fp) hN hi (.inl hx) (.inr hx),bd_name i⟩⟩
theorem c_t {es : List Expr} {k : Nat} {tpos : Pos} (hc : X.calm = true) (hg : ∀ cl C s H fp,PGs (compX X nm scope own cl C s H fp) es (gNames is)) (hn : autoParam (∀ cl C,(assignEach es (compEnvC scope cl C X.env)).length = is.length) _l.a6._auto_1)
  (hst : autoParam (∀ cl C,(assignEach es (compEnvC scope cl C X.env)).findIdx? (·.1) = none) _l.a6._auto_1) : TGc X nm scope own (.Tuple es k tpos) is (_d.bT is) :=
 ⟨⟨_,fun cl C s H fp=>pg_tup (X:=compX X nm scope own cl C s H fp) hc (hg cl C s H fp) (hn cl C) (hst cl C),bd_tup is rfl⟩⟩
theorem d_comp (hc : X.calm = true) (S : CScope X nm scope) (hi : DI X tg iter fi) (hg : TGc X nm scope own tg is bd) (ht : ∀ cl C s H fp,DTs (compX X nm scope own cl C s H fp) ifs t) (he : ∀ cl C s H fp,DE (compX X nm scope own cl C s H fp) elt f)
  (hl : ∀ i∈is,X.N.length≤i) (hs : autoParam (∀ x,foldedSetIterable iter X.env x = pure x) _l.a2._auto_1) : DE X (.ListComp elt [⟨tg,iter,ifs,0⟩] scope pos) (_d.eComp fi own.length bd t f):=by
 refine bc fun ζ=>?_
 obtain ⟨g,h1,h2⟩:=hg.ex
 apply ζ;clear ζ
 intro pins s σ H Q I h
 exact pe_comp hc S hi h1 ht he hs pins s σ H Q I (r_comp h2 (fun i hi=>by rw [I.len]; exact hl i hi) h)
theorem s_comp (j : Nat) {y : Str} {py spos : Pos} (hN : X.N.Nodup) (hc : X.calm = true) (S : CScope X nm scope) (hi : DI X tg iter fi) (hg : TGc X nm scope own tg is bd) (ht : ∀ cl C s H fp,DTs (compX X nm scope own cl C s H fp) ifs t) (he : ∀ cl C s H fp,DE (compX X nm scope own cl C s H fp) elt f)
  (hl : ∀ i∈is,X.N.length≤i) (hj : autoParam (X.N[j]? = some y) _l.a0._auto_1) (hy : autoParam (Loc X.env.scope y) _l.a4._auto_1)
  (hsw : autoParam (swapsWith (.ListComp elt [⟨tg,iter,ifs,0⟩] scope pos) (some (.Name y py)) spos.line X.env = pure true) _l.a0._auto_1) (hs : autoParam (∀ x,foldedSetIterable iter X.env x = pure x) _l.a2._auto_1)
  (hf : autoParam (X.fn y = true∨X.env.scope.names.lookup y = some .local) _l.a3._auto_1) : DS X (.Assign [.Name y py] (.ListComp elt [⟨tg,iter,ifs,0⟩] scope pos) spos) (_d.sA j (_d.eComp fi own.length bd t f)):=by
 refine bc fun ζ=>?_
 obtain ⟨g,h1,h2⟩:=hg.ex
 apply ζ;clear ζ
 intro pins s σ H D I h
 exact ps_set_comp hN hj hy hc S hi h1 ht he hsw hs hf pins s σ H D I (r_comp h2 (fun i hi=>by rw [I.len]; exact hl i hi) (r_asg h))
end
theorem reps_bools {H0 : Hp} : ∀ {ds : List _d.Dat} {bs : List Bool} {vs : List V},Reps H0 vs ds→_d.bools ds = some bs→vs = bs.map V.bl
 | [],bs,vs,r,e=>by cases r; cases e; rfl
 | .bl b :: ds,bs,vs,r,e=>by
  cases r with
  | cons r rs =>
   unfold _d.bools at e
   cases q : _d.bools ds with
   | none=>rw [q] at e; cases e
   | some cs =>
    rw [q] at e
    cases e
    cases Rep.isBl r
    rw [reps_bools rs q]
    rfl
 | .non :: ds,bs,vs,r,e=>by cases e
 | .int _ :: ds,bs,vs,r,e=>by cases e
 | .str _ :: ds,bs,vs,r,e=>by cases e
 | .tup _ :: ds,bs,vs,r,e=>by cases e
 | .lst _ :: ds,bs,vs,r,e=>by cases e
 | .dct _ _ :: ds,bs,vs,r,e=>by cases e
theorem cd_all : CallD (fun xs H Q=>∃ (a : Addr) (bs : List Bool),xs = [.ref a]∧Rd H a (.lst (bs.map V.bl))∧Q (.bl (bs.all id)) H) _d.gAll:=by
 intro H0 H vs ds z Q s rs e k
 unfold _d.gAll at e
 split at e
 ·split at e
  ·rename_i bs hb
   cases e
   cases rs with
   | cons r rr =>
    cases rr
    obtain ⟨a,us,rfl,qa,ra⟩:=repO_lst s r
    have:=reps_bools ra hb
    subst this
    exact ⟨a,bs,rfl,qa,k _ H0 H (Grow.refl s) (.bl _)⟩
  ·contradiction
 ·contradiction
theorem cd_int : CallD (fun xs H Q=>(∃ i,xs = [.int i]∧Q (.int i) H)∨∃ k,xs = [.bl k]∧Q (.int (if k then 1 else 0)) H) _d.gInt:=by
 intro H0 H vs ds z Q s rs e k
 unfold _d.gInt at e
 split at e
 ·cases e
  cases rs with
  | cons r rr =>
   cases rr
   cases repO_int r
   exact .inl ⟨_,rfl,k _ H0 H (Grow.refl s) (.int _)⟩
 ·cases e
  cases rs with
  | cons r rr =>
   cases rr
   cases repO_bl r
   exact .inr ⟨_,rfl,k _ H0 H (Grow.refl s) (.int _)⟩
 ·contradiction
section
variable {X : Cx} {a b c e : Expr} {f : _d.FE} {fs : List _d.FE} {p p2 pos : Pos}
theorem d_all (hc : X.calm = true) (hg : Gl X "all") (hm : X.mg "all" = none) (ha : DA X [e] fs) (he : autoParam (starEach [e] X.env = [(false, eval e X.env)]) _l.a0._auto_1) (hpl : autoParam ((backTo pos (starEach [] X.env)).any (·.1) = false) _l.a0._auto_1) :
  DE X (.Call (.Name "all" p) [e] [] pos) (_d.eB _d.gAll fs):=d_bf (call_allB hc) cd_all (by rfl) hg hm ha (he:=he) (hpl:=hpl)
theorem d_int (hg : Gl X "int") (hm : X.mg "int" = none) (ha : DA X [e] fs) (he : autoParam (starEach [e] X.env = [(false, eval e X.env)]) _l.a0._auto_1) (hpl : autoParam ((backTo pos (starEach [] X.env)).any (·.1) = false) _l.a0._auto_1) :
  DE X (.Call (.Name "int" p) [e] [] pos) (_d.eB _d.gInt fs):=d_bt call_int1 cd_int (by rfl) hg hm ha (he:=he) (hpl:=hpl)
end
noncomputable def maskOk (sc : Scope) : List Str→List Str→Bool
 | [],[]=>true
 | x :: N,y :: nm=>(x == y || (sc.names.lookup y).isNone) && maskOk sc N nm
 | _,_=>false
theorem maskOk.len {sc : Scope} : ∀ {N nm : List Str},maskOk sc N nm = true→nm.length = N.length
 | [],[],_=>rfl
 | [],_ :: _,h=>by cases h
 | _ :: _,[],h=>by cases h
 | x :: N,y :: nm,h=>by
  rw [maskOk,Bool.and_eq_true] at h
  rw [List.length_cons,List.length_cons,maskOk.len h.2]
theorem maskOk.at {sc : Scope} : ∀ {N nm : List Str},maskOk sc N nm = true→∀ (i : Nat) (x : Str),nm[i]? = some x→N[i]? = some x∨sc.names.lookup x = none
 | [],[],_,i,x,e=>by simp at e
 | [],_ :: _,h,_,_,_=>by cases h
 | _ :: _,[],h,_,_,_=>by cases h
 | x :: N,y :: nm,h,0,z,e=>by
  rw [maskOk,Bool.and_eq_true,Bool.or_eq_true] at h
  simp at e
  subst e
  rcases h.1 with q | q
  ·have : x = y:=by simpa using q
   subst this
   exact .inl rfl
  ·exact .inr (by simpa using q)
 | x :: N,y :: nm,h,i + 1,z,e=>by
  rw [maskOk,Bool.and_eq_true] at h
  rw [List.getElem?_cons_succ] at e ⊢
  exact maskOk.at h.2 i z e
noncomputable def cscOk (osc : Scope) (N nm : List Str) (sc : Scope) : Bool :=
 sc.names.all (fun y=>y.2 != .cell) && sc.names.all (fun y=>y.2 != .local || sc.names.lookup y.1 == some .local) &&
 sc.names.all (fun y=>y.2 != .free || (osc.names.lookup y.1 == some .cell || osc.names.lookup y.1 == some .free)) && nm.all (fun x=>sc.names.lookup x != some .local) && maskOk sc N nm
theorem CScope.of {X : Cx} {nm : List Str} {scope : Scope} (h : cscOk X.env.scope X.N nm scope = true) (hk : scope.kind = .function) : CScope X nm scope:=by
 unfold cscOk at h
 simp only [Bool.and_eq_true,List.all_eq_true] at h
 obtain ⟨⟨⟨⟨h1,h2⟩,h3⟩,h4⟩,h5⟩:=h
 refine ⟨hk,fun y hy=>?_,fun y hy hl=>?_,fun y hy hf=>?_,fun x hx=>?_,maskOk.len h5,maskOk.at h5⟩
 ·have:=h1 y hy; simpa using this
 ·have:=h2 y hy
  rw [hl] at this
  simpa using this
 ·have:=h3 y hy
  rw [hf] at this
  have : (X.env.scope.names.lookup y.1 == some .cell || X.env.scope.names.lookup y.1 == some .free) = true:=by simpa using this
  rw [Bool.or_eq_true,beq_iff_eq,beq_iff_eq] at this
  exact this
 ·have:=h4 x hx; simpa using this
section
variable {X : Cx} {elt tg iter : Expr} {ifs : List Expr} {scope : Scope} {pos : Pos} {fi : _d.FI} {bd : _d.FB} {is : List Nat} {t : _d.FT} {f : _d.FE}
theorem hl_of {l : List Nat} {n : Nat} (h : (l.all fun i=>decide (n≤i)) = true) : ∀ i∈l,n≤i:=fun i hi=>of_decide_eq_true (List.all_eq_true.mp h i hi)
theorem d_cp (nm own : List Str) (hg : TGc X nm scope own tg is bd) (hi : DI X tg iter fi) (ht : ∀ cl C s H fp,DTs (compX X nm scope own cl C s H fp) ifs t) (he : ∀ cl C s H fp,DE (compX X nm scope own cl C s H fp) elt f)
  (hc : autoParam (X.calm = true) _l.a0._auto_1) (hk : autoParam (scope.kind = .function) _l.a0._auto_1) (hS : autoParam (cscOk X.env.scope X.N nm scope = true) _l.a0._auto_1) (hl : autoParam ((is.all fun i=>decide (X.N.length≤i)) = true) _l.a0._auto_1) (hs : autoParam (∀ x,foldedSetIterable iter X.env x = pure x) _l.a2._auto_1) :
  DE X (.ListComp elt [⟨tg,iter,ifs,0⟩] scope pos) (_d.eComp fi own.length bd t f):=d_comp hc (CScope.of hS hk) hi hg ht he (hl_of hl) hs
theorem s_cp (j : Nat) (nm own : List Str) {y : Str} {py spos : Pos} (hN : X.N.Nodup) (hg : TGc X nm scope own tg is bd) (hi : DI X tg iter fi) (ht : ∀ cl C s H fp,DTs (compX X nm scope own cl C s H fp) ifs t) (he : ∀ cl C s H fp,DE (compX X nm scope own cl C s H fp) elt f)
  (hc : autoParam (X.calm = true) _l.a0._auto_1) (hk : autoParam (scope.kind = .function) _l.a0._auto_1) (hS : autoParam (cscOk X.env.scope X.N nm scope = true) _l.a0._auto_1) (hl : autoParam ((is.all fun i=>decide (X.N.length≤i)) = true) _l.a0._auto_1) (hj : autoParam (X.N[j]? = some y) _l.a0._auto_1) (hy : autoParam (Loc X.env.scope y) _l.a4._auto_1)
  (hsw : autoParam (swapsWith (.ListComp elt [⟨tg,iter,ifs,0⟩] scope pos) (some (.Name y py)) spos.line X.env = pure true) _l.a0._auto_1) (hs : autoParam (∀ x,foldedSetIterable iter X.env x = pure x) _l.a2._auto_1)
  (hf : autoParam (X.fn y = true∨X.env.scope.names.lookup y = some .local) _l.a3._auto_1) : DS X (.Assign [.Name y py] (.ListComp elt [⟨tg,iter,ifs,0⟩] scope pos) spos) (_d.sA j (_d.eComp fi own.length bd t f)) :=
 s_comp j hN hc (CScope.of hS hk) hi hg ht he (hl_of hl) hj hy hsw hs hf
end
theorem PI.or {X : Cx} {tg it : Expr} {t t' : TI} (h : PI X tg it t) (h' : PI X tg it t') : PI X tg it (fun σ H R=>t σ H R∨t' σ H R):=fun pins s σ H R I q=>q.elim (h pins s σ H R I) (h' pins s σ H R I)
theorem r_iS {K : PySem.W.Frag} {f : _d.FE} {σ : _l.St} {H : Hp} {R : It→Hp→Prop} (h : tDI (_d.iS f) σ H R) : iList K (tD f) σ H R∨iTup K (tD f) σ H R:=by
 obtain ⟨H0,ρ,ys,ρ',st,e,k⟩:=h
 unfold _d.iS at e
 split at e
 ·contradiction
 rename_i x ρ1 e1
 split at e
 ·rename_i ds ρ2 e2
  cases e
  exact .inl (r_iL ⟨H0,ρ,_,_,st,by unfold _d.iL; rw [e1]; dsimp only; rw [e2],k⟩)
 ·rename_i ds ρ2 e2
  cases e
  exact .inr (r_iT ⟨H0,ρ,_,_,st,by unfold _d.iT; rw [e1]; dsimp only; rw [e2],k⟩)
 ·contradiction
theorem i_S {X : Cx} {tg e : Expr} {f : _d.FE} (h : DE X e f) : DI X tg e (_d.iS f):=PI.weak (PI.or (pi_list h) (pi_tup h)) fun _ _ _=>r_iS
noncomputable def noList (K : PySem.W.Frag) : Bool:=K.all fun p=>match p.2.cls with | .type n=>n != "list" | _=>true
theorem lookup_mem {a : Addr} {o : Obj} : ∀ {K : List (Addr×Obj)},K.lookup a = some o→(a,o)∈K
 | [],h=>by cases h
 | (b,x) :: r,h=>by
  rw [List.lookup_cons] at h
  cases q : a == b with
  | true =>
   rw [q] at h
   cases h
   have : a = b:=by simpa using q
   rw [this]
   exact List.mem_cons_self
  | false =>
   rw [q] at h
   exact List.mem_cons_of_mem _ (lookup_mem h)
theorem law_sp {f : List _d.Dat→Option _d.RV} {K : PySem.W.Frag} {H : Hp} {a : Addr} {ns : List Int} {E : XK} (hf : f [.lst (ns.map _d.Dat.int)] = some (.val (.bl true))) (hK : noList K = true) (hS : SqL K H a (ns.map V.int)) :
  spD f [.ref a] H (fun v _=>v = .bl true) E:=by
 have hq : Rd H a (.lst (ns.map V.int)):=by
  rcases hS with h | ⟨o,its,n,hk,hc,_⟩
  ·exact h
  ·have:=List.all_eq_true.mp hK _ (lookup_mem hk)
   dsimp only at this
   rw [hc] at this
   exact absurd this (by decide)
 have hr : ∀ ns : List Int,Reps H (ns.map V.int) (ns.map _d.Dat.int):=fun ns=>by
  induction ns with
  | nil=>exact .nil
  | cons n ns ih=>exact .cons (.int n) ih
 exact ⟨H,_,_,Same.refl _,.cons (.lst hq (hr ns)) .nil,hf,fun v H0' H' _ r=>Rep.isBl r⟩
end _r
namespace _d
noncomputable def iRd (a b c : FE) : FI:=fun ρ=>match a ρ with
 | some (.val (.int i),ρ1)=>(match b ρ1 with
  | some (.val (.int j),ρ2)=>(match c ρ2 with
   | some (.val (.int k),ρ3)=>if k = -1∧j≤BIG∧-BIG≤j∧i≤BIG∧-BIG≤i then some (downs i (i - j).toNat,ρ3) else none
   | _=>none)
  | _=>none)
 | _=>none
noncomputable def iRev (a : FE) : FI:=fun ρ=>match a ρ with
 | none=>none
 | some (x,ρ1)=>match tk ρ1 x with
  | some (.lst ds,ρ2)=>some (ds.reverse,ρ2)
  | _=>none
noncomputable def enumD : Nat→List Dat→List Dat
 | _,[]=>[]
 | i,d :: ds=>.tup [.int (i : Nat),d] :: enumD (i + 1) ds
noncomputable def iEn (a : FE) : FI:=fun ρ=>match a ρ with
 | none=>none
 | some (x,ρ1)=>match tk ρ1 x with
  | some (.lst ds,ρ2)=>some (enumD 0 ds,ρ2)
  | _=>none
noncomputable def gLiRev (d : Dat) : Option RV:=match d with
 | .lst ds=>some (.new (.lst ds.reverse))
 | _=>none
noncomputable def gLiR1 : List Dat→Option RV
 | [.int j]=>if j≤1000000∧-1000000≤j then some (.new (.lst (ups 0 j.toNat))) else none
 | _=>none
end _d
namespace _r
open PySem PySem.Spec PyProof.Rows _l
theorem inv_turns {X : Cx} {pins : List (Addr×Obj)} {σ : _l.St} {H : Hp} {s : Shared} {h' : Heap} {t' : Nat} {fp : List Addr} {p : Addr} {o : HO} (I : Inv X pins σ H s) (hf : ∀ b∈fp,FpOk X pins H b)
  (k : ∀ b u,b ∉ fp→s.heap.get? b = some u→h'.get? b = some u) (hp : s.heap.objs.size≤p) (new : ObjOk X.prog X.w (upd H p o) h' p o) : Inv X pins σ (upd H p o) { s with heap:=h',toks:=t' }:=by
 have hn : H p = none:=I.hok.fresh hp
 have nf : ∀ b u,H b = some u→b ∉ fp:=fun b u e z=>by rw [(hf b z).1] at e; cases e
 have nL : X.env.locals ∉ fp:=fun z=>(hf _ z).2.1 rfl
 refine I.step (g':=s.gens) (d':=s.drawn) (ch:=fp) (fun b hb=>?_) (fun b u _ _ hc e _=>k b u hc e) (fun b u _ _ hc e _=>⟨u.slots,k b u hc e⟩)
  (fun b u _ e n=>by rw [upd_ne (Nat.ne_of_lt (Nat.lt_of_lt_of_le (Heap.lt_size e) hp))]; exact n) (fun b u hc e=>⟨u,k b u hc e⟩)
  (fun b xs q=>by rw [upd_ne (ne_of_none q hn)]; exact q) (fun b u xs q=>by rw [upd_ne (ne_of_none q hn)]; exact q) (fun b ps q=>⟨#[],by rw [upd_ne (ne_of_none q hn),q]; simp⟩) (fun m hm=>?_) (fun b u e=>?_) I.bare
 ·obtain ⟨f0,f1,f2,f3,f4,f5⟩:=hf b hb
  exact ⟨f3,f1,f4,f5⟩
 ·obtain ⟨o,es,ep,ho,r⟩:=hm
  exact ⟨o,es,ep,k _ o nL ho,r⟩
 ·by_cases hb : b = p
  ·subst hb; rw [upd_same] at e; cases e; exact new
  ·rw [upd_ne hb] at e
   refine (I.hok b u e).stay (fun c v hc q=>k c v ?_ q) (fun c q=>by rw [upd_ne (ne_of_none q hn)]; exact q) fun c xs q=>by rw [upd_ne (ne_of_none q hn)]; exact q
   rcases hc with z | z
   ·rw [z]; exact nf b u e
   ·exact nf c _ z
noncomputable def Itv (K : PySem.W.Frag) (a : Addr) (n : Nat) : It :=
 ⟨fun i H=>∃ xs x,SqL K H a xs∧xs.length = n∧xs.reverse[i]? = some x,fun i H x H'=>H' = H∧∀ xs,SqL K H a xs→xs.reverse[i]? = some x,fun i H=>n≤i⟩
theorem turn_rev {P : Program} {w : World} {K : PySem.W.Frag} {tg : Expr} (a it : Addr) (n : Nat) : Turn P w K tg (Itv K a n) [it] it (fun i h=>i≤n∧h.IsRevIter it a ((n : Int) - 1 - (i : Nat))):=by
 refine turn_one _ ?_ (fun i h st=>st.2.elim fun o z=>⟨o,_,z.1,z.2.1,z.2.2⟩) (fun i h h' st k=>⟨st.1,st.2.at fun o e=>k o e⟩) (fun X hP hw hK hc i pins s σ H E I st hg Q k=>?_) (fun X hP hw hK hc i pins s σ H E I st hg Q k=>?_) fun _ _ _ _ _ st h=>wpAny_pyIter_revIter st.2 h
 ·decide
 ·subst hP hw hK
  refine bc fun ζ=>?_
  obtain ⟨xs,x,hq,hl,hx⟩:=hg
  obtain ⟨its,rv,p,hz⟩:=I.list hq
  have hi : i < n:=by
   have:=(List.getElem?_eq_some_iff.mp hx).1
   rw [List.length_reverse,hl] at this
   exact this
  have hy':=hx
  rw [List.getElem?_reverse (by lia),hl] at hx
  obtain ⟨u,hu,ru⟩:=rv.get hx
  apply ζ;clear ζ
  have st:=st.2
  rw [show ((n : Int) - 1 - (i : Nat)) = ((n - 1 - i : Nat) : Int) by lia] at st
  exact wpAny_pyNext_rev_item st p.isList (x:=u) (by simpa using hu) fun h' st' sb=>k u x h' s.toks ru ⟨rfl,fun ys hy=>by rw [I.list_inj hy hq]; exact hy'⟩ ⟨hi,(show ((n - 1 - i : Nat) : Int) - 1 = (n : Int) - 1 - ((i + 1 : Nat) : Int) by lia) ▸ st'⟩ fun b o hb e=>(sb.2 b hb).trans e
 ·subst hP hw hK
  obtain ⟨h1,st⟩:=st
  have h2 : n≤i:=hg
  rw [show ((n : Int) - 1 - (i : Nat)) = -1 by lia] at st
  exact wpAny_pyNext_rev_end (I.ok.hd hc) st fun h' eb=>k h' fun b o hb e=>eb b o hb e
noncomputable def iRevL (K : PySem.W.Frag) (tl : TE) : TI:=fun σ H R=>tl σ H fun x H1=>∃ a xs,x = .ref a∧SqL K H1 a xs∧R (Itv K a xs.length) H1
section
variable {X : Cx} {tg l : Expr} {tl : TE} {p pos : Pos}
theorem ev_rev {Q : Value→Shared→Prop} {Qx : VK} {pins : List (Addr×Obj)} {s : Shared} {σ : _l.St} {H : Hp} (hg : Gl X "reversed") (hm : X.mg "reversed" = none) (hl : PE X l tl) (hs : starEach [l] X.env = [(false, eval l X.env)]) (I : Inv X pins σ H s) (h : tl σ H Qx)
  (k : ∀ x H1 s1,Inv X pins σ H1 s1→Qx x H1→∃ a xs,x = .ref a∧SqL X.K H1 a xs∧∀ its : List Value,Vals xs its→PlainL s1.heap a its.toArray→xs.length≤sizeLine→Q (.ref s1.heap.objs.size) { s1 with heap:=s1.heap.push (revObj a ((its.toArray.size : Int) - 1)) }) :
  wpAny (model X.prog X.w) X.A (eval (.Call (.Name "reversed" p) [l] [] pos) X.env) Q X.xe s:=by
 refine Call_ (ld_blt I hg hm boot_reversed (PyProof.Rows.callWith_type1 (spliced_more ?_ (by rw [hs]; rfl)) (by rw [hs]; rfl) rfl))
 refine thn (hl pins s σ H _ I h) fun v s1 ⟨x,H1,I1,r1,q1⟩=>?_
 refine bc fun ζ=>?_
 obtain ⟨a,xs,e,hq,q⟩:=k x H1 s1 I1 q1
 subst e
 cases r1
 obtain ⟨its,rv,pl,hz⟩:=I1.list hq
 apply ζ;clear ζ
 refine Calls.spliced_nil (call_reversed_list pl.isList (q its rv pl hz))
theorem pi_rev (hg : Gl X "reversed") (hm : X.mg "reversed" = none) (hl : PE X l tl) (hs : autoParam (starEach [l] X.env = [(false, eval l X.env)]) _l.a0._auto_1) : PI X tg (.Call (.Name "reversed" p) [l] [] pos) (iRevL X.K tl):=by
 intro pins s σ H R I h
 refine ev_rev hg hm hl hs I h fun x H1 s1 I1 q1=>?_
 refine bc fun ζ=>?_
 obtain ⟨a,xs,e,hq,q⟩:=q1
 apply ζ;clear ζ
 refine ⟨a,xs,e,hq,fun its rv pl hz=>?_⟩
 have hn : (its.toArray.size : Int) = ((xs.length : Nat) : Int):=by rw [List.size_toArray,rv.length]
 have st : ({ s1 with heap:=s1.heap.push (revObj a ((its.toArray.size : Int) - 1)) } : Shared).heap.IsRevIter s1.heap.objs.size a (((xs.length : Nat) : Int) - 1 - ((0 : Nat) : Int)):=⟨_,Heap.get?_push_size _ rfl,rfl,by rw [hn]; simp [revObj]⟩
 refine wpAny_pyIter_revIter st ?_
 refine ⟨s1.heap.objs.size,[s1.heap.objs.size],_,_,H1,rfl,I1.kept (t':=s1.toks) fun b o e=>Heap.get?_push_of_some _ e,turn_rev a _ xs.length,⟨Nat.zero_le _,st⟩,fun b hb=>?_,q⟩
 have e : b = s1.heap.objs.size:=by simpa using hb
 subst e
 exact I1.fpOk (Nat.le_refl _) (I1.hok.fresh (Nat.le_refl _))
end
section
variable {X : Cx} {tg : Expr}
end
noncomputable def Ite (K : PySem.W.Frag) (a : Addr) : It :=
 ⟨fun i H=>∃ xs x,SqL K H a xs∧xs[i]? = some x,fun i H x H'=>∃ p v,H p = none∧x = .ref p∧H' = upd H p (.tup [.int i,v])∧∀ xs,SqL K H a xs→xs[i]? = some v,fun i H=>∃ xs,SqL K H a xs∧xs.length≤i⟩
theorem turn_enum {P : Program} {w : World} {K : PySem.W.Frag} {elts : List Expr} {x1} {tp : Pos} (a e it : Addr) (hne : e≠it) : Turn P w K (.Tuple elts x1 tp) (Ite K a) [e,it] e (fun i h=>(∃ old,IsEnum h e it (i : Nat) old)∧h.IsListIter it a i) where
 mem:=by simp
 obj:=fun i h st b hb=>by
  refine bc fun ζ=>?_
  obtain ⟨⟨old,he⟩,o,e1,c,d⟩:=st
  apply ζ;clear ζ
  rcases List.mem_cons.mp hb with rfl | hb
  ·exact ⟨_,he,fun v z=>by
    have z' : Data.fields _ = Data.cell v:=z
    cases z'⟩
  ·have e2 : b = it:=by simpa using hb
   subst e2
   exact ⟨o,e1,fun v z=>by rw [d] at z; cases z⟩
 keep:=fun i h h' st k=>⟨let ⟨old,he⟩:=st.1; ⟨old,k e (by simp) _ he⟩,st.2.at fun o z=>k it (by simp) o z⟩
 item:=by
  intro X hP hw hK hc i pins s σ H E I hf st hg
  subst hP hw hK
  refine bc fun ζ=>?_
  obtain ⟨xs,x,hq,hx⟩:=hg
  obtain ⟨its,rv,p,hz⟩:=I.list hq
  obtain ⟨u,hu,ru⟩:=rv.get hx
  obtain ⟨⟨old,he⟩,hit⟩:=st
  apply ζ;clear ζ
  refine wpAny_pyNext_enum_item he hit p.isList (x:=u) (by simpa using hu) hne fun h1 heo hit1 ht1 hz1 hk1=>?_
  refine ⟨_,rfl,wpAny_letOwnedTupleGo_enum heo fun h2 he2 hs2=>?_⟩
  have hlt : e < s.heap.objs.size:=Heap.lt_size he
  have ht2 : h2.get? s.heap.objs.size = some { cls:=.type "tuple", data:=.seq #[.int i s.toks, u] }:=(hs2.2 _ (Nat.ne_of_gt hlt)).trans ht1
  have k2 : ∀ b o,b ∉ [e,it]→s.heap.get? b = some o→h2.get? b = some o:=fun b o hb z=>by
   have n1 : b≠e:=fun y=>hb (by simp [y])
   have n2 : b≠it:=fun y=>hb (by simp [y])
   exact (hs2.2 b n1).trans (hk1 b o n1 n2 z)
  have hn : H s.heap.objs.size = none:=I.hok.fresh (Nat.le_refl _)
  have I2 : Inv X pins σ (upd H s.heap.objs.size (.tup [.int i,x])) { s with heap:=h2,toks:=s.toks + 1 } :=
   inv_turns I hf k2 (Nat.le_refl _) ⟨by simp [sizeLine],[.int i s.toks,u],.cons ⟨s.toks,rfl⟩ (.cons ru .nil),_,ht2,rfl,_,rfl⟩
  refine ⟨.ref s.heap.objs.size,_,I2,rfl,⟨_,x,hn,rfl,rfl,fun ys hy=>by rw [I.list_inj hy hq]; exact hx⟩,⟨⟨u,?_⟩,?_⟩,fun b hb=>?_⟩
  ·have : (((i + 1 : Nat) : Int)) = (i : Int) + 1:=by lia
   rw [this]; exact he2
  ·exact hit1.at fun o z=>(hs2.2 it (Ne.symm hne)).trans z
  ·have hb1 : b≠s.heap.objs.size:=fun y=>by
    rcases List.mem_cons.mp hb with z | z
    ·rw [y] at z; exact absurd z (Nat.ne_of_gt hlt)
    ·have z' : b = it:=by simpa using z
     refine bc fun ζ=>?_
     obtain ⟨o,ho,_⟩:=hit
     apply ζ;clear ζ
     have:=Heap.lt_size ho
     rw [← z',y] at this
     exact Nat.lt_irrefl _ this
   rw [upd_ne hb1]
   exact (hf b hb).1
 done:=by
  intro X hP hw hK hc i pins s σ H E I hf st hg
  subst hP hw hK
  refine bc fun ζ=>?_
  obtain ⟨xs,hq,hx⟩:=hg
  obtain ⟨its,rv,p,hz⟩:=I.list hq
  obtain ⟨f0,f1,f2,f3,f4,f5⟩:=hf it (by simp)
  obtain ⟨⟨old,he⟩,hit⟩:=st
  apply ζ;clear ζ
  have hl:=rv.length
  exact wpAny_pyNext_enum_end (I.ok.hd hc) he hit p.isList (by simp; lia) fun h' eb=>⟨rfl,I.turned (t':=s.toks) (fun b o hb e=>eb b o hb e) f0 f1 f3 f4 f5⟩
 self:=fun A i s Q E st h=>by
  refine bc fun ζ=>?_
  obtain ⟨⟨old,he⟩,hit⟩:=st
  apply ζ;clear ζ
  have hT : s.TypeIs (.ref e) "enumerate":=⟨_, he, rfl⟩
  refine wpAny_pyIter_slot hT F.slot_enumerate_iter (wpAny_call_entry F.slot_enumerate_iter hT F.entry_enumerate_iter ?_ (F.args_enumerate_iter_1 _))
  show wpAny _ _ (ret (.ref e)) _ _ s
  exact wpAny_pure ⟨_, rfl, "enumerate", _, hT, F.slot_enumerate_next.lookup, h⟩
noncomputable def iEnL (K : PySem.W.Frag) (tl : TE) : TI:=fun σ H R=>tl σ H fun x H1=>∃ a,x = .ref a∧(∃ xs,SqL K H1 a xs)∧R (Ite K a) H1
section
variable {X : Cx} {l : Expr} {tl : TE} {p pos : Pos} {elts : List Expr} {x1 : Nat} {tp : Pos}
theorem pi_enum (hg : Gl X "enumerate") (hm : X.mg "enumerate" = none) (hl : PE X l tl) (hs : autoParam (starEach [l] X.env = [(false, eval l X.env)]) _l.a0._auto_1) : PI X (.Tuple elts x1 tp) (.Call (.Name "enumerate" p) [l] [] pos) (iEnL X.K tl):=by
 intro pins s σ H R I h
 refine Call_ (ld_blt I hg hm boot_enumerate (PyProof.Rows.callWith_type1 (spliced_more ?_ (by rw [hs]; rfl)) (by rw [hs]; rfl) rfl))
 refine thn (hl pins s σ H _ I h) fun v s1 ⟨x,H1,I1,r1,q1⟩=>?_
 refine bc fun ζ=>?_
 obtain ⟨a,e,⟨xs,hq⟩,q⟩:=q1
 subst e
 cases r1
 obtain ⟨its,rv,pl,hz⟩:=I1.list hq
 apply ζ;clear ζ
 refine Calls.spliced_nil (call_enumerate_list pl.isList fun h' he hit hsz k=>?_)
 have I2 : Inv X pins σ H1 { s1 with heap:=h' }:=I1.kept (t':=s1.toks) k
 have T:=turn_enum (P:=X.prog) (w:=X.w) (K:=X.K) (elts:=elts) (x1:=x1) (tp:=tp) a (s1.heap.objs.size + 1) s1.heap.objs.size (Nat.succ_ne_self _)
 refine T.self X.A 0 { s1 with heap:=h' } _ X.xe ⟨⟨_,he⟩,hit⟩ ?_
 refine ⟨s1.heap.objs.size + 1,[s1.heap.objs.size + 1,s1.heap.objs.size],_,_,H1,rfl,I2,T,⟨⟨_,he⟩,hit⟩,fun b hb=>?_,q⟩
 have : s1.heap.objs.size≤b:=by
  rcases List.mem_cons.mp hb with rfl | hb
  ·exact Nat.le_succ _
  ·have : b = s1.heap.objs.size:=by simpa using hb
   exact Nat.le_of_eq this.symm
 exact I1.fpOk this (I1.hok.fresh this)
end
theorem lri_no_len : typeLookup (.type "list_reverseiterator") "__len__" = pure none:=by rw [typeLookup_type, builtinLookup_eq_fast]; kernel_rfl
theorem lri_hint : typeLookup (.type "list_reverseiterator") "__length_hint__" = pure (some (.builtin "list_reverseiterator.__length_hint__")):=by rw [typeLookup_type, builtinLookup_eq_fast]; kernel_rfl
section
variable {prog : Program} {w : World} {A : Around} {E : Value→Shared→Prop} {s : Shared}
theorem hint_rev {I l : Addr} {i : Int} {Q : Bool→Shared→Prop} (hit : s.heap.IsRevIter I l i) (h : Q false s) : wpAny (model prog w) A (Builtin.List.listLengthHint (.ref I)) Q E s:=by
 unfold Builtin.List.listLengthHint
 refine wpAny_bind (wpAny_specialOf hit.typeIs lri_no_len ?_)
 show wpAny _ A (specialOf (Value.ref I) (Str.ofString "__length_hint__") >>= _) _ _ _
 refine wpAny_bind (wpAny_specialOf hit.typeIs lri_hint ?_)
 generalize hid : ("list_reverseiterator.__length_hint__" : String) = id0
 wp_delta
 rw [show splitId id0 = some ("list_reverseiterator", "__length_hint__") from by subst hid; decide +kernel]
 subst hid
 refine wpAny_bind (wpAny_isInstance (T:="list_reverseiterator") (b:=true) hit.typeIs (by rw [isSubtype_type]; kernel_rfl) ?_)
 refine wpAny_ite_split (fun hab=>absurd hab (by decide)) (fun _=>?_)
 refine wpAny_ite_split (fun _=>?_) (fun hab=>absurd (by decide +kernel) hab)
 refine wpAny_ite_split (fun hab=>absurd hab (by decide +kernel)) (fun _=>wpAny_pure h)
theorem extend_rev {R : Result→Shared→Prop} {I l : Addr} {items : Array Value} (hh : A.handled = none) (hit : s.heap.IsRevIter I l ((items.size : Int) - 1)) (hl : s.heap.IsList l items) (hne : l≠I) (hlen : items.size≤sizeLine)
  (S : Addr) (res : Value) (c₀ : Nat) (hSI : S≠I) (hSl : S≠l) (hS : s.heap.get? S = some { cls:=.type "list", data:=.seq #[] c₀ })
  (hR : ∀ h' tk acc' c', (∀ b o, b≠S→b≠I→s.heap.get? b = some o→h'.get? b = some o)→h'.get? S = some { cls:=.type "list", dict:=none, data:=.seq acc' c', slots:=#[] } →
   ItemsOf (fun i v=>items[items.size - 1 - i]? = some v) acc' items.size→R (.ok (.ret res)) { s with heap:=h',toks:=tk }) :
  wpAny (model prog w) A.in1 (Builtin.List.listExtendWith (.ref S) (.ref I) res)
   (fun fin s'=>match fin with | .done f=>R (.ok f) s' | .again c'=>c'.quiet = true∧codeAny (model prog w) A c' R s') (fun e s'=>R (.error e) s') s:=by
 have hSf : S ∉ [I,l]:=fun hm=>by
  rcases List.mem_cons.mp hm with z | z
  ·exact hSI z
  ·exact hSl (List.mem_singleton.mp z)
 have W:=(Walks.listRev (prog:=prog) (w:=w) (A:=A.in1) hh I l hne items).toS
 unfold Builtin.List.listExtendWith
 refine wpAny_bind (wpAny_typeOf (T:="list_reverseiterator") hit.typeIs ?_)
 have h1 : Builtin.List.listSameRef (.ref S) (.ref I) = false:=by simp [Builtin.List.listSameRef,hSI]
 have h2 : (Value.type "list_reverseiterator" == Value.type "list") = false:=by decide
 have h3 : (Value.type "list_reverseiterator" == Value.type "tuple") = false:=by decide
 simp only [h1,h2,h3,Bool.or_false,Bool.false_eq_true,if_false]
 refine wpAny_bind (wpAny_pyIter_revIter hit ?_)
 refine wpAny_bind (wpAny_holding (hint_rev hit ?_))
 refine wpAny_ite_split (fun hab=>absurd hab (by decide +kernel)) (fun _=>wpAny_pure ⟨plainId_quiet F.plain_extend_loop _,?_⟩)
 have hst : (0≤items.size)∧s.heap.IsRevIter I l ((items.size : Int) - 1 - ((0 : Nat) : Int))∧s.heap.IsList l items:=⟨Nat.zero_le _,by simpa using hit,hl⟩
 refine codeAny_extend_loopS W hlen S hSf res items.size 0 _ #[] c₀ rfl (Nat.zero_le _) hst hS (ItemsOf.nil _) fun s' acc' c' hm hS' hacc=>?_
 rw [Moved.eq_with hm]
 refine hR s'.heap s'.toks acc' c' (fun b o hb hb2 e=>hm.heap b o (fun hmem=>?_) e) hS' hacc
 rcases List.mem_cons.mp hmem with e' | hmem
 ·exact hb e'
 ·exact hb2 (List.mem_singleton.mp hmem)
theorem init_rev {R : Result→Shared→Prop} {I l : Addr} {items : Array Value} (hh : A.handled = none) (hit : s.heap.IsRevIter I l ((items.size : Int) - 1)) (hl : s.heap.IsList l items) (hne : l≠I) (hlen : items.size≤sizeLine)
  (S : Addr) (hSI : S≠I) (hSl : S≠l) (hS : s.heap.get? S = some { cls:=.type "list", data:=.seq #[] })
  (hR : ∀ h' tk acc' c', (∀ b o, b≠S→b≠I→s.heap.get? b = some o→h'.get? b = some o)→h'.get? S = some { cls:=.type "list", dict:=none, data:=.seq acc' c', slots:=#[] } →
   ItemsOf (fun i v=>items[items.size - 1 - i]? = some v) acc' items.size→R (.ok (.ret .none)) { s with heap:=h',toks:=tk }) :
  wpAny (model prog w) A.in1 (Builtin.«list.__init__» ⟨[.ref S,.ref I],[]⟩)
   (fun fin s'=>match fin with | .done f=>R (.ok f) s' | .again c'=>c'.quiet = true∧codeAny (model prog w) A c' R s') (fun e s'=>R (.error e) s') s:=by
 show wpAny _ A.in1 (do let old ← Builtin.List.listItems (.ref S); Builtin.List.listUpdate (.ref S) (fun _=>#[]); letGo old.toList.reverse; Builtin.List.listExtendWith (.ref S) (.ref I) .none) _ _ s
 refine wpAny_bind ?_
 unfold Builtin.List.listItems
 refine wpAny_bind (wpAny_seqItems hS rfl (wpAny_pure ?_))
 show wpAny _ A.in1 (updateSeq S (fun _=>#[]) >>= fun _=>letGo (#[] : Array Value).toList.reverse >>= fun _=>Builtin.List.listExtendWith (.ref S) (.ref I) .none) _ _ s
 refine wpAny_bind (wpAny_updateSeq hS rfl ?_)
 have hS₂:=Heap.get?_update_self (Obj.mapSeq (fun _=>(#[] : Array Value))) hS rfl
 have oth : ∀ b o,b≠S→s.heap.get? b = some o→(s.heap.update S (Obj.mapSeq (fun _=>(#[] : Array Value)))).get? b = some o :=
  fun b o hb e=>(Heap.get?_update_other _ _ (Ne.symm hb)).trans e
 refine wpAny_bind (wpAny_letGo ?_)
 refine extend_rev hh (hit.at fun o e=>oth I o (Ne.symm hSI) e) (hl.at fun o e=>oth l o (Ne.symm hSl) e) hne hlen S .none _ hSI hSl hS₂ fun h' tk acc' c' hk hS' hacc=>?_
 exact hR h' tk acc' c' (fun b o hb hb2 e=>hk b o hb hb2 (oth b o hb e)) hS' hacc
theorem call_list_rev {Q : Value→Shared→Prop} {I l : Addr} {items : Array Value} (hh : A.handled = none) (hit : s.heap.IsRevIter I l ((items.size : Int) - 1)) (hl : s.heap.IsList l items) (hne : l≠I) (hlen : items.size≤sizeLine)
  (hQ : ∀ h' tk acc' c', (∀ b o, b≠I→s.heap.get? b = some o→h'.get? b = some o)→h'.get? s.heap.objs.size = some { cls:=.type "list", dict:=none, data:=.seq acc' c', slots:=#[] } →
   ItemsOf (fun i v=>items[items.size - 1 - i]? = some v) acc' items.size→Q (.ref s.heap.objs.size) { s with heap:=h',toks:=tk }) :
  wpAny (model prog w) A (call (.type "list") [.ref I]) Q E s:=by
 refine callType_codes (Q₁:=fun obj s₁=>obj = .ref s.heap.objs.size∧s₁ = { s with heap:=s.heap.push { cls:=.type "list", data:=.seq #[] } }) F.called_list (F.typeCall_list_1 _) F.entry_list_init
  (code_list_new _ ⟨rfl,rfl⟩) fun obj s₁ h₁=>?_
 refine bc fun ζ=>?_
 obtain ⟨rfl,rfl⟩:=h₁
 have hS : (s.heap.push { cls:=.type "list", data:=.seq #[] }).get? s.heap.objs.size = some { cls:=.type "list", data:=.seq #[] }:=Heap.get?_push_size _ rfl
 obtain ⟨oi,hoi,_⟩:=id hit
 obtain ⟨ol,hol,_⟩:=id hl
 apply ζ;clear ζ
 refine ⟨⟨_,hS,rfl⟩,F.args_list_init_2 _ _,init_rev (A:=A.in1) hh (hit.at fun o e=>Heap.get?_push_of_some _ e) (hl.at fun o e=>Heap.get?_push_of_some _ e) hne hlen _ (Nat.ne_of_gt (Heap.lt_size hoi)) (Nat.ne_of_gt (Heap.lt_size hol)) hS fun h' tk acc' c' hk hS' hacc=>?_⟩
 exact ⟨rfl,hQ h' tk acc' c' (fun b o hb e=>hk b o (Nat.ne_of_lt (Heap.lt_size e)) hb (Heap.get?_push_of_some _ e)) hS' hacc⟩
end
theorem items_vals {P : Nat→Value→Prop} {acc : Array Value} {ys : List V} (h : ItemsOf P acc ys.length) (k : ∀ i v,P i v→i < ys.length→∃ y,ys[i]? = some y∧RelV y v) : Vals ys acc.toList:=by
 have : ∀ (ys : List V) (us : List Value),ys.length = us.length→(∀ (i : Nat) (u : Value),us[i]? = some u→∃ y,ys[i]? = some y∧RelV y u)→Vals ys us:=by
  intro ys
  induction ys with
  | nil=>intro us e _; cases us with
   | nil=>exact .nil
   | cons _ _=>cases e
  | cons y ys ih=>intro us e f; cases us with
   | nil=>cases e
   | cons u us =>
    obtain ⟨y',h1,h2⟩:=f 0 u rfl
    cases h1
    exact .cons h2 (ih us (by simpa using e) fun i u' hu=>by simpa using f (i + 1) u' (by simpa using hu))
 refine this ys acc.toList (by have:=h.1; simp only [Array.length_toList]; exact this.symm) fun i u hu=>?_
 have hu' : acc[i]? = some u:=by rw [← Array.getElem?_toList]; exact hu
 have hi : i < ys.length:=by
  rw [← h.1]
  exact (Array.getElem?_eq_some_iff.mp hu').1
 exact k i u (h.2 i u hu') hi
noncomputable def tLiRev (K : PySem.W.Frag) (tl : TE) : TE:=fun σ H Q=>tl σ H fun x H1=>∃ a xs,x = .ref a∧SqL K H1 a xs∧∀ q,H1 q = none→Q (.ref q) (upd H1 q (.lst xs.reverse))
noncomputable def tLiR1 (ta : TA) : TE:=fun σ H Q=>ta σ H fun vs H1=>∃ j : Int,vs = [.int j]∧-(2 ^ 62)≤j∧j≤1000000∧∀ q,H1 q = none→Q (.ref q) (upd H1 q (.lst ((List.range j.toNat).map fun i=>V.int (i : Nat))))
section
variable {X : Cx} {l a : Expr} {tl : TE} {ta : TA} {p pos p0 pos0 : Pos}
theorem pe_liRev (hc : X.calm = true) (hgl : Gl X "list") (hml : X.mg "list" = none) (hg : Gl X "reversed") (hm : X.mg "reversed" = none) (hl : PE X l tl) (hs : autoParam (starEach [l] X.env = [(false, eval l X.env)]) _l.a0._auto_1)
  (hs0 : autoParam (starEach [.Call (.Name "reversed" p) [l] [] pos] X.env = [(false, eval (.Call (.Name "reversed" p) [l] [] pos) X.env)]) _l.a0._auto_1) :
  PE X (.Call (.Name "list" p0) [.Call (.Name "reversed" p) [l] [] pos] [] pos0) (tLiRev X.K tl):=by
 intro pins s σ H Q I h
 refine wpAny_Call_Name_kw (ld_blt I hgl hml boot_list (PyProof.Rows.callWith_type1 (spliced_more ?_ (by rw [hs0]; rfl)) (by rw [hs0]; rfl) rfl))
 refine ev_rev hg hm hl hs I h fun x H1 s1 I1 q1=>?_
 refine bc fun ζ=>?_
 obtain ⟨a,xs,e,hq,q⟩:=q1
 apply ζ;clear ζ
 refine ⟨a,xs,e,hq,fun its rv pl hz=>Calls.spliced_nil ?_⟩
 have hal : a < s1.heap.objs.size:=by
  refine bc fun ζ=>?_
  obtain ⟨o,ho,_⟩:=pl.isList
  exact ζ (Heap.lt_size ho)
 have hn:=rv.length
 refine call_list_rev (items:=its.toArray) (I.ok.hd hc) ⟨_,Heap.get?_push_size _ rfl,rfl,rfl⟩ (pl.isList.at fun o e=>Heap.get?_push_of_some _ e) (Nat.ne_of_lt hal) (by rw [List.size_toArray,← hn]; exact hz) fun h' tk acc' c' hk hS' hacc=>?_
 have hsz : ({ s1 with heap:=s1.heap.push (revObj a ((its.toArray.size : Int) - 1)) } : Shared).heap.objs.size = s1.heap.objs.size + 1:=Heap.size_push ..
 have hp : s1.heap.objs.size≤({ s1 with heap:=s1.heap.push (revObj a ((its.toArray.size : Int) - 1)) } : Shared).heap.objs.size:=by rw [hsz]; exact Nat.le_succ _
 have vl : Vals xs.reverse acc'.toList:=by
  refine items_vals (by rw [List.length_reverse,hn,← List.size_toArray]; exact hacc) fun i v hv hi=>?_
  rw [List.length_reverse] at hi
  rw [List.size_toArray] at hv
  have hv' : its[its.length - 1 - i]? = some v:=by simpa using hv
  rw [List.getElem?_reverse hi,hn]
  have hlt:=(List.getElem?_eq_some_iff.mp hv').1
  have hx : xs[its.length - 1 - i]? = some (xs[its.length - 1 - i]'(by lia)):=List.getElem?_eq_getElem _
  refine bc fun ζ=>?_
  obtain ⟨u,hu,ru⟩:=rv.get hx
  rw [hv'] at hu
  cases hu
  exact ζ (⟨_,hx,ru⟩)
 have ok : ObjOk X.prog X.w (upd H1 ({ s1 with heap:=s1.heap.push (revObj a ((its.toArray.size : Int) - 1)) } : Shared).heap.objs.size (.lst xs.reverse)) h' ({ s1 with heap:=s1.heap.push (revObj a ((its.toArray.size : Int) - 1)) } : Shared).heap.objs.size (.lst xs.reverse):=⟨by rw [List.length_reverse]; exact hz,acc'.toList,c',vl,by simpa using hS'⟩
 exact ⟨.ref _,_,I1.laid (t':=tk) (fun b u e=>hk b u (Nat.ne_of_lt (Heap.lt_size e)) (Heap.get?_push_of_some _ e)) hp ok,rfl,q _ (I1.hok.fresh hp)⟩
theorem pe_liR1 (hc : X.calm = true) (hgl : Gl X "list") (hml : X.mg "list" = none) (hg : Gl X "range") (hm : X.mg "range" = none) (ha : PA X [a] ta) (hs : autoParam (starEach [a] X.env = [(false, eval a X.env)]) _l.a0._auto_1)
  (hs0 : autoParam (starEach [.Call (.Name "range" p) [a] [] pos] X.env = [(false, eval (.Call (.Name "range" p) [a] [] pos) X.env)]) _l.a0._auto_1) :
  PE X (.Call (.Name "list" p0) [.Call (.Name "range" p) [a] [] pos] [] pos0) (tLiR1 ta):=by
 intro pins s σ H Q I h
 refine wpAny_Call_Name_kw (ld_blt I hgl hml boot_list (PyProof.Rows.callWith_type1 (spliced_more ?_ (by rw [hs0]; rfl)) (by rw [hs0]; rfl) rfl))
 refine Call_ (ld_blt I hg hm boot_range (PyProof.Rows.callWith_type1 (thn (ha pos pins s σ H _ I h) fun us s1 ⟨vs,H1,I1,r1,q1⟩=>?_) hs rfl))
 refine bc fun ζ=>?_
 obtain ⟨j,e,q1,q2,q⟩:=q1
 subst e
 apply ζ;clear ζ
 cases r1 with
 | cons r rr =>
  cases rr
  obtain ⟨t,rfl⟩:=r
  refine call_range_1 (Calls.spliced_nil ?_)
  have hn : Builtin.Range.rangeSize 0 j 1 = (j.toNat : Nat):=by rw [rangeSize_one]; split <;> lia
  refine call_list_range (n:=j.toNat) (I.ok.hd hc) (IsRange.new ..) (small_one (by lia) (by lia) q1 (by lia)) hn (by lia) fun h' tk acc' c' hk hS' hacc=>?_
  have hsz : (s1.heap.push { cls:=.type "range", data:=.fields #[.int 0 s1.toks, .int j t, .int 1 (s1.toks + 1)] }).objs.size = s1.heap.objs.size + 1:=Heap.size_push ..
  have hp : s1.heap.objs.size≤(s1.heap.push { cls:=.type "range", data:=.fields #[.int 0 s1.toks, .int j t, .int 1 (s1.toks + 1)] }).objs.size:=by rw [hsz]; exact Nat.le_succ _
  have vl : Vals ((List.range j.toNat).map fun i=>V.int (i : Nat)) acc'.toList:=by
   refine items_vals (by rw [List.length_map,List.length_range]; exact hacc) fun i v hv hi=>?_
   obtain ⟨t,rfl⟩:=hv
   rw [List.length_map,List.length_range] at hi
   refine ⟨.int (i : Nat),by rw [List.getElem?_map,List.getElem?_range hi]; rfl,t,?_⟩
   have : (0 : Int) + (i : Int) * 1 = i:=by lia
   rw [this]
  have ok : ObjOk X.prog X.w (upd H1 (s1.heap.push { cls:=.type "range", data:=.fields #[.int 0 s1.toks, .int j t, .int 1 (s1.toks + 1)] }).objs.size (.lst ((List.range j.toNat).map fun i=>V.int (i : Nat)))) h' (s1.heap.push { cls:=.type "range", data:=.fields #[.int 0 s1.toks, .int j t, .int 1 (s1.toks + 1)] }).objs.size (.lst ((List.range j.toNat).map fun i=>V.int (i : Nat))) :=
   ⟨by rw [List.length_map,List.length_range,sizeLine_eq]; lia,acc'.toList,c',vl,by simpa using hS'⟩
  exact ⟨.ref _,_,I1.laid (t':=tk) (fun b u e=>hk b u (Heap.get?_push_of_some _ e)) hp ok,rfl,q _ (I1.hok.fresh hp)⟩
end
theorem Reps.rev {H : Hp} {xs : List V} {ds : List _d.Dat} (h : Reps H xs ds) : Reps H xs.reverse ds.reverse:=by
 induction xs generalizing ds with
 | nil=>cases h; exact .nil
 | cons x xs ih =>
  cases h with
  | cons r rs=>rw [List.reverse_cons,List.reverse_cons]; exact (ih rs).append (.cons r .nil)
theorem jw_rev {K : PySem.W.Frag} {H0 : Hp} {a : Addr} {xs : List V} {ds : List _d.Dat} (hq : Rd H0 a (.lst xs)) (rs : Reps H0 xs ds) : JW (Itv K a xs.length) H0 ds.reverse:=by
 intro H0' H s0 s1
 have q : SqL K H a xs:=.inl (Same.rd s1 (Same.rd s0 hq))
 refine ⟨fun i hi=>by rw [List.length_reverse,← rs.length] at hi; exact hi,fun i d e=>?_⟩
 refine bc fun ζ=>?_
 obtain ⟨v,hv,rv⟩:=rs.rev.get e
 apply ζ;clear ζ
 refine ⟨⟨xs,v,q,rfl,hv⟩,fun x H' y=>?_⟩
 refine bc fun ζ=>?_
 obtain ⟨e1,y⟩:=y
 subst e1
 have z:=y xs q
 rw [hv] at z
 cases z
 exact ζ (⟨H0',Grow.refl s1,rv.mono s0⟩)
theorem enum_len : ∀ (ds : List _d.Dat) (i : Nat),(_d.enumD i ds).length = ds.length
 | [],_=>rfl
 | _ :: ds,i=>by simp [_d.enumD,enum_len ds]
theorem enum_get : ∀ (ds : List _d.Dat) (i j : Nat) (d : _d.Dat),(_d.enumD i ds)[j]? = some d→∃ x,ds[j]? = some x∧d = .tup [.int ((i + j : Nat) : Int),x]
 | [],_,_,_,h=>by cases h
 | x :: ds,i,0,d,h=>by cases h; exact ⟨x,rfl,rfl⟩
 | x :: ds,i,j + 1,d,h=>by
  refine bc fun ζ=>?_
  obtain ⟨y,h1,h2⟩:=enum_get ds (i + 1) j d h
  apply ζ;clear ζ
  refine ⟨y,h1,?_⟩
  rw [h2]
  have : i + 1 + j = i + (j + 1):=by lia
  rw [this]
theorem jw_enum {K : PySem.W.Frag} {H0 : Hp} {a : Addr} {xs : List V} {ds : List _d.Dat} (hq : Rd H0 a (.lst xs)) (rs : Reps H0 xs ds) : JW (Ite K a) H0 (_d.enumD 0 ds):=by
 intro H0' H s0 s1
 have q : SqL K H a xs:=.inl (Same.rd s1 (Same.rd s0 hq))
 refine ⟨fun i hi=>⟨xs,q,by rw [rs.length,← enum_len ds 0]; exact hi⟩,fun i d e=>?_⟩
 refine bc fun ζ=>?_
 obtain ⟨d',hd,rfl⟩:=enum_get ds 0 i d e
 obtain ⟨v,hv,rv⟩:=rs.get hd
 apply ζ;clear ζ
 refine ⟨⟨xs,v,q,hv⟩,fun x H' y=>?_⟩
 refine bc fun ζ=>?_
 obtain ⟨p,v',hn,rfl,rfl,y⟩:=y
 have z:=y xs q
 rw [hv] at z
 cases z
 apply ζ;clear ζ
 have g:=Grow.newS (o:=HO.tup [.int i,v]) s1 hn
 refine ⟨_,g,.tup upd_same (.cons ?_ (.cons ((rv.mono s0).mono g.s0) .nil))⟩
 rw [Nat.zero_add]
 exact .int _
section
variable {σ : _l.St} {H : Hp} {R : It→Hp→Prop}
theorem r_iRev {K : PySem.W.Frag} {f : _d.FE} (h : tDI (_d.iRev f) σ H R) : iRevL K (tD f) σ H R:=by
 obtain ⟨H0,ρ,ys,ρ',st,e,k⟩:=h
 unfold _d.iRev at e
 split at e
 ·contradiction
 rename_i x ρ1 e1
 split at e
 ·rename_i ds ρ2 e2
  cases e
  refine ⟨H0,ρ,_,ρ1,st,e1,fun v H0' H' t r=>?_⟩
  refine bc fun ζ=>?_
  obtain ⟨H1,t1,b1,r1,_,_⟩:=take1 t (Same.refl _) r e2
  apply ζ;clear ζ
  cases r1 with
  | lst q rs=>exact ⟨_,_,rfl,.inl (Same.rd t1.st.same q),k _ H1 H' t1 (jw_rev q rs)⟩
 ·contradiction
theorem r_iEn {K : PySem.W.Frag} {f : _d.FE} (h : tDI (_d.iEn f) σ H R) : iEnL K (tD f) σ H R:=by
 obtain ⟨H0,ρ,ys,ρ',st,e,k⟩:=h
 unfold _d.iEn at e
 split at e
 ·contradiction
 rename_i x ρ1 e1
 split at e
 ·rename_i ds ρ2 e2
  cases e
  refine ⟨H0,ρ,_,ρ1,st,e1,fun v H0' H' t r=>?_⟩
  refine bc fun ζ=>?_
  obtain ⟨H1,t1,b1,r1,_,_⟩:=take1 t (Same.refl _) r e2
  apply ζ;clear ζ
  cases r1 with
  | lst q rs=>exact ⟨_,rfl,⟨_,.inl (Same.rd t1.st.same q)⟩,k _ H1 H' t1 (jw_enum q rs)⟩
 ·contradiction
end
theorem ud_liRev {K : PySem.W.Frag} : UnD (fun x H Q=>∃ a xs,x = .ref a∧SqL K H a xs∧∀ q,H q = none→Q (.ref q) (upd H q (.lst xs.reverse))) _d.gLiRev:=by
 intro H0 H x dx z Q s rx e k
 unfold _d.gLiRev at e
 split at e
 ·cases e
  obtain ⟨a,us,rfl,qa,ra⟩:=repO_lst s rx
  exact ⟨a,us,rfl,.inl qa,fun p hp=>k _ _ _ (Grow.newO s hp) ⟨p,rfl,hp,s.free hp,_,upd_same,ra.rev⟩⟩
 ·contradiction
theorem reps_ups {H : Hp} : ∀ (n : Nat) ,Reps H ((List.range n).map fun i=>V.int (i : Nat)) (_d.ups 0 n):=by
 intro n
 unfold _d.ups
 have : ∀ l : List Nat,Reps H (l.map fun i=>V.int (i : Nat)) (l.map fun i=>_d.Dat.int (0 + (i : Nat))):=fun l=>by
  induction l with
  | nil=>exact .nil
  | cons x l ih=>rw [List.map_cons,List.map_cons,Int.zero_add]; exact .cons (.int _) ih
 exact this _
theorem cd_liR1 : CallD (fun xs H Q=>∃ j : Int,xs = [.int j]∧-(2 ^ 62)≤j∧j≤1000000∧∀ q,H q = none→Q (.ref q) (upd H q (.lst ((List.range j.toNat).map fun i=>V.int (i : Nat))))) _d.gLiR1:=by
 intro H0 H xs ds z Q s rx e k
 unfold _d.gLiR1 at e
 split at e
 ·rename_i j
  split at e
  ·rename_i hb
   cases e
   cases rx with
   | cons r rr =>
    cases rr
    cases repO_int r
    exact ⟨j,rfl,by lia,hb.1,fun p hp=>k _ _ _ (Grow.newO s hp) ⟨p,rfl,hp,s.free hp,_,upd_same,reps_ups _⟩⟩
  ·contradiction
 ·contradiction
section
variable {X : Cx} {tg e a b c : Expr} {f fa fb fc : _d.FE} {p pos p0 pos0 : Pos} {elts : List Expr} {x1 : Nat} {tp : Pos}
theorem i_Rev (hg : Gl X "reversed") (hm : X.mg "reversed" = none) (h : DE X e f) (hs : autoParam (starEach [e] X.env = [(false, eval e X.env)]) _l.a0._auto_1) : DI X tg (.Call (.Name "reversed" p) [e] [] pos) (_d.iRev f):=PI.weak (pi_rev hg hm h hs) fun _ _ _=>r_iRev
theorem i_En (hg : Gl X "enumerate") (hm : X.mg "enumerate" = none) (h : DE X e f) (hs : autoParam (starEach [e] X.env = [(false, eval e X.env)]) _l.a0._auto_1) : DI X (.Tuple elts x1 tp) (.Call (.Name "enumerate" p) [e] [] pos) (_d.iEn f):=PI.weak (pi_enum hg hm h hs) fun _ _ _=>r_iEn
theorem d_liRev (hc : X.calm = true) (hgl : Gl X "list") (hml : X.mg "list" = none) (hg : Gl X "reversed") (hm : X.mg "reversed" = none) (h : DE X e f) (hs : autoParam (starEach [e] X.env = [(false, eval e X.env)]) _l.a0._auto_1)
  (hs0 : autoParam (starEach [.Call (.Name "reversed" p) [e] [] pos] X.env = [(false, eval (.Call (.Name "reversed" p) [e] [] pos) X.env)]) _l.a0._auto_1) :
  DE X (.Call (.Name "list" p0) [.Call (.Name "reversed" p) [e] [] pos] [] pos0) (_d.e1 _d.gLiRev f):=PE.weak (pe_liRev hc hgl hml hg hm h hs hs0) fun _ _ _=>r_e1 ud_liRev
theorem d_liR1 (hc : X.calm = true) (hgl : Gl X "list") (hml : X.mg "list" = none) (hg : Gl X "range") (hm : X.mg "range" = none) (h : DA X [a] [fa]) (hs : autoParam (starEach [a] X.env = [(false, eval a X.env)]) _l.a0._auto_1)
  (hs0 : autoParam (starEach [.Call (.Name "range" p) [a] [] pos] X.env = [(false, eval (.Call (.Name "range" p) [a] [] pos) X.env)]) _l.a0._auto_1) :
  DE X (.Call (.Name "list" p0) [.Call (.Name "range" p) [a] [] pos] [] pos0) (_d.eB _d.gLiR1 [fa]):=PE.weak (pe_liR1 hc hgl hml hg hm h hs hs0) fun _ _ _=>r_cb cd_liR1
end
end _r
namespace _d
noncomputable def eCompM (i : Nat) (own : Nat) (bd : FB) (t : FT) (el : FE) : FE:=fun ρ=>match ρ[i]? with
 | some (.ow (.lst ds))=>if ds.length≤SZ then (match compD bd t el ds (ρ.set i .un ++ List.replicate own .un) [] with
  | none=>none
  | some (ys,ρ2)=>some (.new (.lst ys),(ρ2.take ρ.length).set i (.ow (.lst ds)))) else none
 | _=>eComp (iS (eV i)) own bd t el ρ
end _d
namespace _r
open PySem PySem.Spec PyProof.Rows _l
theorem jwa_list {K : PySem.W.Frag} {H0 : Hp} {a : Addr} {xs : List V} {ds : List _d.Dat} (rs : Reps H0 xs ds) : JWa (Itl K a) H0 (some (a,.lst xs)) ds:=by
 intro H0' H s0 s1 hq
 have hq:=hq _ rfl
 have q : SqL K H a xs:=.inl (.inl hq)
 refine ⟨fun i hi=>⟨xs,q,by rw [rs.length]; exact hi⟩,fun i d e=>?_⟩
 refine bc fun ζ=>?_
 obtain ⟨v,hv,rv⟩:=rs.get e
 apply ζ;clear ζ
 refine ⟨⟨xs,v,q,hv⟩,fun x H' y=>?_⟩
 refine bc fun ζ=>?_
 obtain ⟨e1,y⟩:=y
 subst e1
 have z:=y xs q
 rw [hv] at z
 cases z
 exact ζ (⟨H0',Grow.refl s1,rv.mono s0⟩)
theorem r_compM {K : PySem.W.Frag} {σ : _l.St} {H : Hp} {i own : Nat} {bd : _d.FB} {g : TG} {t : _d.FT} {el : _d.FE} {is : List Nat} {Q : VK} (hb : BD is g bd) (hl : ∀ i∈is,σ.length≤i) (h : tD (_d.eCompM i own bd t el) σ H Q) :
  tLC (fun σ H R=>iList K (tD (_d.eV i)) σ H R∨iTup K (tD (_d.eV i)) σ H R) own g (tDT t) (tD el) σ H Q:=by
 obtain ⟨H0,ρ,x,ρ',st,e,k⟩:=h
 unfold _d.eCompM at e
 split at e
 ·rename_i ds eo
  refine bc fun ζ=>?_
  split at e
  case isFalse=>cases e
  rename_i hsz
  split at e
  ·contradiction
  rename_i ys ρ2 e2
  cases e
  apply ζ;clear ζ
  refine .inl ⟨H0,ρ,.slot i,ρ,st,by unfold _d.eV; rw [eo],fun v H0' H' t1 r=>?_⟩
  refine bc fun ζ=>?_
  obtain ⟨a,qa,na,xs,ha,rs⟩:=t1.st.ow i _ eo
  obtain ⟨r1,_⟩:=r
  rw [qa] at r1
  cases r1
  apply ζ;clear ζ
  have nO : ¬ Owned σ (ρ.set i .un) a:=fun z=>by
   refine bc fun ζ=>?_
   obtain ⟨j,d,hj,h1,h2⟩:=owned_mask z
   exact ζ (hj (t1.st.dis j i d _ a h1 eo h2 qa))
  have hlt : i < ρ.length:=(List.getElem?_eq_some_iff.mp eo).1
  refine ⟨a,rfl,⟨xs,.inl (.inl ha)⟩,fun D hD=>comp_run hb hl (t1.st.mask i) (fun q e=>by cases e; exact ⟨ha,na,nO⟩) (jwa_list rs) hsz e2 (fun v H1 Hc t2 r2 hpa=>?_) D hD⟩
  obtain ⟨ha2,na2⟩:=hpa _ rfl
  rw [List.length_set] at t2 r2
  have oo : ∀ b,Owned σ ((ρ2.take ρ.length).set i (.ow (.lst ds))) b→b = a∨Owned σ (ρ2.take ρ.length) b:=fun b ⟨j,d,h1,h2⟩=>by
   by_cases q : i = j
   ·subst q; rw [qa] at h2; cases h2; exact .inl rfl
   ·rw [List.getElem?_set_ne q] at h1; exact .inr ⟨j,d,h1,h2⟩
  have om : ∀ b,Owned σ (ρ.set i .un) b→Owned σ ρ b:=fun b z=>by
   refine bc fun ζ=>?_
   obtain ⟨j,d,hj,h1,h2⟩:=owned_mask z
   exact ζ (⟨j,d,h1,h2⟩)
  have oa : Owned σ ρ a:=⟨i,_,eo,qa⟩
  have nO2 : ¬ Owned σ (ρ2.take ρ.length) a:=fun z=>nO (t2.own a z)
  have len2 : (ρ2.take ρ.length).length = ρ.length:=by rw [← t2.st.len,st.len]
  refine k v H1 Hc (t1.trans ⟨⟨t2.st.same,by rw [List.length_set]; exact t2.st.len,fun j d h=>?_,fun j d h=>?_,fun j j' d d' b h1 h2 h3 h4=>?_⟩,t2.stp.wide om,fun b z=>?_,fun j z=>?_⟩) ?_
  ·by_cases q : i = j
   ·subst q; rw [List.getElem?_set_self (by rw [len2]; exact hlt)] at h; cases h
   ·rw [List.getElem?_set_ne q] at h; exact t2.st.sh j d h
  ·by_cases q : i = j
   ·subst q
    rw [List.getElem?_set_self (by rw [len2]; exact hlt)] at h
    cases h
    exact ⟨a,qa,na2,xs,ha2,rs.mono t2.stp.s0⟩
   ·rw [List.getElem?_set_ne q] at h; exact t2.st.ow j d h
  ·by_cases q : i = j
   ·subst q
    by_cases q' : i = j'
    ·exact q'
    ·rw [List.getElem?_set_ne q'] at h2
     rw [qa] at h3; cases h3
     exact absurd ⟨j',d',h2,h4⟩ nO2
   ·rw [List.getElem?_set_ne q] at h1
    by_cases q' : i = j'
    ·subst q'
     rw [qa] at h4; cases h4
     exact absurd ⟨j,d,h1,h3⟩ nO2
    ·rw [List.getElem?_set_ne q'] at h2
     exact t2.st.dis j j' d d' b h1 h2 h3 h4
  ·rcases oo b z with rfl | z
   ·exact oa
   ·exact om b (t2.own b z)
  ·trivial
  ·refine bc fun ζ=>?_
   obtain ⟨D',e',n',no',n0',w'⟩:=r2
   apply ζ;clear ζ
   refine ⟨D',e',t1.stp.gone n',fun z=>?_,n0',w'⟩
   rcases oo D' z with rfl | z
   ·rw [n'] at ha; cases ha
   ·exact no' z
 ·have h2:=r_comp (fi:=_d.iS (_d.eV i)) hb hl ⟨H0,ρ,x,ρ',st,e,k⟩
  exact r_iS h2
section
variable {X : Cx} {elt tg : Expr} {ifs : List Expr} {scope : Scope} {pos px : Pos} {bd : _d.FB} {is : List Nat} {t : _d.FT} {f : _d.FE} {x : Str}
theorem i_M (i : Nat) (h : DE X (.Name x px) (_d.eV i)) : PI X tg (.Name x px) (fun σ H R=>iList X.K (tD (_d.eV i)) σ H R∨iTup X.K (tD (_d.eV i)) σ H R):=PI.or (pi_list h) (pi_tup h)
theorem d_cpM (i : Nat) (nm own : List Str) (hg : TGc X nm scope own tg is bd) (hi : DE X (.Name x px) (_d.eV i)) (ht : ∀ cl C s H fp,DTs (compX X nm scope own cl C s H fp) ifs t) (he : ∀ cl C s H fp,DE (compX X nm scope own cl C s H fp) elt f)
  (hc : autoParam (X.calm = true) _l.a0._auto_1) (hk : autoParam (scope.kind = .function) _l.a0._auto_1) (hS : autoParam (cscOk X.env.scope X.N nm scope = true) _l.a0._auto_1) (hl : autoParam ((is.all fun i=>decide (X.N.length≤i)) = true) _l.a0._auto_1) (hs : autoParam (∀ y,foldedSetIterable (.Name x px) X.env y = pure y) _l.a2._auto_1) :
  DE X (.ListComp elt [⟨tg,.Name x px,ifs,0⟩] scope pos) (_d.eCompM i own.length bd t f):=by
 refine bc fun ζ=>?_
 obtain ⟨g,h1,h2⟩:=hg.ex
 apply ζ;clear ζ
 intro pins s σ H Q I h
 exact pe_comp hc (CScope.of hS hk) (i_M i hi) h1 ht he hs pins s σ H Q I (r_compM h2 (fun i hi=>by rw [I.len]; exact hl_of hl i hi) h)
end
end _r
namespace _d
noncomputable def zipD : List Dat→List Dat→List Dat
 | x :: xs,y :: ys=>.tup [x,y] :: zipD xs ys
 | _,_=>[]
noncomputable def iZip (a b : FE) : FI:=fun ρ=>match eAs [a,b] ρ with
 | some (vs,ρ1)=>(match tks ρ1 vs with
  | some ([.lst xs,.lst ys],ρ2)=>some (zipD xs ys,ρ2)
  | _=>none)
 | none=>none
end _d
namespace _r
open PySem PySem.Spec PyProof.Rows _l
theorem inv_turned {X : Cx} {pins : List (Addr×Obj)} {σ : _l.St} {H : Hp} {s : Shared} {h' : Heap} {t' : Nat} {fp : List Addr} (I : Inv X pins σ H s) (hf : ∀ b∈fp,FpOk X pins H b)
  (k : ∀ b u,b ∉ fp→s.heap.get? b = some u→h'.get? b = some u) : Inv X pins σ H { s with heap:=h',toks:=t' }:=by
 have nf : ∀ b u,H b = some u→b ∉ fp:=fun b u e z=>by rw [(hf b z).1] at e; cases e
 have nL : X.env.locals ∉ fp:=fun z=>(hf _ z).2.1 rfl
 refine I.step (g':=s.gens) (d':=s.drawn) (ch:=fp) (fun b hb=>?_) (fun b u _ _ hc e _=>k b u hc e) (fun b u _ _ hc e _=>⟨u.slots,k b u hc e⟩)
  (fun b u _ e n=>n) (fun b u hc e=>⟨u,k b u hc e⟩)
  (fun b xs q=>q) (fun b u xs q=>q) (fun b ps q=>⟨#[],by rw [q]; simp⟩) (fun m hm=>?_) (fun b u e=>?_) I.bare
 ·obtain ⟨f0,f1,f2,f3,f4,f5⟩:=hf b hb
  exact ⟨f3,f1,f4,f5⟩
 ·obtain ⟨o,es,ep,ho,r⟩:=hm
  exact ⟨o,es,ep,k _ o nL ho,r⟩
 ·refine (I.hok b u e).stay (fun c v hc q=>k c v ?_ q) (fun c q=>q) fun c xs q=>q
  rcases hc with z | z
  ·rw [z]; exact nf b u e
  ·exact nf c _ z
noncomputable def Itz (K : PySem.W.Frag) (a b : Addr) : It :=
 ⟨fun i H=>∃ xs ys x y,SqL K H a xs∧SqL K H b ys∧xs[i]? = some x∧ys[i]? = some y,
  fun i H r H'=>∃ p x y,H p = none∧r = .ref p∧H' = upd H p (.tup [x,y])∧(∀ xs,SqL K H a xs→xs[i]? = some x)∧∀ ys,SqL K H b ys→ys[i]? = some y,
  fun i H=>∃ xs ys,SqL K H a xs∧SqL K H b ys∧(xs.length≤i∨ys.length≤i)⟩
theorem ne_cls {h : Heap} {a b : Addr} {o o' : Obj} (ha : h.get? a = some o) (hb : h.get? b = some o') (n : o.cls≠o'.cls) : a≠b:=fun z=>by
 subst z
 rw [ha] at hb
 cases hb
 exact n rfl
structure FpApart (z TI TO i1 i2 : Addr) : Prop where
 TIz : TI≠z
 TOz : TO≠z
 i1z : i1≠z
 i2z : i2≠z
 TITO : TI≠TO
 TIi1 : TI≠i1
 TIi2 : TI≠i2
 TOi1 : TO≠i1
 TOi2 : TO≠i2
 i12 : i1≠i2
noncomputable def ZipTn (a b z TI TO i1 i2 : Addr) (i : Nat) (h : Heap) : Prop:=IsZip h z TI TO .none∧IsPair h TI (.ref i1) (.ref i2)∧(∃ x y,IsPair h TO x y)∧h.IsListIter i1 a i∧h.IsListIter i2 b i
theorem apart_of {h : Heap} {a b z TI TO i1 i2 : Addr} {i : Nat} {xs ys : Array Value} (F : FpApart z TI TO i1 i2) (st : ZipTn a b z TI TO i1 i2 i h) (ha : h.IsList a xs) (hb : h.IsList b ys) : ZipApart z TI TO i1 i2 a b:=by
 refine bc fun ζ=>?_
 obtain ⟨s1,s2,⟨x,y,s3⟩,s4,s5⟩:=st
 obtain ⟨o4,e4,c4,_⟩:=s4
 obtain ⟨o5,e5,c5,_⟩:=s5
 obtain ⟨oa,ea,ca,_⟩:=ha
 obtain ⟨ob,eb,cb,_⟩:=hb
 apply ζ;clear ζ
 have d : ∀ {n m : String},n≠m→(Value.type n)≠(Value.type m):=fun q z=>q (by injection z)
 exact ⟨F.TIz,F.TOz,F.i1z,F.i2z,F.TITO,F.TIi1,F.TIi2,F.TOi1,F.TOi2,F.i12,
  ne_cls ea s1 (by rw [ca]; exact d (by decide)),ne_cls ea s3 (by rw [ca]; exact d (by decide)),ne_cls ea e4 (by rw [ca,c4]; exact d (by decide)),ne_cls ea e5 (by rw [ca,c5]; exact d (by decide)),
  ne_cls eb s1 (by rw [cb]; exact d (by decide)),ne_cls eb s3 (by rw [cb]; exact d (by decide)),ne_cls eb e4 (by rw [cb,c4]; exact d (by decide)),ne_cls eb e5 (by rw [cb,c5]; exact d (by decide))⟩
theorem turn_zip {P : Program} {w : World} {K : PySem.W.Frag} {elts : List Expr} {x1} {tp : Pos} (a b z TI TO i1 i2 : Addr) (F : FpApart z TI TO i1 i2) : Turn P w K (.Tuple elts x1 tp) (Itz K a b) [z,TI,TO,i1,i2] z (ZipTn a b z TI TO i1 i2) where
 mem:=by simp
 obj:=fun i h st c hc=>by
  refine bc fun ζ=>?_
  obtain ⟨s1,s2,⟨x,y,s3⟩,⟨o4,e4,c4,d4⟩,⟨o5,e5,c5,d5⟩⟩:=st
  apply ζ;clear ζ
  simp only [List.mem_cons,List.not_mem_nil,or_false] at hc
  rcases hc with rfl | rfl | rfl | rfl | rfl
  ·exact ⟨_,s1,fun v q=>by have q' : Data.fields _ = Data.cell v:=q; cases q'⟩
  ·exact ⟨_,s2,fun v q=>by have q' : Data.seq _ _ = Data.cell v:=q; cases q'⟩
  ·exact ⟨_,s3,fun v q=>by have q' : Data.seq _ _ = Data.cell v:=q; cases q'⟩
  ·exact ⟨o4,e4,fun v q=>by rw [d4] at q; cases q⟩
  ·exact ⟨o5,e5,fun v q=>by rw [d5] at q; cases q⟩
 keep:=fun i h h' st k=>by
  refine bc fun ζ=>?_
  obtain ⟨s1,s2,⟨x,y,s3⟩,s4,s5⟩:=st
  apply ζ;clear ζ
  exact ⟨k z (by simp) _ s1,k TI (by simp) _ s2,⟨x,y,k TO (by simp) _ s3⟩,s4.at fun o q=>k i1 (by simp) o q,s5.at fun o q=>k i2 (by simp) o q⟩
 item:=by
  intro X hP hw hK hc i pins s σ H E I hf st hg
  subst hP hw hK
  refine bc fun ζ=>?_
  obtain ⟨xs,ys,x,y,hq,hq',hx,hy⟩:=hg
  obtain ⟨its,rv,p,hz⟩:=I.list hq
  obtain ⟨its',rv',p',hz'⟩:=I.list hq'
  obtain ⟨u,hu,ru⟩:=rv.get hx
  obtain ⟨u',hu',ru'⟩:=rv'.get hy
  have D:=apart_of F st p.isList p'.isList
  obtain ⟨s1,s2,⟨o1,o2,s3⟩,s4,s5⟩:=st
  apply ζ;clear ζ
  have lt : ∀ {c o},s.heap.get? c = some o→c < s.heap.objs.size:=fun q=>Heap.lt_size q
  have l1:=lt s1
  have l2:=lt s2
  have l3:=lt s3
  have l4 : i1 < s.heap.objs.size:=by obtain ⟨_,q,_⟩:=s4; exact lt q
  have l5 : i2 < s.heap.objs.size:=by obtain ⟨_,q,_⟩:=s5; exact lt q
  refine wpAny_pyNext_zip_item D s1 s2 s3 s4 s5 p.isList p'.isList (x:=u) (y:=u') (by simpa using hu) (by simpa using hu') fun h1 a1 a2 a3 a4 a5 a6 hk=>?_
  refine ⟨_,rfl,wpAny_letOwnedTupleGo_zip a1 fun h2 z2 hs2=>?_⟩
  have ht2 : h2.get? s.heap.objs.size = some { cls:=.type "tuple", data:=.seq #[u, u'] }:=(hs2.2 _ (Nat.ne_of_gt l1)).trans a5
  have k2 : ∀ c o,c ∉ [z,TI,TO,i1,i2]→s.heap.get? c = some o→h2.get? c = some o:=fun c o hc q=>by
   simp only [List.mem_cons,List.not_mem_nil,or_false,not_or] at hc
   exact (hs2.2 c hc.1).trans (hk c o hc.1 hc.2.2.1 hc.2.2.2.1 hc.2.2.2.2 q)
  have hn : H s.heap.objs.size = none:=I.hok.fresh (Nat.le_refl _)
  have I2 : Inv X pins σ (upd H s.heap.objs.size (.tup [x,y])) { s with heap:=h2,toks:=s.toks } :=
   inv_turns I hf k2 (Nat.le_refl _) ⟨by simp [sizeLine],[u,u'],.cons ru (.cons ru' .nil),_,ht2,rfl,_,rfl⟩
  refine ⟨.ref s.heap.objs.size,_,I2,rfl,⟨_,x,y,hn,rfl,rfl,fun vs hv=>by rw [I.list_inj hv hq]; exact hx,fun vs hv=>by rw [I.list_inj hv hq']; exact hy⟩,⟨z2,?_,⟨_,_,hs2.extBut _ _ D.TOz a2⟩,?_,?_⟩,fun c hc=>?_⟩
  ·exact hs2.extBut _ _ D.TIz (hk TI _ D.TIz D.TITO D.TIi1 D.TIi2 s2)
  ·exact a3.extBut hs2.extBut D.i1z
  ·exact a4.extBut hs2.extBut D.i2z
  ·have hc1 : c≠s.heap.objs.size:=fun q=>by
    simp only [List.mem_cons,List.not_mem_nil,or_false] at hc
    rcases hc with r | r | r | r | r
    ·subst r; rw [q] at l1; exact Nat.lt_irrefl _ l1
    ·subst r; rw [q] at l2; exact Nat.lt_irrefl _ l2
    ·subst r; rw [q] at l3; exact Nat.lt_irrefl _ l3
    ·subst r; rw [q] at l4; exact Nat.lt_irrefl _ l4
    ·subst r; rw [q] at l5; exact Nat.lt_irrefl _ l5
   rw [upd_ne hc1]
   exact (hf c hc).1
 done:=by
  intro X hP hw hK hc i pins s σ H E I hf st hg
  subst hP hw hK
  refine bc fun ζ=>?_
  obtain ⟨xs,ys,hq,hq',hx⟩:=hg
  obtain ⟨its,rv,p,hz⟩:=I.list hq
  obtain ⟨its',rv',p',hz'⟩:=I.list hq'
  have hl:=rv.length
  have hl':=rv'.length
  have D:=apart_of F st p.isList p'.isList
  obtain ⟨s1,s2,⟨o1,o2,s3⟩,s4,s5⟩:=st
  apply ζ;clear ζ
  refine wpAny_pyNext_zip_end (I.ok.hd hc) D s1 s2 s3 s4 s5 p.isList p'.isList ?_ fun h' hk=>⟨rfl,inv_turned (t':=s.toks) I hf fun c o hc q=>?_⟩
  ·rcases hx with hx | hx
   ·exact .inl (by simp; lia)
   ·exact .inr (by simp; lia)
  ·simp only [List.mem_cons,List.not_mem_nil,or_false,not_or] at hc
   exact hk c o hc.1 hc.2.2.1 hc.2.2.2.1 hc.2.2.2.2 q
 self:=fun A i s Q E st h=>wpAny_pyIter_zip st.1 h
noncomputable def iZipL (K : PySem.W.Frag) (ta : TA) : TI:=fun σ H R=>ta σ H fun vs H1=>∃ a b,vs = [.ref a,.ref b]∧(∃ xs,SqL K H1 a xs)∧(∃ ys,SqL K H1 b ys)∧R (Itz K a b) H1
section
variable {X : Cx} {l l' : Expr} {ta : TA} {p pos : Pos} {elts : List Expr} {x1 : Nat} {tp : Pos}
theorem pi_zip (hg : Gl X "zip") (hm : X.mg "zip" = none) (ha : PA X [l, l'] ta) (hs : autoParam (starEach [l, l'] X.env = (false, eval l X.env) :: starEach [l'] X.env) _l.a0._auto_1) (hs2 : autoParam ((backTo pos (starEach [l'] X.env)).any (·.1) = false) _l.a0._auto_1) :
  PI X (.Tuple elts x1 tp) (.Call (.Name "zip" p) [l, l'] [] pos) (iZipL X.K ta):=by
 intro pins s σ H R I h
 refine Call_ (ld_blt I hg hm boot_zip (PyProof.Rows.callWith_type1 (thn (ha pos pins s σ H _ I h) fun us s1 ⟨vs,H1,I1,r1,q1⟩=>?_) hs hs2))
 refine bc fun ζ=>?_
 obtain ⟨a,b,e,⟨xs,hq⟩,⟨ys,hq'⟩,q⟩:=q1
 subst e
 obtain ⟨v1,v2,rfl,r,r'⟩:=vals2 r1
 cases r
 apply ζ;clear ζ
 cases r'
 refine bc fun ζ=>?_
 obtain ⟨its,rv,pl,hz⟩:=I1.list hq
 obtain ⟨its',rv',pl',hz'⟩:=I1.list hq'
 apply ζ;clear ζ
 refine call_zip_2 pl.isList pl'.isList fun h' e1 e2 e3 e4 e5 hsz k=>?_
 have I2 : Inv X pins σ H1 { s1 with heap:=h' }:=I1.kept (t':=s1.toks) k
 have F : FpApart (s1.heap.objs.size + 4) (s1.heap.objs.size + 2) (s1.heap.objs.size + 3) s1.heap.objs.size (s1.heap.objs.size + 1):=by
  constructor <;> first | exact Nat.ne_of_lt (by lia) | exact Nat.ne_of_gt (by lia)
 have T:=turn_zip (P:=X.prog) (w:=X.w) (K:=X.K) (elts:=elts) (x1:=x1) (tp:=tp) a b _ _ _ _ _ F
 have st : ZipTn a b (s1.heap.objs.size + 4) (s1.heap.objs.size + 2) (s1.heap.objs.size + 3) s1.heap.objs.size (s1.heap.objs.size + 1) 0 h':=⟨e1,e2,⟨_,_,e3⟩,e4,e5⟩
 refine T.self X.A 0 { s1 with heap:=h' } _ X.xe st ?_
 refine ⟨s1.heap.objs.size + 4,_,_,_,H1,rfl,I2,T,st,fun c hc=>?_,q⟩
 have : s1.heap.objs.size≤c:=by
  simp only [List.mem_cons,List.not_mem_nil,or_false] at hc
  rcases hc with r | r | r | r | r <;> (rw [r]; first | exact Nat.le_add_right _ _ | exact Nat.le_refl _)
 exact I1.fpOk this (I1.hok.fresh this)
end
theorem zip_len : ∀ (xs ys : List _d.Dat),(_d.zipD xs ys).length = min xs.length ys.length
 | [],_=>by simp [_d.zipD]
 | _ :: _,[]=>by simp [_d.zipD]
 | x :: xs,y :: ys=>by simp [_d.zipD,zip_len xs ys]
theorem zip_get : ∀ (xs ys : List _d.Dat) (j : Nat) (d : _d.Dat),(_d.zipD xs ys)[j]? = some d→∃ x y,xs[j]? = some x∧ys[j]? = some y∧d = .tup [x,y]
 | [],_,_,_,h=>by simp [_d.zipD] at h
 | _ :: _,[],_,_,h=>by simp [_d.zipD] at h
 | x :: xs,y :: ys,0,d,h=>by cases h; exact ⟨x,y,rfl,rfl,rfl⟩
 | x :: xs,y :: ys,j + 1,d,h=>zip_get xs ys j d h
theorem jw_zip {K : PySem.W.Frag} {H0 : Hp} {a b : Addr} {xs ys : List V} {ds es : List _d.Dat} (hq : Rd H0 a (.lst xs)) (rs : Reps H0 xs ds) (hq' : Rd H0 b (.lst ys)) (rs' : Reps H0 ys es) : JW (Itz K a b) H0 (_d.zipD ds es):=by
 intro H0' H s0 s1
 have q : SqL K H a xs:=.inl (Same.rd s1 (Same.rd s0 hq))
 have q' : SqL K H b ys:=.inl (Same.rd s1 (Same.rd s0 hq'))
 refine ⟨fun i hi=>⟨xs,ys,q,q',?_⟩,fun i d e=>?_⟩
 ·rw [zip_len] at hi
  have:=rs.length
  have:=rs'.length
  lia
 refine bc fun ζ=>?_
 obtain ⟨x,y,hx,hy,rfl⟩:=zip_get ds es i d e
 obtain ⟨v,hv,rv⟩:=rs.get hx
 obtain ⟨v',hv',rv'⟩:=rs'.get hy
 apply ζ;clear ζ
 refine ⟨⟨xs,ys,v,v',q,q',hv,hv'⟩,fun r H' z=>?_⟩
 refine bc fun ζ=>?_
 obtain ⟨p,u,u',hn,rfl,rfl,z1,z2⟩:=z
 have w1:=z1 xs q
 have w2:=z2 ys q'
 rw [hv] at w1
 rw [hv'] at w2
 cases w1
 cases w2
 apply ζ;clear ζ
 have g:=Grow.newS (o:=HO.tup [v,v']) s1 hn
 exact ⟨_,g,.tup upd_same (.cons ((rv.mono s0).mono g.s0) (.cons ((rv'.mono s0).mono g.s0) .nil))⟩
section
variable {σ : _l.St} {H : Hp} {R : It→Hp→Prop}
theorem r_iZip {K : PySem.W.Frag} {f g : _d.FE} (h : tDI (_d.iZip f g) σ H R) : iZipL K (tDA [f,g]) σ H R:=by
 obtain ⟨H0,ρ,ys,ρ',st,e,k⟩:=h
 unfold _d.iZip at e
 split at e
 ·rename_i vs ρ1 e1
  split at e
  ·rename_i xs zs ρ2 e2
   cases e
   refine ⟨H0,ρ,vs,ρ1,st,e1,fun us H0' H' t r=>?_⟩
   refine bc fun ζ=>?_
   obtain ⟨H1,t1,b1,r1⟩:=takes t (Same.refl _) r e2
   apply ζ;clear ζ
   cases r1 with
   | cons q1 rr =>
    cases rr with
    | cons q2 rr =>
     cases rr
     cases q1 with
     | lst q rs =>
      cases q2 with
      | lst q' rs'=>exact ⟨_,_,rfl,⟨_,.inl (Same.rd t1.st.same q)⟩,⟨_,.inl (Same.rd t1.st.same q')⟩,k _ H1 H' t1 (jw_zip q rs q' rs')⟩
  ·contradiction
 ·contradiction
end
section
variable {X : Cx} {a b : Expr} {fa fb : _d.FE} {p pos : Pos} {elts : List Expr} {x1 : Nat} {tp : Pos}
theorem i_Zip (hg : Gl X "zip") (hm : X.mg "zip" = none) (ha : DA X [a, b] [fa, fb]) (hs : autoParam (starEach [a, b] X.env = (false, eval a X.env) :: starEach [b] X.env) _l.a0._auto_1) (hs2 : autoParam ((backTo pos (starEach [b] X.env)).any (·.1) = false) _l.a0._auto_1) :
  DI X (.Tuple elts x1 tp) (.Call (.Name "zip" p) [a, b] [] pos) (_d.iZip fa fb):=PI.weak (pi_zip hg hm ha hs hs2) fun _ _ _=>r_iZip
end
end _r
namespace _d
noncomputable def fnM (n m : Nat) (body : FS) (ds : List Dat) : Option (RV×Dat):=if ds.length = n then (match ds with
 | d :: r=>(match body (Cell.ow d :: (r.map Cell.sh ++ List.replicate m .un)) with
  | some (.ret z ρ')=>(match ρ'[0]? with
   | some (Cell.ow d')=>some (z,d')
   | _=>none)
  | some (.nx ρ')=>(match ρ'[0]? with
   | some (Cell.ow d')=>some (.val .non,d')
   | _=>none)
  | _=>none)
 | []=>none) else none
noncomputable def flat : Dat→Bool
 | .tup xs=>xs.all fun x=>!isBox x
 | d=>!isBox d
noncomputable def plainL : Dat→Bool
 | .lst xs=>xs.all fun x=>!isBox x
 | _=>false
noncomputable def eFm (f : List Dat→Option (RV×Dat)) (j : Nat) (as : List FE) : FE:=fun ρ=>match ρ[j]? with
 | some (.ow _)=>(match eAs as ρ with
  | none=>none
  | some (xs,ρ1)=>(match ρ1[j]? with
   | some (.ow d1)=>(match tks ρ1 xs with
    | none=>none
    | some (ds,ρ2)=>(match ρ2[j]? with
     | some (.ow d)=>(match f (d :: ds) with
      | none=>none
      | some (v,d')=>if flat v.dat && plainL d' then some (v.toVal,ρ1.set j (.ow d')) else some (v.toVal,ρ2.set j (.ow d')))
     | _=>none))
   | _=>none))
 | _=>none
end _d
namespace _r
open PySem PySem.Spec PyProof.Rows _l
noncomputable def spM (f : List _d.Dat→Option (_d.RV×_d.Dat)) : Sp:=fun vs H Q _=>∃ H0 a us d ds z d',vs = V.ref a :: us∧Same H0 H∧H0 a = none∧Own H0 H a d∧Reps H0 us ds∧f (d :: ds) = some (z,d') ∧
 ∀ v H0' H',Stp (fun b=>b = a) H0 H H0' H'→Same H0' H'→H0' a = none→Own H0' H' a d'→RepR H H0' H' v z→Q v H'
theorem fnM_len {n m : Nat} {body : _d.FS} {vs : List V} {H : Hp} {Q : VK} {E : XK} (h : spM (_d.fnM n m body) vs H Q E) : vs.length = n:=by
 obtain ⟨H0,a,us,d,ds,z,d',e,_,_,_,rs,ef,_⟩:=h
 unfold _d.fnM at ef
 split at ef
 ·rename_i hl
  rw [e,List.length_cons,rs.length]
  simpa using hl
 ·contradiction
theorem RepSt.same_slot {H0 H : Hp} {σ : _l.St} {ρ : _d.Env} {j : Nat} {a : Addr} {d : _d.Dat} (st : RepSt H0 H σ ρ) (q : σ[j]? = some (some (V.ref a))) (no : ¬ Owned σ ρ a) (n0 : H0 a = none) (w : Own H0 H a d) : RepSt H0 H σ (ρ.set j (.ow d)):=by
 have:=st.set_ow (i:=j) no n0 w
 have e : σ.set j (some (V.ref a)) = σ:=by
  apply List.ext_getElem?
  intro i
  by_cases h : j = i
  ·subst h
   have hl : j < σ.length:=(List.getElem?_eq_some_iff.mp q).1
   rw [List.getElem?_set_self hl,q]
  ·rw [List.getElem?_set_ne h]
 rw [e] at this
 exact this
theorem RepSt.off {H0 H H0' H' : Hp} {σ : _l.St} {ρ : _d.Env} {a : Addr} (st : RepSt H0 H σ ρ) (s0 : Same H0 H0') (ss : Same H0' H') (no : ¬ Owned σ ρ a) (s1 : ∀ b o,H b = some o→b≠a→H' b = some o) (s2 : ∀ (i : Nat) (d : _d.Dat) (b : Addr),ρ[i]? = some (_d.Cell.ow d)→σ[i]? = some (some (V.ref b))→H0' b = none) : RepSt H0' H' σ ρ where
 same:=ss
 len:=st.len
 sh:=fun i d e=>by
  obtain ⟨v,q,r⟩:=st.sh i d e
  exact ⟨v,q,r.mono s0⟩
 ow:=fun i d e=>by
  obtain ⟨b,q,n,w⟩:=st.ow i d e
  obtain ⟨o,z⟩:=w.some
  have nb : b≠a:=fun y=>no ⟨i,d,e,y ▸ q⟩
  exact ⟨b,q,s2 i d b e q,w.mono s0 ((s1 b o z nb).trans z.symm)⟩
 dis:=st.dis
theorem reps_plain {H0 H1 : Hp} : ∀ {xs : List V} {ds : List _d.Dat},Reps H0 xs ds→(ds.all fun x=>!_d.isBox x) = true→Reps H1 xs ds
 | _,_,.nil,_=>.nil
 | _,_,.cons r rs,h=>by
  rw [List.all_cons,Bool.and_eq_true] at h
  exact .cons (Rep.plain r (by simpa using h.1)) (reps_plain rs h.2)
section
variable {σ : _l.St} {H : Hp} {Q : VK}
theorem r_callM {f : List _d.Dat→Option (_d.RV×_d.Dat)} {j : Nat} {fs : List _d.FE} {E : XK} (h : tD (_d.eFm f j fs) σ H Q) : tCall (spM f) [] E (tDA (_d.eV j :: fs)) σ H Q:=by
 refine bc fun ζ=>?_
 obtain ⟨H0,ρ,x,ρ',st,e,k⟩:=h
 unfold _d.eFm at e
 split at e
 case h_2=>cases e
 rename_i d0 h0
 split at e
 ·contradiction
 rename_i xs ρ1 e1
 split at e
 case h_2=>cases e
 rename_i d1 h1
 split at e
 ·contradiction
 rename_i ds ρ2 e2
 split at e
 case h_2=>cases e
 rename_i d h2
 split at e
 ·contradiction
 rename_i z d' fz
 apply ζ;clear ζ
 have ea : _d.eAs (_d.eV j :: fs) ρ = some (.slot j :: xs,ρ1):=by
  unfold _d.eAs
  rw [show _d.eV j ρ = some (.slot j,ρ) from by unfold _d.eV; rw [h0]]
  dsimp only
  rw [e1]
 refine ⟨H0,ρ,.slot j :: xs,ρ1,st,ea,fun vs H1 Hb t1 r1=>?_⟩
 dsimp only
 rw [List.append_nil]
 cases r1 with
 | cons r0 rr =>
  refine bc fun ζ=>?_
  obtain ⟨H2,t2,b2,r2⟩:=takes t1 (Same.refl _) rr e2
  obtain ⟨a,qa,na,wa⟩:=t2.st.ow j d h2
  obtain ⟨q0,_⟩:=r0
  rw [qa] at q0
  cases q0
  obtain ⟨a1,qa1,na1,wa1⟩:=t1.st.ow j d1 h1
  rw [qa] at qa1
  cases qa1
  obtain ⟨oa,ha⟩:=wa.some
  apply ζ;clear ζ
  have hl2 : j < ρ2.length:=(List.getElem?_eq_some_iff.mp h2).1
  have hl1 : j < ρ1.length:=(List.getElem?_eq_some_iff.mp h1).1
  have oa0 : Owned σ ρ a:=t1.own a ⟨j,d1,h1,qa⟩
  refine ⟨H2,a,_,d,ds,z,d',rfl,t2.st.same,na,wa,r2,fz,fun v H3 Hd s3 ss n3 w3 r3=>?_⟩
  have no2 : ¬ Owned σ (ρ2.set j .un) a:=fun y=>by
   refine bc fun ζ=>?_
   obtain ⟨i,d4,hi,y1,y2⟩:=owned_mask y
   exact ζ (hi (t2.st.dis i j d4 d a y1 h2 y2 qa))
  have no1 : ¬ Owned σ (ρ1.set j .un) a:=fun y=>by
   refine bc fun ζ=>?_
   obtain ⟨i,d4,hi,y1,y2⟩:=owned_mask y
   exact ζ (hi (t1.st.dis i j d4 d1 a y1 h1 y2 qa))
  split at e
  ·rename_i fl
   cases e
   rw [Bool.and_eq_true] at fl
   obtain ⟨f1,f2⟩:=fl
   have wp : ∀ H',Own H' Hd a d':=fun H'=>by
    cases d' with
    | lst ys =>
     refine bc fun ζ=>?_
     obtain ⟨us,y1,y2⟩:=w3
     exact ζ (⟨us,y1,reps_plain y2 f2⟩)
    | _=>cases f2
   have fin : ∀ H1' : Hp,Same H1 H1'→Same H1' Hd→(∀ b o,H1' b = some o→H1 b = some o∨((∃ us,o = .tup us)∧H3 b = some o))→RepV H H1' Hd σ (ρ1.set j (.ow d')) v z.toVal→Q v Hd:=fun H1' m1 m2 m3 rv=>by
    have hd3 : ∀ b,H1' b≠none→b≠a:=fun b hb y=>by
     subst y
     cases y2 : H1' b with
     | none=>exact hb y2
     | some o =>
      rcases m3 b o y2 with y3 | ⟨_,y3⟩
      ·rw [na1] at y3; cases y3
      ·rw [n3] at y3; cases y3
    have n1' : H1' a = none:=by
     cases y : H1' a with
     | none=>rfl
     | some o=>exact absurd rfl (hd3 a (by rw [y]; exact fun q=>nomatch q))
    have sm : RepSt H1' Hd σ (ρ1.set j .un):=by
     refine (t1.st.mask j).off m1 m2 no1 (fun b o y nb=>s3.s1 b o y nb) fun i d4 b y1 y2=>?_
     refine bc fun ζ=>?_
     obtain ⟨b',q',nb',w'⟩:=(t1.st.mask j).ow i d4 y1
     apply ζ;clear ζ
     rw [y2] at q'
     cases q'
     cases y : H1' b with
     | none=>rfl
     | some o =>
      rcases m3 b o y with y3 | ⟨⟨us,y4⟩,y3⟩
      ·rw [nb'] at y3; cases y3
      ·subst y4
       have nb : b≠a:=hd3 b (by rw [y]; exact fun q=>nomatch q)
       cases d4 with
       | lst _ =>
        obtain ⟨ws,z1,_⟩:=w'
        have z2:=s3.s1 b _ z1 nb
        rw [ss _ _ y3] at z2
        cases z2
       | dct _ _ =>
        obtain ⟨ws,z1,_⟩:=w'
        have z2:=s3.s1 b _ z1 nb
        rw [ss _ _ y3] at z2
        cases z2
       | _=>exact False.elim w'
    have sf : RepSt H1' Hd σ (ρ1.set j (.ow d')):=by
     have:=sm.same_slot qa no1 n1' (wp H1')
     rw [List.set_set] at this
     exact this
    refine k v H1' Hd ⟨sf,⟨t1.stp.s0.trans m1,fun b o y nb=>?_,fun b o y=>?_,fun b o y=>?_⟩,fun b y=>?_,fun i y=>?_⟩ rv
    ·have y1:=t1.stp.s1 b o y nb
     exact s3.s1 b o y1 fun q=>nb (by rw [q]; exact oa0)
    ·rcases m3 b o y with y3 | ⟨_,y3⟩
     ·exact t1.stp.s2 b o y3
     ·rcases s3.s2 b o y3 with y4 | y4 | y4
      ·exact .inl (t1.stp.gone y4)
      ·exact t2.stp.s2 b o y4
      ·subst y4; rw [n3] at y3; cases y3
    ·obtain ⟨o',y1⟩:=t1.stp.s3 b o y
     exact s3.s3 b o' y1
    ·refine bc fun ζ=>?_
     obtain ⟨i,d4,y1,y2⟩:=y
     apply ζ;clear ζ
     by_cases hi : j = i
     ·subst hi
      rw [qa] at y2
      cases y2
      exact oa0
     ·rw [List.getElem?_set_ne hi] at y1
      exact t1.own b ⟨i,d4,y1,y2⟩
    ·trivial
   have m0 : Same H1 Hd:=fun b o y=>s3.s1 b o (t1.st.same _ _ y) fun q=>by rw [q,na1] at y; cases y
   cases z with
   | new d4 =>
    refine bc fun ζ=>?_
    obtain ⟨_,_,_,_,w⟩:=r3
    apply ζ;clear ζ
    cases d4 with
    | lst _=>cases f1
    | dct _ _=>cases f1
    | _=>exact False.elim w
   | val d4 =>
    have r3' : Rep H3 v d4:=r3
    cases d4 with
    | tup es =>
     cases r3' with
     | tup q rs =>
      rename_i a2 us
      have rp : Reps H1 us es:=reps_plain rs f1
      refine fin (upd H1 a2 (.tup us)) (fun b o y=>?_) (fun b o y=>?_) (fun b o y=>?_) (.tup upd_same (reps_plain rs f1))
      ·by_cases hb : b = a2
       ·subst hb
        have:=s3.s0 _ _ (b2 _ _ y)
        rw [q] at this
        rw [upd_same,this]
       ·rw [upd_ne hb]; exact y
      ·by_cases hb : b = a2
       ·subst hb
        rw [upd_same] at y
        cases y
        exact ss _ _ q
       ·rw [upd_ne hb] at y; exact m0 _ _ y
      ·by_cases hb : b = a2
       ·subst hb
        rw [upd_same] at y
        cases y
        exact .inr ⟨⟨us,rfl⟩,q⟩
       ·rw [upd_ne hb] at y; exact .inl y
    | lst _=>cases f1
    | dct _ _=>cases f1
    | exc _=>cases f1
    | fn _=>exact fin H1 (Same.refl _) m0 (fun b o y=>.inl y) (Rep.plain r3' rfl)
    | non=>exact fin H1 (Same.refl _) m0 (fun b o y=>.inl y) (Rep.plain r3' rfl)
    | bl _=>exact fin H1 (Same.refl _) m0 (fun b o y=>.inl y) (Rep.plain r3' rfl)
    | int _=>exact fin H1 (Same.refl _) m0 (fun b o y=>.inl y) (Rep.plain r3' rfl)
    | str _=>exact fin H1 (Same.refl _) m0 (fun b o y=>.inl y) (Rep.plain r3' rfl)
  ·cases e
   have sm : RepSt H3 Hd σ (ρ2.set j .un):=by
    refine (t2.st.mask j).off s3.s0 ss no2 (fun b o y nb=>s3.s1 b o y nb) fun i d4 b y1 y2=>?_
    refine bc fun ζ=>?_
    obtain ⟨b',q',nb',w'⟩:=(t2.st.mask j).ow i d4 y1
    apply ζ;clear ζ
    rw [y2] at q'
    cases q'
    obtain ⟨ob,hob⟩:=w'.some
    cases y : H3 b with
    | none=>rfl
    | some o =>
     rcases s3.s2 b o y with y3 | y3 | y3
     ·rw [hob] at y3; cases y3
     ·rw [nb'] at y3; cases y3
     ·exact absurd ⟨i,d4,y1,y3 ▸ y2⟩ no2
   have sf : RepSt H3 Hd σ (ρ2.set j (.ow d')):=by
    have:=sm.same_slot qa no2 n3 w3
    rw [List.set_set] at this
    exact this
   have of : ∀ b,Owned σ (ρ2.set j (.ow d')) b→b = a∨Owned σ ρ2 b:=fun b ⟨i,d4,y1,y2⟩=>by
    by_cases hi : j = i
    ·subst hi
     rw [qa] at y2
     cases y2
     exact .inl rfl
    ·rw [List.getElem?_set_ne hi] at y1
     exact .inr ⟨i,d4,y1,y2⟩
   refine k v H3 Hd ⟨sf,t2.stp.trans s3 (fun b y=>.inl (y ▸ oa0)),fun b y=>?_,fun i y=>?_⟩ ?_
   ·rcases of b y with y | y
    ·exact y ▸ oa0
    ·exact t2.own b y
   ·trivial
   ·cases z with
    | val d4=>exact r3
    | new d4 =>
     refine bc fun ζ=>?_
     obtain ⟨b,y0,y1,y2,y3⟩:=r3
     apply ζ;clear ζ
     refine ⟨b,y0,t2.stp.gone y1,fun y=>?_,y2,y3⟩
     rcases of b y with y | y
     ·subst y; rw [ha] at y1; cases y1
     ·exact t2.st.notOwned y1 y
end
theorem d_callM {X : Cx} {es : List Expr} {p pos px : Pos} {k : Nat} {F : Addr} {fd : FuncData} {ps : List Str} {g : List _d.Dat→Option (_d.RV×_d.Dat)} {x y : Str} {j : Nat} {fs : List _d.FE} (G : FnOk X.prog X.w X.K X.mg X.base CX0 k F fd ps (spM g)) (hr : Room k X.A) (hg : Gl X x) (hm : X.mg x = some (.ref F)) (hk : PySem.W.keepIn X.K (.ref F) = true) (hb : Binds X.K fd ps [])
  (ha : DA X (.Name y px :: es) (_d.eV j :: fs)) (hdb : autoParam ((x == ("__debug__" : Str)) = false) _l.a1._auto_1) (he : autoParam (starEach (.Name y px :: es) X.env = (false, eval (.Name y px) X.env) :: starEach es X.env) _l.a0._auto_1) (hpl : autoParam ((backTo pos (starEach es X.env)).any (·.1) = false) _l.a0._auto_1) :
  DE X (.Call (.Name x p) (.Name y px :: es) [] pos) (_d.eFm g j fs):=PE.weak (pe_call G hr hg hm hk hb .nil (pass0 (X:=X)) ha hdb he hpl) fun _ _ _=>r_callM
theorem r_fnM {N : List Str} {n m : Nat} {body : _d.FS} {vs : List V} {H : Hp} {Q : VK} {E : XK} (hm : N.length = n + m) (h : spM (_d.fnM n m body) vs H Q E) :
  tDS body { nx:=fun _ H'=>Q .non H',rt:=Q } (start N vs) H:=by
 have hvn:=fnM_len h
 refine bc fun ζ=>?_
 obtain ⟨H0,a,us,d,ds,z,d',e,s,na,wa,rs,ef,k⟩:=h
 subst e
 have hl:=rs.length
 rw [List.length_cons] at hvn
 have e0 : (start N (V.ref a :: us))[0]? = some (some (V.ref a)):=rfl
 have get : ∀ {i : Nat} {c : _d.Cell},(_d.Cell.ow d :: (ds.map _d.Cell.sh ++ List.replicate m .un))[i]? = some c→(i = 0∧c = .ow d)∨(∃ i' d4,i = i' + 1∧ds[i']? = some d4∧c = .sh d4)∨c = .un:=fun {i c} y=>by
  cases i with
  | zero=>cases y; exact .inl ⟨rfl,rfl⟩
  | succ i =>
   rw [List.getElem?_cons_succ] at y
   by_cases hi : i < ds.length
   ·rw [List.getElem?_append_left (by simpa using hi),List.getElem?_map,List.getElem?_eq_getElem hi] at y
    cases y
    exact .inr (.inl ⟨i,ds[i],rfl,List.getElem?_eq_getElem hi,rfl⟩)
   ·rw [List.getElem?_append_right (by simpa using hi),List.getElem?_replicate] at y
    split at y
    ·cases y; exact .inr (.inr rfl)
    ·contradiction
 have ow0 : ∀ {i : Nat} {d4 : _d.Dat},(_d.Cell.ow d :: (ds.map _d.Cell.sh ++ List.replicate m .un))[i]? = some (.ow d4)→i = 0∧d4 = d:=fun {i d4} y=>by
  rcases get y with ⟨y1,y2⟩ | ⟨_,_,_,_,y2⟩ | y2
  ·cases y2; exact ⟨y1,rfl⟩
  ·contradiction
  ·contradiction
 have oa : ∀ b,Owned (start N (V.ref a :: us)) (_d.Cell.ow d :: (ds.map _d.Cell.sh ++ List.replicate m .un)) b→b = a:=fun b ⟨i,d4,y1,y2⟩=>by
  obtain ⟨y3,_⟩:=ow0 y1
  subst y3
  rw [e0] at y2
  cases y2
  rfl
 have st : RepSt H0 H (start N (V.ref a :: us)) (_d.Cell.ow d :: (ds.map _d.Cell.sh ++ List.replicate m .un)):=by
  refine ⟨s,?_,fun i d4 y=>?_,fun i d4 y=>?_,fun i i' d4 d5 b y1 y2 _ _=>(ow0 y1).1.trans (ow0 y2).1.symm⟩
  ·unfold _l.start
   simp only [List.length_append,List.length_map,List.length_replicate,List.length_cons]
   omega
  ·rcases get y with ⟨_,y2⟩ | ⟨i',d5,y1,y2,y3⟩ | y2
   ·contradiction
   ·cases y3
    subst y1
    obtain ⟨v,hv,r⟩:=rs.get y2
    refine ⟨v,?_,r⟩
    have hi : i' < us.length:=(List.getElem?_eq_some_iff.mp hv).1
    unfold _l.start
    rw [List.getElem?_append_left (by simp; omega),List.getElem?_map,List.getElem?_cons_succ,hv]
    rfl
   ·contradiction
  ·obtain ⟨y1,y2⟩:=ow0 y
   subst y1 y2
   exact ⟨a,e0,na,wa⟩
 have fin : ∀ {σ' : _l.St} {ρ' : _d.Env} {H0' H' : Hp},SSt (start N (V.ref a :: us)) (_d.Cell.ow d :: (ds.map _d.Cell.sh ++ List.replicate m .un)) H0 H σ' ρ' H0' H'→ρ'[0]? = some (.ow d')→Stp (fun b=>b = a) H0 H H0' H'∧H0' a = none∧Own H0' H' a d'∧Owned σ' ρ' a:=fun {σ' ρ' H0' H'} t y=>by
  obtain ⟨a',q',n',w'⟩:=t.st.ow 0 d' y
  have fx:=t.fx
  rw [e0,q'] at fx
  cases fx
  exact ⟨t.stp.wide fun b z=>oa b z,n',w',0,d',y,q'⟩
 unfold _d.fnM at ef
 split at ef
 case isFalse=>cases ef
 apply ζ;clear ζ
 dsimp only at ef
 split at ef
 ·rename_i z' ρ' e1
  refine bc fun ζ=>?_
  split at ef
  case h_2=>cases ef
  rename_i d4 y
  cases ef
  apply ζ;clear ζ
  refine ⟨H0,_,_,st,e1,fun σ' v H0' H' t r no=>?_⟩
  refine bc fun ζ=>?_
  obtain ⟨f1,f2,f3,f4⟩:=fin t y
  apply ζ;clear ζ
  refine k v H0' H' f1 t.st.same f2 f3 ?_
  cases z with
  | val d5=>exact r
  | new d5 =>
   refine bc fun ζ=>?_
   obtain ⟨b,y0,y1,y2,y3⟩:=r
   apply ζ;clear ζ
   refine ⟨b,y0,?_,y2,y3⟩
   rcases y1 with y1 | y1
   ·exact y1
   ·exact absurd f4 (oa b y1 ▸ no d5 b rfl y0)
 ·rename_i ρ' e1
  refine bc fun ζ=>?_
  split at ef
  case h_2=>cases ef
  rename_i d4 y
  cases ef
  apply ζ;clear ζ
  refine ⟨H0,_,_,st,e1,fun σ' H0' H' t=>?_⟩
  refine bc fun ζ=>?_
  obtain ⟨f1,f2,f3,f4⟩:=fin t y
  exact ζ (k _ H0' H' f1 t.st.same f2 f3 .non)
 ·contradiction
end _r
namespace _d
end _d
namespace _r
open PySem PySem.Spec PyProof.Rows _l
section
variable {σ : _l.St} {H : Hp} {Q : VK} {D : Ends}
end
section
variable {X : Cx} {a b e : Expr} {fa fb f : _d.FE} {pos : Pos} {k : Nat}
end
end _r
namespace _d
noncomputable def eSlT (a : FE) (lo hi : Option FE) : FE:=fun ρ=>match a ρ with
 | none=>none
 | some (x,ρ1)=>match part lo ρ1 with
  | none=>none
  | some (l,ρ2)=>match part hi ρ2 with
   | none=>none
   | some (h,ρ3)=>match pk ρ3 x with
    | some (.tup xs)=>if sIx xs.length 0 l = 0∧sIx xs.length xs.length h = xs.length then none else some (.val (.tup (cut xs l h)),ρ3)
    | _=>none
end _d
namespace _r
open PySem PySem.Spec PyProof.Rows _l
section
variable {σ : _l.St} {H : Hp} {Q : VK}
end
section
variable {X : Cx} {a : Expr} {fa : _d.FE} {p pos : Pos}
end
section
variable {X : Cx} {a b e : Expr} {fa fb f : _d.FE} {fs : List _d.FE} {p p2 pos : Pos}
theorem r_slT {K : PySem.W.Frag} {lo hi : Option _d.FE} {σ : _l.St} {H : Hp} {Q : VK} (h : tD (_d.eSlT f lo hi) σ H Q) : tSl (rSlT K) (tD f) (tOf lo) (tOf hi) σ H Q:=by
 obtain ⟨H0,ρ,x,ρ',st,e,k⟩:=h
 unfold _d.eSlT at e
 split at e
 ·contradiction
 rename_i x1 ρ1 e1
 split at e
 ·contradiction
 rename_i l ρ2 e2
 split at e
 ·contradiction
 rename_i hh ρ3 e3
 split at e
 ·rename_i ds p1
  split at e
  ·contradiction
  rename_i hne
  cases e
  refine ⟨H0,ρ,x1,ρ1,st,e1,fun v H1 Hb t1 r1=>?_⟩
  refine part_ok t1.st e2 fun H2 Hc t2=>?_
  refine part_ok t2.st e3 fun H3 Hd t3=>?_
  have tt:=t1.trans (t2.trans t3)
  obtain ⟨a,xs,rfl,qa,ra⟩:=repO_tup t3.st.same ((r1.mono (t2.trans t3)).look t3.st p1)
  refine ⟨a,xs,rfl,SqT.of qa,?_,fun q hq=>?_⟩
  ·rw [ra.length,sIx_eq _ _ _ (Nat.zero_le _),sIx_eq _ _ _ (Nat.le_refl _)]
   exact hne
  ·have g:=Grow.newS (o:=HO.tup (cutV xs l hh)) t3.st.same hq
   exact k _ _ _ (tt.trans (.grow t3.st g)) (.tup upd_same ((cutV_reps ra l hh).mono g.s0))
 ·contradiction
theorem d_slT {lo hi : Option Expr} {flo fhi : Option _d.FE} (h : DE X e f) (hl : PO X lo (tOf flo)) (hh : PO X hi (tOf fhi)) : DE X (.Subscript e (.Slice lo hi none p2) pos) (_d.eSlT f flo fhi):=PE.weak (pe_slice sl_tup h hl hh) fun _ _ _=>r_slT
end
end _r
namespace _d
noncomputable def intsD : List Dat→Option (List Int)
 | []=>some []
 | .int i :: r=>(intsD r).map fun ns=>i :: ns
 | _=>none
end _d
namespace _r
open PySem PySem.Spec PyProof.Rows _l
theorem intsAre_of : ∀ {ns : List Int} {its : List Value},Vals (ns.map V.int) its→IntsAre its ns
 | [],_,r=>by cases r; exact .nil
 | n :: ns,_,r=>by
  rw [List.map_cons] at r
  cases r with
  | cons h t =>
   obtain ⟨tk,rfl⟩:=h
   exact .cons _ _ (intsAre_of t)
section
variable {X : Cx}
end
theorem intsD_ok {H0 : Hp} : ∀ {ds : List _d.Dat} {xs : List V} {ns : List Int},Reps H0 xs ds→_d.intsD ds = some ns→xs = ns.map V.int
 | [],_,ns,r,e=>by cases r; cases e; rfl
 | d :: ds,_,ns,r,e=>by
  cases r with
  | cons h t =>
   cases d with
   | int i =>
    unfold _d.intsD at e
    cases q : _d.intsD ds with
    | none=>rw [q] at e; cases e
    | some ms =>
     rw [q] at e
     cases e
     cases Rep.isInt h
     rw [intsD_ok t q]
     rfl
   | _=>cases e
section
variable {X : Cx} {e : Expr} {f : _d.FE} {p p0 pos pos0 : Pos}
end
end _r
namespace _t
open PySem PyProof.Rows
variable {M : Model} {A : Around} {E : Value→Shared→Prop} {s : Shared} {κ : KeyKind} {kd : SortKind} {a₀ : Array Keyed}
noncomputable def LtOk (M : Model) (A : Around) (E : Value→Shared→Prop) (s : Shared) (κ : KeyKind) (kd : SortKind) : Prop :=
 ∀ (x y : Keyed) (a b : κ.α) (st : SortSt) (Q : Option Bool→SortSt→Prop),κ.keyOf x.1 = some a→κ.keyOf y.1 = some b→kindOf st = kd→Q (some (κ.blt a b)) st→wpS M A E s (lt' x y) Q st
structure SB (kd : SortKind) (a₀ : Array Keyed) (st : SortSt) : Prop where
 perm : (arrOf st).Perm a₀
 kind : kindOf st = kd
 failed : failedOf st = none
theorem SB.size {st : SortSt} (h : SB kd a₀ st) : (arrOf st).size = a₀.size:=h.perm.size_eq
theorem SB.arr {st : SortSt} (h : SB kd a₀ st) {xs : Array Keyed} (hp : xs.Perm (arrOf st)) : SB kd a₀ (setArr st xs):=⟨hp.trans h.perm,h.kind,h.failed⟩
theorem SB.pend {st : SortSt} (h : SB kd a₀ st) (p : Array (Nat×Nat×Nat)) : SB kd a₀ (setPending st p):=⟨h.perm,h.kind,h.failed⟩
theorem SB.keys {st : SortSt} (h : SB kd a₀ st) (h0 : KeysOf κ a₀) : KeysOf κ (arrOf st):=fun p hp=>h0 p ((Array.perm_iff_toList_perm.mp h.perm).mem_iff.mp hp)
theorem key_at {xs : Array Keyed} (h : KeysOf κ xs) {i : Nat} (hi : i < xs.size) : ∃ p,xs[i]? = some p∧κ.keyOf p.1 = some (KK κ xs i):=by
 refine ⟨xs[i],getElem?_pos xs i hi,?_⟩
 obtain ⟨a,e⟩:=h xs[i] (by simp)
 unfold KK
 rw [getElem?_pos xs i hi]
 dsimp only
 rw [e]
 rfl
theorem lt_at (hL : LtOk M A E s κ kd) {st : SortSt} (hB : SB kd a₀ st) (h0 : KeysOf κ a₀) {i j : Nat} (hi : i < a₀.size) (hj : j < a₀.size) {Q : Option Bool→SortSt→Prop}
  (h : Q (some (κ.blt (KK κ (arrOf st) i) (KK κ (arrOf st) j))) st) : wpS M A E s (ltAt' i j) Q st:=by
 obtain ⟨p,ep,kp⟩:=key_at (hB.keys h0) (i:=i) (by rw [hB.size]; exact hi)
 obtain ⟨q,eq,kq⟩:=key_at (hB.keys h0) (i:=j) (by rw [hB.size]; exact hj)
 rw [ltAt'_eq]
 refine wpS_bind (wpS_get ?_)
 show wpS _ _ _ _ (elem' (arrOf st) i >>= fun x=>elem' (arrOf st) j >>= fun y=>lt' x y) Q st
 rw [elem'_eq,elem'_eq,ep,eq]
 exact wpS_bind (wpS_pure (wpS_bind (wpS_pure (hL p q _ _ st Q kp kq hB.kind h))))
noncomputable def Seg (κ : KeyKind) (xs : Array Keyed) (i j : Nat) : Prop:=∀ p q,i≤p→p≤q→q < j→κ.kle (KK κ xs p) (KK κ xs q)
noncomputable def SegR (κ : KeyKind) (xs : Array Keyed) (i j : Nat) : Prop:=∀ p q,i≤p→p≤q→q < j→κ.kle (KK κ xs q) (KK κ xs p)
noncomputable def Out (xs ys : Array Keyed) (i j : Nat) : Prop:=∀ k,(k < i∨j≤k)→ys[k]? = xs[k]?
theorem Out.refl (xs : Array Keyed) (i j : Nat) : Out xs xs i j:=fun _ _=>rfl
theorem Out.trans {xs ys zs : Array Keyed} {i j : Nat} (h : Out xs ys i j) (h' : Out ys zs i j) : Out xs zs i j:=fun k hk=>(h' k hk).trans (h k hk)
theorem Out.mono {xs ys : Array Keyed} {i j i' j' : Nat} (h : Out xs ys i j) (h1 : i'≤i) (h2 : j≤j') : Out xs ys i' j':=fun k hk=>h k (by lia)
theorem out_mirror {xs : Array Keyed} {i j : Nat} (hj : j≤xs.size) : Out xs (mirror xs i j ((j - i) / 2)) i j:=fun k hk=>by
 rw [getElem?_mirror_all hj,if_neg (by lia)]
theorem out_bubble {xs : Array Keyed} {src d : Nat} (hs : src < xs.size) (hd : d≤src) : Out xs (bubble xs src d) (src - d) (src + 1):=fun k hk=>by
 rw [getElem?_bubble hs d hd,if_neg (by lia),if_neg (by lia)]
theorem bin_ok (hL : LtOk M A E s κ kd) (h0 : KeysOf κ a₀) {st : SortSt} (hB : SB kd a₀ st) {lo n ok : Nat} (hn : lo + n≤a₀.size) (h1 : 1≤ok) (hok : ok≤n) (hs : Seg κ (arrOf st) lo (lo + ok)) {Q : Bool→SortSt→Prop}
  (h : ∀ xs,xs.Perm (arrOf st)→Seg κ xs lo (lo + n)→Out (arrOf st) xs lo (lo + n)→Q true (setArr st xs)) : wpS M A E s (binarySort' lo n ok) Q st:=by
 rw [binarySort'_eq]
 refine wpS_bind (wpS_mono (wpS_forRange (I:=fun k c st'=>c = (none,())∧∃ xs,st' = setArr st xs∧xs.Perm (arrOf st)∧Seg κ xs lo (lo + k)∧Out (arrOf st) xs lo (lo + n)) (Q:=fun c st'=>c = (none,())∧∃ xs,st' = setArr st xs∧xs.Perm (arrOf st)∧Seg κ xs lo (lo + n)∧Out (arrOf st) xs lo (lo + n)) ?step ?fin ?ini) ?post)
 case ini =>
  refine ⟨rfl,arrOf st,rfl,Array.Perm.refl _,?_,Out.refl _ _ _⟩
  rw [show max ok 1 = ok by lia]; exact hs
 case fin =>
  intro c st' zP2
  refine bc fun ζ=>?_
  obtain ⟨rfl,xs,rfl,hp,hsg,ho⟩:=zP2
  apply ζ;clear ζ
  rw [show max (max ok 1) n = n by lia] at hsg
  exact ⟨rfl,xs,rfl,hp,hsg,ho⟩
 case post =>
  intro c st' zP2
  refine bc fun ζ=>?_
  obtain ⟨rfl,xs,rfl,hp,hsg,ho⟩:=zP2
  exact ζ (wpS_pure (h xs hp hsg ho))
 case step =>
  intro k c st' hk1 hk2 zP5
  refine bc fun ζ=>?_
  obtain ⟨rfl,xs,rfl,hp,hsg,ho⟩:=zP5
  apply ζ;clear ζ
  dsimp only
  have hB' : SB kd a₀ (setArr st xs):=hB.arr hp
  have hsz : xs.size = a₀.size:=hB'.size
  refine wpS_bind (wpS_mono (wpS_forRange (I:=fun i c st'=>∃ l r,c = (none,l,r)∧st' = setArr st xs∧l≤r∧r≤k∧r - l≤k - i∧(∀ p,p < l→κ.kle (KK κ xs (lo + p)) (KK κ xs (lo + k)))∧(∀ p,r≤p→p < k→κ.klt (KK κ xs (lo + k)) (KK κ xs (lo + p))))
   (Q:=fun c st'=>∃ l,c = (none,l,l)∧st' = setArr st xs∧l≤k∧(∀ p,p < l→κ.kle (KK κ xs (lo + p)) (KK κ xs (lo + k)))∧(∀ p,l≤p→p < k→κ.klt (KK κ xs (lo + k)) (KK κ xs (lo + p)))) ?st2 ?fi2 ⟨0,k,rfl,rfl,Nat.zero_le _,Nat.le_refl _,by lia,fun p hp=>by lia,fun p h1 h2=>by lia⟩) ?po2)
  case fi2 =>
   intro c st' zP2
   refine bc fun ζ=>?_
   obtain ⟨l,r,rfl,rfl,h1,h2,h3,h4,h5⟩:=zP2
   have : l = r:=by lia
   subst this
   exact ζ (⟨l,rfl,rfl,h2,h4,h5⟩)
  case st2 =>
   intro i c st' _ hi zP5
   refine bc fun ζ=>?_
   obtain ⟨l,r,rfl,rfl,h1,h2,h3,h4,h5⟩:=zP5
   apply ζ;clear ζ
   dsimp only
   by_cases hlr : l ≥ r
   ·rw [if_pos hlr]
    have : l = r:=by lia
    subst this
    exact wpS_pure ⟨l,rfl,rfl,h2,h4,h5⟩
   ·rw [if_neg hlr]
    refine wpS_bind (lt_at hL hB' h0 (by lia) (by lia) ?_)
    dsimp only
    cases hb : κ.blt (KK κ (arrOf (setArr st xs)) (lo + k)) (KK κ (arrOf (setArr st xs)) (lo + (l + r) / 2))
    case true =>
     rw [if_pos rfl]
     refine wpS_pure ⟨l,(l + r) / 2,rfl,rfl,by lia,by lia,by lia,h4,fun p hp1 hp2=>?_⟩
     exact KeyOrd.klt_of_klt_of_kle hb (hsg _ _ (by lia) (by lia) (by lia))
    case false =>
     rw [if_neg (by decide)]
     refine wpS_pure ⟨(l + r) / 2 + 1,r,rfl,rfl,by lia,h2,by lia,fun p hp1=>?_,h5⟩
     exact KeyOrd.kle_trans (hsg _ _ (by lia) (by lia) (by lia)) hb
  case po2 =>
   intro c st' zP2
   refine bc fun ζ=>?_
   obtain ⟨l,rfl,rfl,hlk,hlo,hhi⟩:=zP2
   apply ζ;clear ζ
   dsimp only
   rw [moveDown'_eq]
   have hd : lo + k - (lo + l) = k - l:=by lia
   have hsk : lo + k < xs.size:=by lia
   refine wpS_bind (wpS_modify (wpS_pure ⟨rfl,bubble xs (lo + k) (lo + k - (lo + l)),rfl,(bubble_perm _ _ _).trans hp,?_,ho.trans ((out_bubble hsk (by lia)).mono (by lia) (by lia))⟩))
   intro p q h1 h2 h3
   rw [KK_bubble hsk (by lia),KK_bubble hsk (by lia)]
   rw [show lo + k - (lo + k - (lo + l)) = lo + l by lia]
   by_cases hp1 : p = lo + l
   ·rw [if_pos hp1]
    by_cases hq1 : q = lo + l
    ·rw [if_pos hq1]; exact KeyOrd.kle_refl _
    ·rw [if_neg hq1,if_pos (by lia)]
     have:=hhi (q - 1 - lo) (by lia) (by lia)
     rw [show lo + (q - 1 - lo) = q - 1 by lia] at this
     exact KeyOrd.kle_of_klt this
   ·rw [if_neg hp1]
    by_cases hp2 : lo + l < p∧p≤lo + k
    ·rw [if_pos hp2,if_neg (by lia),if_pos (by lia)]
     exact hsg _ _ (by lia) (by lia) (by lia)
    ·rw [if_neg hp2]
     by_cases hq1 : q = lo + l
     ·rw [if_pos hq1]
      have:=hlo (p - lo) (by lia)
      rw [show lo + (p - lo) = p by lia] at this
      exact this
     ·rw [if_neg hq1]
      by_cases hq2 : lo + l < q∧q≤lo + k
      ·rw [if_pos hq2]
       exact hsg _ _ (by lia) (by lia) (by lia)
      ·rw [if_neg hq2]
       exact hsg _ _ (by lia) (by lia) (by lia)
variable {M : Model} {A : Around} {E : Value→Shared→Prop} {s : Shared} {κ : KeyKind} {kd : SortKind} {a₀ : Array Keyed}
noncomputable def upL (lo k nrem : Nat) : StateT SortSt Sem (Option Nat):=do
 let mut m:=k
 for _ in [k:nrem] do
  let some c ← ltAt' (lo + m) (lo + m - 1)
   | return none
  if c then break
  m:=m + 1
 return some m
noncomputable def downL (lo k nrem : Nat) : StateT SortSt Sem (Option Nat):=do
 rule "list.sort.descending-run"
 let mut m:=k + 1
 let mut e:=0
 for _ in [k + 1:nrem] do
  let some c ← ltAt' (lo + m) (lo + m - 1)
   | return none
  if c then
   if e > 0 then reverseSlice' (lo + m - (e + 1)) (lo + m)
   e:=0
  else
   let some d ← ltAt' (lo + m - 1) (lo + m)
    | return none
   if d then break
   e:=e + 1
  m:=m + 1
 if e > 0 then reverseSlice' (lo + m - (e + 1)) (lo + m)
 reverseSlice' lo (lo + m)
 let mut z:=m
 for _ in [m:nrem] do
  let some c ← ltAt' (lo + z) (lo + z - 1)
   | return none
  if c then break
  z:=z + 1
 return some z
theorem seg_one {xs : Array Keyed} {i : Nat} : Seg κ xs i (i + 1):=fun p q a b c=>by
 have : p = q:=by lia
 subst this
 exact KeyOrd.kle_refl _
theorem seg_succ {xs : Array Keyed} {i n : Nat} (h : Seg κ xs i (i + n)) (h1 : 1≤n) (hb : κ.kle (KK κ xs (i + n - 1)) (KK κ xs (i + n))) : Seg κ xs i (i + (n + 1)):=fun p q a b c=>by
 by_cases hq : q < i + n
 ·exact h p q a b hq
 ·have : q = i + n:=by lia
  subst this
  by_cases hp : p = i + n
  ·subst hp; exact KeyOrd.kle_refl _
  ·exact KeyOrd.kle_trans (h p (i + n - 1) a (by lia) (by lia)) hb
theorem segR_succ {xs : Array Keyed} {i n : Nat} (h : SegR κ xs i (i + n)) (h1 : 1≤n) (hb : κ.kle (KK κ xs (i + n)) (KK κ xs (i + n - 1))) : SegR κ xs i (i + (n + 1)):=fun p q a b c=>by
 by_cases hq : q < i + n
 ·exact h p q a b hq
 ·have : q = i + n:=by lia
  subst this
  by_cases hp : p = i + n
  ·subst hp; exact KeyOrd.kle_refl _
  ·exact KeyOrd.kle_trans hb (h p (i + n - 1) a (by lia) (by lia))
section
variable {prog : Program} {w : World}
theorem up_ok (hL : LtOk (model prog w) A E s κ kd) (h0 : KeysOf κ a₀) {st : SortSt} (hB : SB kd a₀ st) {lo k nrem : Nat} (hn : lo + nrem≤a₀.size) (h1 : 1≤k) (hk : k≤nrem) (hs : Seg κ (arrOf st) lo (lo + k)) {Q : Option Nat→SortSt→Prop}
  (h : ∀ n,k≤n→n≤nrem→Seg κ (arrOf st) lo (lo + n)→Q (some n) st) : wpS (model prog w) A E s (upL lo k nrem) Q st:=by
 unfold upL
 refine wpS_bind (wpS_mono (wpS_forRange (I:=fun i c st'=>c = (none,i)∧st' = st∧i≤nrem∧Seg κ (arrOf st) lo (lo + i)) (Q:=fun c st'=>∃ n,c = (none,n)∧st' = st∧k≤n∧n≤nrem∧Seg κ (arrOf st) lo (lo + n)) ?st1 ?fi1 ⟨rfl,rfl,hk,hs⟩) ?po1)
 case fi1 =>
  intro c st' zP2
  refine bc fun ζ=>?_
  obtain ⟨rfl,rfl,hle,hsg⟩:=zP2
  apply ζ;clear ζ
  exact ⟨_,rfl,rfl,by lia,hle,hsg⟩
 case st1 =>
  intro i c st' hi1 hi2 zP5
  refine bc fun ζ=>?_
  obtain ⟨rfl,rfl,hle,hsg⟩:=zP5
  apply ζ;clear ζ
  dsimp only
  refine wpS_bind (lt_at hL hB h0 (by lia) (by lia) ?_)
  dsimp only
  cases hb : κ.blt (KK κ (arrOf st') (lo + i)) (KK κ (arrOf st') (lo + i - 1))
  case true =>
   rw [if_pos rfl]
   exact wpS_pure ⟨i,rfl,rfl,hi1,hle,hsg⟩
  case false =>
   rw [if_neg (by decide)]
   exact wpS_pure ⟨rfl,rfl,by lia,seg_succ hsg (by lia) hb⟩
 case po1 =>
  intro c st' zP2
  refine bc fun ζ=>?_
  obtain ⟨n,rfl,rfl,h2,h3,h4⟩:=zP2
  exact ζ (wpS_pure (h n h2 h3 h4))
theorem keep_eq {xs : Array Keyed} {i j : Nat} (hj : j≤xs.size) (he : ∀ k,i≤k→k < j→KK κ xs k = KK κ xs (j - 1)) : ∀ k,KK κ (mirror xs i j ((j - i) / 2)) k = KK κ xs k:=KK_mirror_equal hj he
theorem down_ok (hL : LtOk (model prog w) A E s κ kd) (h0 : KeysOf κ a₀) {st : SortSt} (hB : SB kd a₀ st) {lo k nrem : Nat} (hn : lo + nrem≤a₀.size) (h1 : 1≤k) (hk : k < nrem) (hs : SegR κ (arrOf st) lo (lo + (k + 1))) {Q : Option Nat→SortSt→Prop}
  (h : ∀ n xs,1≤n→n≤nrem→xs.Perm (arrOf st)→Seg κ xs lo (lo + n)→Out (arrOf st) xs lo (lo + nrem)→Q (some n) (setArr st xs)) : wpS (model prog w) A E s (downL lo k nrem) Q st:=by
 unfold downL
 refine wpS_bind (wpS_lift (wpAny_rule ⟨rfl,?_⟩))
 refine wpS_bind (wpS_mono (wpS_forRange
  (I:=fun i c st'=>∃ e xs,c = (none,i,e)∧st' = setArr st xs∧i≤nrem∧xs.Perm (arrOf st)∧Out (arrOf st) xs lo (lo + nrem)∧SegR κ xs lo (lo + i)∧e + 1≤i∧∀ p,lo + i - (e + 1)≤p→p < lo + i→KK κ xs p = KK κ xs (lo + i - 1))
  (Q:=fun c st'=>∃ e i xs,c = (none,i,e)∧st' = setArr st xs∧k + 1≤i∧i≤nrem∧xs.Perm (arrOf st)∧Out (arrOf st) xs lo (lo + nrem)∧SegR κ xs lo (lo + i)∧e + 1≤i∧∀ p,lo + i - (e + 1)≤p→p < lo + i→KK κ xs p = KK κ xs (lo + i - 1)) ?st1 ?fi1 ?in1) ?po1)
 case in1=>exact ⟨0,arrOf st,rfl,rfl,by lia,Array.Perm.refl _,Out.refl _ _ _,hs,by lia,fun p h2 h3=>by rw [show p = lo + (k + 1) - 1 by lia]⟩
 case fi1 =>
  intro c st' zP2
  refine bc fun ζ=>?_
  obtain ⟨e,xs,rfl,rfl,h2,h3,h4,h5,h6,h7⟩:=zP2
  apply ζ;clear ζ
  exact ⟨e,_,xs,rfl,rfl,by lia,h2,h3,h4,h5,h6,h7⟩
 case st1 =>
  intro i c st' hi1 hi2 zP5
  refine bc fun ζ=>?_
  obtain ⟨e,xs,rfl,rfl,h2,h3,h4,h5,h6,h7⟩:=zP5
  apply ζ;clear ζ
  have hB' : SB kd a₀ (setArr st xs):=hB.arr h3
  have hsz : xs.size = a₀.size:=hB'.size
  dsimp only
  refine wpS_bind (lt_at hL hB' h0 (by lia) (by lia) ?_)
  dsimp only
  cases hb : κ.blt (KK κ (arrOf (setArr st xs)) (lo + i)) (KK κ (arrOf (setArr st xs)) (lo + i - 1))
  case true =>
   rw [if_pos rfl]
   have hd : κ.kle (KK κ xs (lo + i)) (KK κ xs (lo + i - 1)):=KeyOrd.kle_of_klt hb
   by_cases he : e > 0
   ·rw [if_pos he,reverseSlice'_eq]
    have ke:=keep_eq (κ:=κ) (xs:=xs) (i:=lo + i - (e + 1)) (j:=lo + i) (by lia) h7
    refine wpS_bind (wpS_modify (wpS_pure ⟨0,mirror xs (lo + i - (e + 1)) (lo + i) ((lo + i - (lo + i - (e + 1))) / 2),rfl,rfl,by lia,(mirror_perm _ _ _ _).trans h3,h4.trans ((out_mirror (by lia)).mono (by lia) (by lia)),?_,by lia,fun p h8 h9=>by rw [show p = lo + (i + 1) - 1 by lia]⟩))
    have:=segR_succ h5 (by lia) hd
    exact fun p q a b c=>by rw [ke,ke]; exact this p q a b c
   ·rw [if_neg he]
    exact wpS_pure ⟨0,xs,rfl,rfl,by lia,h3,h4,segR_succ h5 (by lia) hd,by lia,fun p h8 h9=>by rw [show p = lo + (i + 1) - 1 by lia]⟩
  case false =>
   rw [if_neg (by decide)]
   refine wpS_bind (lt_at hL hB' h0 (by lia) (by lia) ?_)
   dsimp only
   cases hb2 : κ.blt (KK κ (arrOf (setArr st xs)) (lo + i - 1)) (KK κ (arrOf (setArr st xs)) (lo + i))
   case true =>
    rw [if_pos rfl]
    exact wpS_pure ⟨e,i,xs,rfl,rfl,hi1,h2,h3,h4,h5,h6,h7⟩
   case false =>
    rw [if_neg (by decide)]
    have heq : KK κ xs (lo + i - 1) = KK κ xs (lo + i):=κ.total _ _ hb2 hb
    refine wpS_pure ⟨e + 1,xs,rfl,rfl,by lia,h3,h4,segR_succ h5 (by lia) hb2,by lia,fun p h8 h9=>?_⟩
    rw [show lo + (i + 1) - 1 = lo + i by lia]
    by_cases hp : p = lo + i
    ·rw [hp]
    ·rw [h7 p (by lia) (by lia),heq]
 case po1 =>
  intro c st' zP2
  refine bc fun ζ=>?_
  obtain ⟨e,i,xs,rfl,rfl,hki,h2,h3,h4,h5,h6,h7⟩:=zP2
  apply ζ;clear ζ
  have hB' : SB kd a₀ (setArr st xs):=hB.arr h3
  have hsz : xs.size = a₀.size:=hB'.size
  dsimp only
  have last : ∀ ys,ys.Perm xs→(∀ p,KK κ ys p = KK κ xs p)→Out xs ys lo (lo + nrem)→wpS (model prog w) A E s (reverseSlice' lo (lo + i) >>= fun _=>upL lo i nrem) Q (setArr st ys):=fun ys hp hk hO=>by
   rw [reverseSlice'_eq]
   have hszy : ys.size = a₀.size:=hp.size_eq.trans hsz
   refine wpS_bind (wpS_modify ?_)
   have hB2 : SB kd a₀ (setArr st (mirror ys lo (lo + i) ((lo + i - lo) / 2))):=hB.arr ((mirror_perm _ _ _ _).trans (hp.trans h3))
   refine up_ok hL h0 hB2 hn (by lia) h2 (fun p q a b c=>?_) fun n h8 h9 h10=>?_
   ·show κ.kle (KK κ (mirror ys lo (lo + i) ((lo + i - lo) / 2)) p) (KK κ (mirror ys lo (lo + i) ((lo + i - lo) / 2)) q)
    rw [KK_mirror (by lia),KK_mirror (by lia),if_pos (by lia),if_pos (by lia),hk,hk]
    exact h5 _ _ (by lia) (by lia) (by lia)
   ·exact h n _ (by lia) h9 ((mirror_perm _ _ _ _).trans (hp.trans h3)) h10 ((h4.trans hO).trans ((out_mirror (by lia)).mono (by lia) (by lia)))
  by_cases he : e > 0
  ·rw [if_pos he]
   refine wpS_bind ?_
   rw [reverseSlice'_eq]
   refine wpS_modify ?_
   exact last (mirror xs (lo + i - (e + 1)) (lo + i) ((lo + i - (lo + i - (e + 1))) / 2)) (mirror_perm _ _ _ _) (keep_eq (xs:=xs) (by lia) h7) ((out_mirror (xs:=xs) (by lia)).mono (by lia) (by lia))
  ·rw [if_neg he]
   exact last xs (Array.Perm.refl _) (fun _=>rfl) (Out.refl _ _ _)
theorem run_ok (hL : LtOk (model prog w) A E s κ kd) (h0 : KeysOf κ a₀) {st : SortSt} (hB : SB kd a₀ st) {lo nrem : Nat} (hn : lo + nrem≤a₀.size) (h1 : 1≤nrem) {Q : Option Nat→SortSt→Prop}
  (h : ∀ n xs,1≤n→n≤nrem→xs.Perm (arrOf st)→Seg κ xs lo (lo + n)→Out (arrOf st) xs lo (lo + nrem)→Q (some n) (setArr st xs)) : wpS (model prog w) A E s (countRun' lo nrem) Q st:=by
 rw [countRun'_eq]
 refine wpS_bind (wpS_mono (wpS_forRange (I:=fun i c st'=>c = (none,i)∧st' = st∧i≤nrem∧Seg κ (arrOf st) lo (lo + i))
  (Q:=fun c st'=>∃ n,c = (none,n)∧st' = st∧1≤n∧n≤nrem∧Seg κ (arrOf st) lo (lo + n)∧(n = nrem∨κ.klt (KK κ (arrOf st) (lo + n)) (KK κ (arrOf st) (lo + n - 1)))) ?st1 ?fi1 ⟨rfl,rfl,h1,seg_one⟩) ?po1)
 case fi1 =>
  intro c st' zP2
  refine bc fun ζ=>?_
  obtain ⟨rfl,rfl,hle,hsg⟩:=zP2
  apply ζ;clear ζ
  exact ⟨_,rfl,rfl,by lia,hle,hsg,.inl (by lia)⟩
 case st1 =>
  intro i c st' hi1 hi2 zP5
  refine bc fun ζ=>?_
  obtain ⟨rfl,rfl,hle,hsg⟩:=zP5
  apply ζ;clear ζ
  dsimp only
  refine wpS_bind (lt_at hL hB h0 (by lia) (by lia) ?_)
  dsimp only
  cases hb : κ.blt (KK κ (arrOf st') (lo + i)) (KK κ (arrOf st') (lo + i - 1))
  case true =>
   rw [if_pos rfl]
   exact wpS_pure ⟨i,rfl,rfl,hi1,hle,hsg,.inr hb⟩
  case false =>
   rw [if_neg (by decide)]
   exact wpS_pure ⟨rfl,rfl,by lia,seg_succ hsg hi1 hb⟩
 case po1 =>
  intro c st' zP2
  refine bc fun ζ=>?_
  obtain ⟨n,rfl,rfl,hn1,hle,hsg,hstop⟩:=zP2
  apply ζ;clear ζ
  dsimp only
  by_cases hnn : n = nrem
  ·rw [if_pos (by simpa using hnn)]
   exact wpS_pure (h n _ hn1 hle (Array.Perm.refl _) hsg (Out.refl _ _ _))
  ·rw [if_neg (by simpa using hnn)]
   have hlt : κ.klt (KK κ (arrOf st') (lo + n)) (KK κ (arrOf st') (lo + n - 1)):=hstop.resolve_left hnn
   by_cases hn2 : n > 1
   ·rw [if_pos hn2]
    refine wpS_bind (lt_at hL hB h0 (by lia) (by lia) ?_)
    dsimp only
    cases hb : κ.blt (KK κ (arrOf st') lo) (KK κ (arrOf st') (lo + n - 1))
    case true =>
     rw [if_pos rfl]
     exact wpS_pure (h n _ hn1 hle (Array.Perm.refl _) hsg (Out.refl _ _ _))
    case false =>
     rw [if_neg (by decide)]
     have hsz:=hB.size
     have alle : ∀ p,lo≤p→p < lo + n→KK κ (arrOf st') p = KK κ (arrOf st') (lo + n - 1):=fun p h2 h3 =>
      KeyOrd.kle_antisymm (hsg p _ h2 (by lia) (by lia)) (KeyOrd.kle_trans hb (hsg lo p (by lia) h2 h3))
     have ke:=keep_eq (κ:=κ) (xs:=arrOf st') (i:=lo) (j:=lo + n) (by lia) alle
     refine wpS_bind ?_
     rw [reverseSlice'_eq]
     refine wpS_modify ?_
     have hB2 : SB kd a₀ (setArr st' (mirror (arrOf st') lo (lo + n) ((lo + n - lo) / 2))):=hB.arr (mirror_perm _ _ _ _)
     refine down_ok hL h0 hB2 hn hn1 (by lia) ?_ fun m xs h2 h3 h4 h5 h6=>?_
     ·have : SegR κ (arrOf st') lo (lo + (n + 1)):=segR_succ (fun p q a b c=>by rw [alle p a (by lia),alle q (by lia) c]; exact KeyOrd.kle_refl _) hn1 (KeyOrd.kle_of_klt hlt)
      intro p q a b c
      show κ.kle (KK κ (mirror (arrOf st') lo (lo + n) ((lo + n - lo) / 2)) q) (KK κ (mirror (arrOf st') lo (lo + n) ((lo + n - lo) / 2)) p)
      rw [ke,ke]
      exact this p q a b c
     ·exact h m xs h2 h3 (h4.trans (mirror_perm _ _ _ _)) h5 (((out_mirror (by lia)).mono (by lia) (by lia)).trans h6)
   ·rw [if_neg hn2]
    have : n = 1:=by lia
    subst this
    refine down_ok hL h0 hB hn hn1 (by lia) ?_ h
    exact segR_succ (fun p q a b c=>by
     have : p = q:=by lia
     subst this
     exact KeyOrd.kle_refl _) hn1 (KeyOrd.kle_of_klt hlt)
end
variable {M : Model} {A : Around} {E : Value→Shared→Prop} {s : Shared} {κ : KeyKind} {kd : SortKind} {a₀ : Array Keyed}
variable {M : Model} {A : Around} {E : Value→Shared→Prop} {s : Shared} {κ : KeyKind} {kd : SortKind} {a₀ : Array Keyed}
noncomputable def kp (κ : KeyKind) (p : Keyed) : κ.α:=(κ.keyOf p.1).getD κ.dflt
noncomputable def le (κ : KeyKind) (x y : Keyed) : Prop:=κ.kle (kp κ x) (kp κ y)
theorem cut_end {a : Array Keyed} {i : Nat} : (a.extract i a.size).toList = a.toList.drop i:=by
 rw [Array.toList_extract,List.extract_eq_take_drop,List.take_of_length_le]
 rw [List.length_drop,Array.length_toList]
 exact Nat.le_refl _
theorem kp_of {xs : Array Keyed} (hk : KeysOf κ xs) {i : Nat} (h : i < xs.size) : κ.keyOf (xs[i]).1 = some (kp κ xs[i])∧KK κ xs i = kp κ xs[i]:=by
 refine bc fun ζ=>?_
 obtain ⟨p,e,k⟩:=key_at hk h
 rw [getElem?_pos xs i h] at e
 cases e
 apply ζ;clear ζ
 have : KK κ xs i = kp κ xs[i]:=by
  unfold kp
  rw [k]
  rfl
 exact ⟨by rw [k,this],this⟩
variable {A : Around} {E : Value→Shared→Prop} {s : Shared} {κ : KeyKind} {kd : SortKind} {a₀ : Array Keyed} {prog : Program} {w : World}
section
variable {a b : Array Keyed}
end
variable {A : Around} {E : Value→Shared→Prop} {s : Shared} {κ : KeyKind} {kd : SortKind} {a₀ : Array Keyed} {prog : Program} {w : World}
section
variable {a b : Array Keyed}
end
variable {A : Around} {E : Value→Shared→Prop} {s : Shared} {κ : KeyKind} {kd : SortKind} {a₀ : Array Keyed} {prog : Program} {w : World}
theorem ext_get {xs : Array Keyed} {i j n : Nat} (hj : j≤xs.size) (h : n < (xs.extract i j).toList.length) : ∃ hn : i + n < xs.size,i + n < j∧(xs.extract i j).toList[n] = xs[i + n]:=by
 rw [Array.length_toList,Array.size_extract] at h
 refine ⟨by lia,by lia,?_⟩
 simp
theorem seg_list {xs : Array Keyed} (hk : KeysOf κ xs) {i j : Nat} (hj : j≤xs.size) : Seg κ xs i j↔(xs.extract i j).toList.Pairwise (le κ):=by
 rw [List.pairwise_iff_getElem]
 constructor
 ·intro h p q hp hq hpq
  obtain ⟨p1,p2,ep⟩:=ext_get hj hp
  obtain ⟨q1,q2,eq⟩:=ext_get hj hq
  rw [ep,eq]
  have:=h (i + p) (i + q) (by lia) (by lia) q2
  rw [(kp_of hk p1).2,(kp_of hk q1).2] at this
  exact this
 ·intro h p q h1 h2 h3
  by_cases e : p = q
  ·subst e; exact KeyOrd.kle_refl _
  have hl : (xs.extract i j).toList.length = j - i:=by rw [Array.length_toList,Array.size_extract]; lia
  obtain ⟨p1,p2,ep⟩:=ext_get (i:=i) (n:=p - i) hj (by lia)
  obtain ⟨q1,q2,eq⟩:=ext_get (i:=i) (n:=q - i) hj (by lia)
  have:=h (p - i) (q - i) (by lia) (by lia) (by lia)
  rw [ep,eq] at this
  have e1 : KK κ xs p = kp κ (xs[i + (p - i)]):=(congrArg (KK κ xs) (show p = i + (p - i) by lia)).trans (kp_of hk p1).2
  have e2 : KK κ xs q = kp κ (xs[i + (q - i)]):=(congrArg (KK κ xs) (show q = i + (q - i) by lia)).trans (kp_of hk q1).2
  rw [e1,e2]
  exact this
variable {A : Around} {E : Value→Shared→Prop} {s : Shared} {κ : KeyKind} {kd : SortKind} {a₀ : Array Keyed} {prog : Program} {w : World}
variable {A : Around} {E : Value→Shared→Prop} {s : Shared} {κ : KeyKind} {kd : SortKind} {prog : Program} {w : World}
theorem done_one {vs : List Value} (h : vs.toArray.size < 2) : Seg κ (pairsOf vs) 0 (pairsOf vs).size:=fun p q _ h2 h3=>by
 rw [pairsOf_size] at h3
 simp at h
 have : p = q:=by lia
 subst this
 exact KeyOrd.kle_refl _
variable {A : Around} {E : Value→Shared→Prop} {s : Shared} {κ : KeyKind} {kd : SortKind} {a₀ : Array Keyed} {prog : Program} {w : World}
noncomputable def Fi (κ : KeyKind) (kd : SortKind) (a₀ : Array Keyed) (st : SortSt) : Prop:=SB kd a₀ st∧Seg κ (arrOf st) 0 a₀.size∧(pendingOf st).size≤1
theorem runs_short (hL : LtOk (model prog w) A E s κ kd) (h0 : KeysOf κ a₀) {st : SortSt} (hB : SB kd a₀ st) (hp : pendingOf st = #[]) (h1 : 1≤a₀.size) (h64 : a₀.size < 64) {Q : Unit→SortSt→Prop}
  (h : ∀ st',SB kd a₀ st'→Seg κ (arrOf st') 0 a₀.size→Q () st') : wpS (model prog w) A E s sortRuns' Q st:=by
 rw [sortRuns'_eq]
 refine wpS_bind (wpS_get ?_)
 try dsimp only
 rw [hB.size]
 have em : minRun' a₀.size a₀.size 0 = a₀.size:=by
  obtain ⟨m,e⟩ : ∃ m,a₀.size = m + 1:=⟨a₀.size - 1,by lia⟩
  rw [e] at h64 ⊢
  rw [minRun'_succ,if_pos h64,Nat.add_zero]
 rw [em]
 refine wpS_bind (wpS_mono (wpS_forRange (I:=fun x c st'=>(x = 0∧c = (none,0)∧SB kd a₀ st'∧pendingOf st' = #[])∨(1≤x∧c = (none,a₀.size)∧Fi κ kd a₀ st'))
  (Q:=fun c st'=>c = (none,a₀.size)∧Fi κ kd a₀ st') ?st1 ?fi1 (.inl ⟨rfl,rfl,hB,hp⟩)) ?po1)
 case fi1 =>
  rintro c st' (⟨hx,_⟩ | ⟨_,rfl,F⟩)
  ·lia
  ·exact ⟨rfl,F⟩
 case st1 =>
  rintro x c st' _ hx (⟨rfl,rfl,hB,hp⟩ | ⟨hx1,rfl,F⟩)
  ·try dsimp only
   rw [if_neg (by lia)]
   refine wpS_bind (run_ok hL h0 hB (by lia) (by lia) fun n xs hn1 hn2 hpm hsg hout=>?_)
   try dsimp only
   have fin : ∀ (k : Nat) (ys : Array Keyed),k = a₀.size→ys.Perm (arrOf st')→Seg κ ys 0 (0 + k)→(fun c st'=>(0 + 1 = 0∧c = (none,0)∧SB kd a₀ st'∧pendingOf st' = #[])∨(1≤0 + 1∧c = (none,a₀.size)∧Fi κ kd a₀ st')) ((none : Option Unit),0 + k) (setPending (setArr st' ys) ((pendingOf (setArr st' ys)).push (0,k,0))):=fun k ys hk hpm hsg=>by
    subst hk
    refine .inr ⟨by lia,by rw [Nat.zero_add],(hB.arr hpm).pend _,by rw [Nat.zero_add] at hsg; exact hsg,?_⟩
    show ((pendingOf st').push _).size≤1
    rw [hp]
    exact Nat.le_refl 1
   by_cases hmr : n < a₀.size
   ·rw [if_pos hmr]
    refine wpS_bind (wpS_lift (wpAny_rule ⟨rfl,?_⟩))
    have hB2 : SB kd a₀ (setArr st' xs):=hB.arr hpm
    refine wpS_bind (bin_ok hL h0 hB2 (by lia) hn1 (by lia) hsg fun ys hp2 hs2 ho2=>?_)
    rw [if_neg (by decide)]
    show wpS _ _ _ _ _ _ (setArr st' ys)
    refine wpS_bind (wpS_get ?_)
    split
    ·rename_i u m c hb
     have : (pendingOf st').back? = some (u,m,c):=hb
     rw [hp] at this
     cases this
    ·exact wpS_bind (wpS_modify (wpS_pure (fin _ ys (by lia) (hp2.trans hpm) hs2)))
   ·rw [if_neg hmr]
    refine wpS_bind (wpS_get ?_)
    split
    ·rename_i u m c hb
     have : (pendingOf st').back? = some (u,m,c):=hb
     rw [hp] at this
     cases this
    ·exact wpS_bind (wpS_modify (wpS_pure (fin _ xs (by lia) hpm hsg)))
  ·try dsimp only
   rw [if_pos (Nat.le_refl _)]
   exact wpS_pure ⟨rfl,F⟩
 case po1 =>
  intro c st' zP2
  obtain ⟨rfl,F⟩:=zP2
  try dsimp only
  refine wpS_bind (wpS_mono (wpS_forRange (I:=fun _ c st'=>c = (none,())∧Fi κ kd a₀ st') (Q:=fun c st'=>c = (none,())∧Fi κ kd a₀ st') ?st2 (fun c st' z=>z) ⟨rfl,F⟩) ?po2)
  case st2 =>
   intro x c st' _ hx zP5
   obtain ⟨rfl,F⟩:=zP5
   try dsimp only
   refine wpS_bind (wpS_get ?_)
   rw [if_pos F.2.2]
   exact wpS_pure ⟨rfl,F⟩
  case po2 =>
   intro c st' zP2
   obtain ⟨rfl,F⟩:=zP2
   exact wpS_pure (h st' F.1 F.2.1)
variable {A : Around} {E : Value→Shared→Prop} {s : Shared} {κ : KeyKind} {kd : SortKind} {prog : Program} {w : World}
theorem sort_short {a : Addr} {vs : List Value} {n : Nat} {R : Fin→Shared→Prop} (ho : s.heap.get? a = some (seqObj "list" vs.toArray n)) (hn : vs.length≤63)
  (hk : KeysOf κ (pairsOf vs)) (hkk : ∀ h',(∀ b o,b≠a→s.heap.get? b = some o→h'.get? b = some o)→2≤vs.length→∀ {Q : SortKind→Shared→Prop},Q kd { s with heap:=h' }→wpAny (model prog w) A (keyKind' vs.toArray) Q E { s with heap:=h' })
  (hL : ∀ h',(∀ b o,b≠a→s.heap.get? b = some o→h'.get? b = some o)→LtOk (model prog w) A E { s with heap:=h' } κ kd)
  (h : ∀ st' : SortSt,(arrOf st').Perm (pairsOf vs)→Seg κ (arrOf st') 0 (pairsOf vs).size→R (.done (.ret .none)) { s with heap:=sortedHeap s.heap a vs ((arrOf st').map (·.2)) }) :
  wpAny (model prog w) A (Builtin.«list.sort» ⟨[.ref a],[]⟩) R E s:=by
 have lt:=Heap.lt_size ho
 have fits : sizeLine = sizeLine:=rfl
 rw [list_sort_plain]
 refine wpAny_bind (listItems_at ho rfl (wpAny_bind (listUpdate_at ho rfl ?_ (hsz:=by simp; exact Nat.le_trans hn (by decide)) (hsz2:=Nat.zero_le _))))
 obtain ⟨ep, h1⟩ : ∃ ep, (s.heap.update a (Obj.mapSeq fun _=>#[])).get? a = some (seqObj "list" #[] ep):=⟨_, get?_update_seq ho _⟩
 refine wpAny_bind (seqEpoch_at h1 rfl (wpAny_bind (wpAny_newTuple (wpAny_bind (wpAny_newList (wpAny_holding ?_))))))
 have h6 : (((s.heap.update a (Obj.mapSeq fun _=>#[])).push (seqObj "tuple" vs.toArray 0)).push (seqObj "list" #[] 0)).get? a = some (seqObj "list" #[] ep):=by
  have z1 : (s.heap.update a (Obj.mapSeq fun _=>#[])).objs.size = s.heap.objs.size:=Heap.size_update _ _ _
  rw [Heap.get?_push_ne _ _ _ (by rw [size_push',z1]; exact Nat.ne_of_lt (Nat.lt_succ_of_lt lt)),Heap.get?_push_ne _ _ _ (by rw [z1]; exact Nat.ne_of_lt lt)]
  exact h1
 have ext : ∀ b o, b≠a→s.heap.get? b = some o→(((s.heap.update a (Obj.mapSeq fun _=>#[])).push (seqObj "tuple" vs.toArray 0)).push (seqObj "list" #[] 0)).get? b = some o:=fun b o hb e=>by
  have z1 : (s.heap.update a (Obj.mapSeq fun _=>#[])).objs.size = s.heap.objs.size:=Heap.size_update _ _ _
  have lb:=Heap.lt_size e
  rw [Heap.get?_push_ne _ _ _ (by rw [size_push',z1]; exact Nat.ne_of_lt (Nat.lt_succ_of_lt lb)),Heap.get?_push_ne _ _ _ (by rw [z1]; exact Nat.ne_of_lt lb),Heap.get?_update_ne _ _ _ _ hb]
  exact e
 show wpAny (model prog w) A _ R E { s with heap:=(((s.heap.update a (Obj.mapSeq fun _=>#[])).push (seqObj "tuple" vs.toArray 0)).push (seqObj "list" #[] 0)) }
 have hkk':=hkk _ ext
 have hL':=hL _ ext
 have fin : ∀ st' : SortSt,failedOf st' = none→(arrOf st').Perm (pairsOf vs)→Seg κ (arrOf st') 0 (pairsOf vs).size →
   wpAny (model prog w) A (do
    let d ← seqEpoch a
    let touched:=d != ep
    Builtin.List.listUpdate (Value.ref a) fun _=>Array.map (fun x=>x.snd) (arrOf st')
    if let some e:=failedOf st' then
     rule "list.sort.comparison-raised"
     throw e
    if touched then
     rule "list.sort.modified"
     raiseError "ValueError" "list modified during sort"
    ret .none) R E { s with heap:=(((s.heap.update a (Obj.mapSeq fun _=>#[])).push (seqObj "tuple" vs.toArray 0)).push (seqObj "list" #[] 0)) }:=fun st' hf hp hs=>by
  refine wpAny_bind (seqEpoch_at h6 rfl ?_)
  have hz : (Array.map (fun x=>x.snd) (arrOf st')).size = vs.length:=by rw [Array.size_map,hp.size_eq,pairsOf_size]
  refine wpAny_bind (listUpdate_at h6 rfl ?_ (hsz:=Nat.zero_le _) (hsz2:=by rw [hz]; exact Nat.le_trans hn (by decide)))
  rw [hf]
  simp only [bne_self_eq_false,Bool.false_eq_true,if_false]
  exact wpAny_pure (h st' hp hs)
 by_cases h2 : vs.toArray.size < 2
 ·rw [if_pos h2,if_pos h2]
  refine wpAny_bind (wpAny_pure ?_)
  refine wpAny_bind (show wpAny (model prog w) A ((pure () : StateT SortSt Sem Unit).run (SortSt.mk' general' (vs.toArray.zip vs.toArray) #[] 7 none)) _ E _ from ?_)
  rw [StateT.run_pure]
  refine wpAny_pure ?_
  exact fin (SortSt.mk' general' (vs.toArray.zip vs.toArray) #[] 7 none) rfl (Array.Perm.refl _) (done_one h2)
 ·rw [if_neg h2,if_neg h2]
  have hl : 2≤vs.length:=by simp at h2; lia
  refine wpAny_bind (hkk' hl ?_)
  refine wpAny_bind (wpAny_mono (runs_short (κ:=κ) hL' hk (st:=SortSt.mk' kd (vs.toArray.zip vs.toArray) #[] 7 none) ⟨Array.Perm.refl _,rfl,rfl⟩ rfl (by rw [pairsOf_size]; lia) (by rw [pairsOf_size]; lia)
   (Q:=fun _ st'=>(arrOf st').Perm (pairsOf vs)∧failedOf st' = none∧Seg κ (arrOf st') 0 (pairsOf vs).size) fun st' sb sg=>⟨sb.perm,sb.failed,sg⟩) ?_ fun _ _ e=>e)
  intro zP0 s' zP2
  refine bc fun ζ=>?_
  obtain ⟨⟨⟩,st'⟩:=zP0
  obtain ⟨rfl,hp,hf,hs⟩:=zP2
  exact ζ (fin st' hf hp hs)
end _t
namespace Tk
open PySem PySem.W PyProof.Rows
section
variable {cmp : Nat→Nat→(Bool→Shared→Prop)→Shared→Prop} {s : Shared} {lt : Nat→Nat→Bool} {n pos : Nat}
end
section
variable {A : Around} {E : Value→Shared→Prop} {s : Shared} {kd : SortKind} {prog : Program} {w : World} {lt : Nat→Nat→Bool} {pos : Nat} {vs : List Value} {v : Value}
end
end Tk
namespace _d
noncomputable def lx : List Int→List Int→Bool
 | [],[]=>false
 | [],_ :: _=>true
 | _ :: _,[]=>false
 | a :: x,b :: y=>if a = b then lx x y else decide (a < b)
theorem lx_irrefl : ∀ a,lx a a = false
 | []=>rfl
 | a :: x=>by rw [lx,if_pos rfl,lx_irrefl x]
theorem lx_trans : ∀ a b c,lx a b = true→lx b c = true→lx a c = true
 | [],[],_,h,_=>by cases h
 | [],_ :: _,[],_,h=>by cases h
 | [],_ :: _,_ :: _,_,_=>rfl
 | _ :: _,[],_,h,_=>by cases h
 | _ :: _,_ :: _,[],_,h=>by cases h
 | a :: x,b :: y,c :: z,h1,h2=>by
  rw [lx] at h1 h2 ⊢
  by_cases e1 : a = b
  ·subst e1
   rw [if_pos rfl] at h1
   by_cases e2 : a = c
   ·subst e2; rw [if_pos rfl] at h2 ⊢; exact lx_trans x y z h1 h2
   ·rw [if_neg e2] at h2 ⊢; exact h2
  ·rw [if_neg e1] at h1
   have h1:=of_decide_eq_true h1
   by_cases e2 : b = c
   ·subst e2; rw [if_neg e1]; exact decide_eq_true h1
   ·rw [if_neg e2] at h2
    have h2:=of_decide_eq_true h2
    rw [if_neg (by lia)]
    exact decide_eq_true (by lia)
theorem lx_total : ∀ a b,lx a b = false→lx b a = false→a = b
 | [],[],_,_=>rfl
 | [],_ :: _,h,_=>by cases h
 | _ :: _,[],_,h=>by cases h
 | a :: x,b :: y,h1,h2=>by
  rw [lx] at h1 h2
  by_cases e : a = b
  ·subst e
   rw [if_pos rfl] at h1 h2
   rw [lx_total x y h1 h2]
  ·rw [if_neg e] at h1
   rw [if_neg (fun z=>e z.symm)] at h2
   have h1:=of_decide_eq_false h1
   have h2:=of_decide_eq_false h2
   lia
theorem lx_neg (a b c : List Int) (h : lx a c = true) : lx a b = true∨lx b c = true:=by
 by_cases h1 : lx a b = true
 ·exact .inl h1
 ·refine .inr ?_
  have h1' : lx a b = false:=by simpa using h1
  by_cases h2 : lx b a = true
  ·exact lx_trans b a c h2 h
  ·have:=lx_total a b h1' (by simpa using h2)
   subst this
   exact h
noncomputable def ins {α : Type} (lt : α→α→Bool) (x : α) : List α→List α
 | []=>[x]
 | y :: l=>if lt y x then y :: ins lt x l else x :: y :: l
noncomputable def isort {α : Type} (lt : α→α→Bool) : List α→List α
 | []=>[]
 | x :: l=>ins lt x (isort lt l)
noncomputable def tupsD : List Dat→Option (List (List Int))
 | []=>some []
 | .tup ds :: r=>(match intsD ds with
  | some ns=>if ns.isEmpty then none else (tupsD r).map fun nss=>ns :: nss
  | none=>none)
 | _=>none
noncomputable def tupN (ns : List Int) : Dat:=.tup (ns.map .int)
theorem ins_perm {α : Type} (lt : α→α→Bool) (x : α) : ∀ l,(ins lt x l).Perm (x :: l)
 | []=>List.Perm.refl _
 | y :: l=>by
  rw [ins]
  split
  ·exact ((ins_perm lt x l).cons y).trans (List.Perm.swap x y l)
  ·exact List.Perm.refl _
theorem isort_perm {α : Type} (lt : α→α→Bool) : ∀ l,(isort lt l).Perm l
 | []=>List.Perm.refl _
 | x :: l=>(ins_perm lt x _).trans ((isort_perm lt l).cons x)
theorem ins_sorted {α : Type} {lt : α→α→Bool} (tr : ∀ a b c,lt b a = false→lt c b = false→lt c a = false) (as : ∀ a b,lt a b = true→lt b a = false) (x : α) : ∀ l : List α,l.Pairwise (fun a b=>lt b a = false)→(ins lt x l).Pairwise (fun a b=>lt b a = false)
 | [],_=>by simp [ins]
 | y :: l,h=>by
  rw [ins]
  obtain ⟨h1,h2⟩:=List.pairwise_cons.mp h
  split
  ·rename_i hl
   refine List.pairwise_cons.mpr ⟨fun z hz=>?_,ins_sorted tr as x l h2⟩
   rcases List.mem_cons.mp ((ins_perm lt x l).mem_iff.mp hz) with rfl | hz
   ·exact as _ _ hl
   ·exact h1 z hz
  ·rename_i hl
   have hl' : lt y x = false:=by simpa using hl
   refine List.pairwise_cons.mpr ⟨fun z hz=>?_,h⟩
   rcases List.mem_cons.mp hz with rfl | hz
   ·exact hl'
   ·exact tr _ _ _ hl' (h1 z hz)
theorem isort_sorted {α : Type} {lt : α→α→Bool} (tr : ∀ a b c,lt b a = false→lt c b = false→lt c a = false) (as : ∀ a b,lt a b = true→lt b a = false) : ∀ l : List α,(isort lt l).Pairwise (fun a b=>lt b a = false)
 | []=>List.Pairwise.nil
 | x :: l=>ins_sorted tr as x _ (isort_sorted tr as l)
theorem sorted_uniq {α : Type} {lt : α→α→Bool} (tot : ∀ a b,lt a b = false→lt b a = false→a = b) : ∀ {l m : List α},l.Perm m→l.Pairwise (fun a b=>lt b a = false)→m.Pairwise (fun a b=>lt b a = false)→l = m
 | [],m,p,_,_=>(List.nil_perm.mp p).symm
 | x :: l,[],p,_,_=>by have:=p.length_eq; simp at this
 | x :: l,y :: m,p,h1,h2=>by
  refine bc fun ζ=>?_
  obtain ⟨a1,a2⟩:=List.pairwise_cons.mp h1
  obtain ⟨b1,b2⟩:=List.pairwise_cons.mp h2
  have e : x = y:=by
   rcases List.mem_cons.mp (p.mem_iff.mp List.mem_cons_self) with hx | hx
   ·exact hx
   ·rcases List.mem_cons.mp (p.mem_iff.mpr (List.mem_cons_self (a:=y) (l:=m))) with hy | hy
    ·exact hy.symm
    ·exact tot x y (b1 x hx) (a1 y hy)
  subst e
  apply ζ;clear ζ
  rw [sorted_uniq tot (List.Perm.cons_inv p) a2 b2]
end _d
namespace _r
open PySem PySem.Spec PyProof.Rows _l
noncomputable def lexOrd : KeyOrd:=⟨List Int,_d.lx,_d.lx_irrefl,_d.lx_trans,fun a b c h=>_d.lx_neg a b c h,_d.lx_total⟩
noncomputable def vints : List V→Option (List Int)
 | []=>some []
 | .int i :: r=>(vints r).map fun ns=>i :: ns
 | _=>none
theorem vints_map : ∀ ns : List Int,vints (ns.map V.int) = some ns
 | []=>rfl
 | n :: ns=>by rw [List.map_cons,vints,vints_map ns]; rfl
theorem vints_eq : ∀ {xs : List V} {ns : List Int},vints xs = some ns→xs = ns.map V.int
 | [],ns,h=>by cases h; rfl
 | .int i :: r,ns,h=>by
  unfold vints at h
  cases e : vints r with
  | none=>rw [e] at h; cases h
  | some ms=>rw [e] at h; cases h; rw [vints_eq e]; rfl
 | .non :: _,_,h=>by cases h
 | .bl _ :: _,_,h=>by cases h
 | .str _ :: _,_,h=>by cases h
 | .ref _ :: _,_,h=>by cases h
 | .byt _ :: _,_,h=>by cases h
 | .flt _ :: _,_,h=>by cases h
 | .ty _ :: _,_,h=>by cases h
noncomputable def tkey (H : Hp) : Value→Option (List Int)
 | .ref a=>(match H a with
  | some (.tup xs)=>vints xs
  | _=>none)
 | _=>none
noncomputable def tupKind (H : Hp) : KeyKind:={ lexOrd with keyOf:=tkey H,dflt:=([] : List Int) }
section
variable {prog : Program} {w : World} {A : Around} {E : Value→Shared→Prop} {s : Shared}
theorem lex_walk {fin : Bool} {Q : Bool→Shared→Prop} : ∀ {xs ys : List Value} {ks ms : List Int} (i : Nat),IntsAre xs ks→IntsAre ys ms→fin = decide (ks.length < ms.length)→Q (_d.lx ks ms) s →
  PySem.W.KatLex prog w A true fin Q (xs.zip ys) i s
 | _,_,_,_,i,.nil,.nil,hf,q=>by subst hf; exact q
 | _,_,_,_,i,.nil,.cons m u h',hf,q=>by subst hf; exact q
 | _,_,_,_,i,.cons k t h,.nil,hf,q=>by subst hf; exact q
 | _,_,_,_,i,.cons k t h,.cons m u h',hf,q=>by
  rw [List.zip_cons_cons]
  refine PySem.W.kat_cons (wpAny_eqBool_int ?_)
  rw [_d.lx] at q
  by_cases e : k = m
  ·rw [if_pos e] at q
   have : (k == m) = true:=by simpa using e
   rw [this]
   refine PySem.W.kat_yes (lex_walk (i + 1) h h' ?_ q)
   rw [hf]
   simp
  ·rw [if_neg e] at q
   have : (k == m) = false:=by simpa using e
   rw [this]
   refine PySem.W.kat_no ?_
   cases hb : (true && i == 0)
   ·exact PySem.W.kat_one _ _ (lt_int q)
   ·exact oneLt_int q
theorem lt_of_key {κ : KeyKind} {kd : SortKind} (h : ∀ (x y : Keyed) (a b : κ.α) {Q : Bool→Shared→Prop} {E : Value→Shared→Prop},κ.keyOf x.1 = some a→κ.keyOf y.1 = some b→Q (κ.blt a b) s→wpAny (model prog w) A (keyLt' kd x.1 y.1) Q E s) : _t.LtOk (model prog w) A E s κ kd:=fun x y a b st Q ha hb hk q=>by
 rw [lt'_eq]
 refine wpS_bind (wpS_get ?_)
 rw [hk]
 refine wpS_bind (wpS_lift (wpAny_attempt (h x y a b ha hb ⟨rfl,?_⟩)))
 exact wpS_pure q
end
noncomputable def bk : Value→V
 | .ref a=>.ref a
 | .int n _=>.int n
 | _=>.non
section
variable {X : Cx}
theorem pairs_mem {vs : List Value} {q : Keyed} (h : q∈(pairsOf vs).toList) : q.1 = q.2∧q.1∈vs:=by
 rw [pairsOf_toList] at h
 have hh : ∀ (l : List Value) (q : Keyed),q∈l.zip l→q.1 = q.2∧q.1∈l:=fun l=>by
  induction l with
  | nil=>intro q h; cases h
  | cons v l ih =>
   intro q h
   rw [List.zip_cons_cons] at h
   rcases List.mem_cons.mp h with rfl | h
   ·exact ⟨rfl,List.mem_cons_self⟩
   ·exact ⟨(ih q h).1,List.mem_cons_of_mem _ (ih q h).2⟩
 exact hh _ q h
theorem pairs_snd (vs : List Value) : (pairsOf vs).toList.map (·.2) = vs:=by
 rw [pairsOf_toList]
 have hh : ∀ l : List Value,(l.zip l).map (·.2) = l:=fun l=>by
  induction l with
  | nil=>rfl
  | cons v l ih=>rw [List.zip_cons_cons,List.map_cons,ih]
 exact hh vs
theorem out_of {κ : KeyKind} {vs : List Value} {st' : SortSt} (hk : KeysOf κ (pairsOf vs)) (hp : (arrOf st').Perm (pairsOf vs)) (hs : _t.Seg κ (arrOf st') 0 (pairsOf vs).size) :
  ∃ out : List Value,((arrOf st').map (·.2)) = out.toArray∧out.Perm vs∧out.Pairwise (fun u v=>∀ a b,κ.keyOf u = some a→κ.keyOf v = some b→κ.blt b a = false):=by
 have pm:=Array.perm_iff_toList_perm.mp hp
 refine ⟨(arrOf st').toList.map (·.2),Array.toList_inj.mp (by rw [Array.toList_map]),?_,?_⟩
 ·have:=pm.map (·.2)
  rwa [pairs_snd] at this
 ·have ka : KeysOf κ (arrOf st'):=fun q hq=>hk q (pm.mem_iff.mp hq)
  have hz : (arrOf st').size = (pairsOf vs).size:=hp.size_eq
  rw [← hz] at hs
  have:=(_t.seg_list ka (i:=0) (j:=(arrOf st').size) (Nat.le_refl _)).mp hs
  rw [_t.cut_end,List.drop_zero] at this
  rw [List.pairwise_map]
  refine List.Pairwise.imp_of_mem ?_ this
  intro x y hx hy hle a b ha hb
  have e1:=(pairs_mem (pm.mem_iff.mp hx)).1
  have e2:=(pairs_mem (pm.mem_iff.mp hy)).1
  have hle' : κ.blt (_t.kp κ y) (_t.kp κ x) = false:=hle
  unfold _t.kp at hle'
  rw [e1,e2,ha,hb] at hle'
  exact hle'
end
end _r
namespace _d
noncomputable def ePopAt (i : Nat) (e : FE) : FE:=fun ρ=>match ρ[i]? with
 | some (.ow (.lst _))=>(match e ρ with
  | some (.val (.int j),ρ1)=>(match ρ1[i]? with
   | some (.ow (.lst ds))=>if 0≤j∧j≤BIG then (match ds[j.toNat]? with
     | some d=>some (.val d,ρ1.set i (.ow (.lst (ds.eraseIdx j.toNat))))
     | none=>none) else none
   | _=>none)
  | _=>none)
 | _=>none
end _d
namespace _r
open PySem PySem.Spec PyProof.Rows _l
section
variable {X : Cx}
end
theorem reps_tups {H0 : Hp} : ∀ {zs : List V} (ks : V→List Int),(∀ z∈zs,∃ a : Addr,z = .ref a∧H0 a = some (.tup ((ks z).map V.int)))→Reps H0 zs ((zs.map ks).map _d.tupN)
 | [],ks,_=>.nil
 | z :: zs,ks,h=>by
  refine bc fun ζ=>?_
  obtain ⟨a,rfl,e⟩:=h z List.mem_cons_self
  apply ζ;clear ζ
  refine .cons (.tup e ?_) (reps_tups ks fun y hy=>h y (List.mem_cons_of_mem _ hy))
  have : ∀ ns : List Int,Reps H0 (ns.map V.int) (ns.map _d.Dat.int):=fun ns=>by
   induction ns with
   | nil=>exact .nil
   | cons n ns ih=>exact .cons (.int n) ih
  exact this _
section
variable {X : Cx} {a b c e : Expr} {f fa fb : _d.FE} {fs : List _d.FE} {p pos : Pos}
end
section
variable {X : Cx}
end
section
variable {σ : _l.St} {H : Hp} {Q : VK} {D : Ends}
theorem erase_take {α : Type} (l : List α) (i : Nat) : l.eraseIdx i = l.take i ++ l.drop (i + 1):=List.eraseIdx_eq_take_drop_succ l i
theorem reps_erase {H0 : Hp} {vs : List V} {ds : List _d.Dat} (i : Nat) (r : Reps H0 vs ds) : Reps H0 (vs.eraseIdx i) (ds.eraseIdx i):=by
 rw [erase_take,erase_take]
 exact (r.take i).append (r.drop (i + 1))
theorem r_popAt {K : PySem.W.Frag} {i : Nat} {f : _d.FE} (h : tD (_d.ePopAt i f) σ H Q) : tBM K "list" rPopAt (tVar i) (tDA [f]) σ H Q:=by
 refine bc fun ζ=>?_
 obtain ⟨H0,ρ,x,ρ',st,e,k⟩:=h
 unfold _d.ePopAt at e
 split at e
 case h_2=>cases e
 rename_i ds0 h0
 obtain ⟨a0,q0,n0,w0⟩:=st.ow i _ h0
 apply ζ;clear ζ
 refine ⟨_,q0,?_⟩
 refine bc fun ζ=>?_
 obtain ⟨xs0,y0,_⟩:=w0
 apply ζ;clear ζ
 refine ⟨.inl ⟨rfl,xs0,.inl (.inl y0)⟩,?_⟩
 refine bc fun ζ=>?_
 split at e
 case h_2=>cases e
 rename_i j ρ1 e1
 split at e
 case h_2=>cases e
 rename_i ds h2
 split at e
 case isFalse=>cases e
 rename_i hb
 split at e
 case h_2=>cases e
 rename_i d hd
 cases e
 apply ζ;clear ζ
 refine ⟨H0,ρ,[.val (.int j)],ρ1,st,by unfold _d.eAs; rw [e1]; rfl,fun vs H0' H' t r=>?_⟩
 cases r with
 | cons r rr =>
  cases rr
  cases Rep.isInt r
  refine bc fun ζ=>?_
  obtain ⟨a,q,n,w⟩:=t.st.ow i _ h2
  rw [q0] at q
  cases q
  obtain ⟨xs,y,rs⟩:=w
  obtain ⟨v,hv,rv⟩:=rs.get hd
  apply ζ;clear ζ
  have hlt : j.toNat < xs.length:=(List.getElem?_eq_some_iff.mp hv).1
  have hB : _d.BIG = 1000000000:=rfl
  refine ⟨a0,xs,j,j.toNat,v,rfl,rfl,y,by lia,by lia,?_,hv,?_⟩
  ·unfold seqIndex?
   simp only [show ¬ j < 0 by lia,if_false]
   rw [if_pos (by rw [decide_eq_true (show 0≤j by lia),decide_eq_true (show j < (xs.length : Int) by lia)]; rfl)]
  have ow : Owned σ ρ1 a0:=⟨i,_,h2,q0⟩
  have hi : i < ρ1.length:=(List.getElem?_eq_some_iff.mp h2).1
  refine k v H0' _ (t.trans ⟨t.st.write h2 q0 ⟨_,upd_same,reps_erase _ rs⟩,Stp.write ow,fun b z=>owned_write h2 z,fun j' z=>trivial⟩) rv
end
section
variable {X : Cx} {e : Expr} {f : _d.FE} {pos : Pos}
theorem d_popAt (i : Nat) {x : Str} {px ap cp : Pos} (he : DE X e f) (hi : autoParam (X.N[i]? = some x) _l.a0._auto_1) (hv : autoParam (Vis X.env.scope x) _l.a5._auto_1) (hd : autoParam ((x == ("__debug__" : Str)) = false) _l.a1._auto_1)
  (hcd : autoParam ((x == ("__classdict__" : Str)) = false) _l.a1._auto_1) (hbase : autoParam (attributeBase (.Name x px) "pop" X.env (eval (.Name x px) X.env) = eval (.Name x px) X.env) _l.a0._auto_1)
  (hfew : autoParam (((backTo cp (starEach [e] X.env)).all (fun x=>!x.1) && (backToKw cp (keywordEach [] X.env)).all (fun x=>x.1.isSome)
   && decide ([e].length + ([] : List Keyword).length + (if ([] : List Keyword).isEmpty then 0 else 1) < 30)) = true) _l.a0._auto_1)
  (hline : autoParam ((ap.endLine == cp.line) = true) _l.a0._auto_1) (hs : autoParam (starEach [e] X.env = (false,eval e X.env) :: starEach [] X.env) _l.a0._auto_1) (hplain : autoParam ((backTo cp (starEach [] X.env)).any (·.1) = false) _l.a0._auto_1) :
  DE X (.Call (.Attribute (.Name x px) "pop" ap) [e] [] cp) (_d.ePopAt i f) :=
 PE.weak (pe_bm PySem.F.plainAttrs_list PySem.F.slot_list_pop PySem.F.type_list_pop mt_popAt (pe_var hi hv hd hcd) (a_cons he a_nil hs) hbase hfew hline hs hplain) fun _ _ _=>r_popAt
end
end _r
namespace _l
open PySem PySem.Spec PyProof.Rows
section
variable {X : Cx} {pins : List (Addr×Obj)} {σ : St} {H : Hp} {s : Shared} {x : Str} {C : Addr} {bmB : List Value} {B newId initId : String} {np cpos pos : Pos}
end
section
variable {P : Program} {w : World} {K : PySem.W.Frag} {mg : Str→Option Value} {base : Heap} {N : List Str} {qual : Str} {scope : Scope} {f : Addr} {cd : Value} {A : Around} {outer : List Env} {s₀ : Shared} {H₀ : Hp} {E : XK} {C : Addr}
 {pins : List (Addr×Obj)} {σ : St} {H : Hp} {s : Shared}
end
section
variable {X : Cx} {st : Stmt} {rest : List Stmt} {t : TS}
end
end _l
namespace _r
open PySem PySem.Spec PyProof.Rows _l
section
variable {X : Cx} {C : Addr} {E : _l.St→XK} {k : Nat} {F : Addr} {fd : FuncData} {ps : List Str} {x : Str} {p pos : Pos} {e : Expr} {es : List Expr} {fs : List _d.FE} {bad : List _d.Dat→Bool} {R S : _d.Env→Option _d.Env}
end
section
variable {P : Program} {w : World} {K : PySem.W.Frag} {mg : Str→Option Value} {base : Heap} {N : List Str} {qual : Str} {scope : Scope} {f : Addr} {cd : Value} {A : Around} {outer : List Env} {s₀ : Shared} {H₀ : Hp} {E : XK} {C : Addr}
end
end _r
namespace PySem.W
open PySem PySem.Spec PySem.Calls PyProof.Rows
section
variable {prog : Program} {w : World} {A : Around} {K : Frag} {x C : Addr} {s : Shared} {R : Result→Shared→Prop}
end
section
variable {prog : Program} {w : World} {A : Around} {E : Value→Shared→Prop} {K : Frag} {x C : Addr} {ox : Obj} {h : Heap} {g : Array GenState} {d : Drawn} {t : Nat} {os : OsState}
end
end PySem.W
namespace PySem
section
variable {M : Model} {A : Around} {E : Value→Shared→Prop} {s : Shared} {env : Env}
end
end PySem
namespace PySem.W
open PySem PySem.Spec PySem.Calls PyProof.Rows
end PySem.W
namespace _l
open PySem PySem.Spec PyProof.Rows
section
variable {X : Cx} {pins : List (Addr×Obj)} {σ : _l.St} {H : Hp} {s : Shared}
end
end _l
namespace _r
open PySem PySem.Spec PyProof.Rows _l
section
variable {X : Cx} {pins pn : List (Addr×Obj)} {σ : _l.St} {H : Hp} {s : Shared} {xe : Value→Shared→Prop}
end
section
variable {X : Cx} {C : Addr} {e : Expr} {f : _d.FE} {p p2 pos : Pos} {b : Bool}
end
section
variable {X : Cx} {C : Addr} {e : Expr} {es : List Expr} {f : _d.FE} {p p2 pos : Pos} {b : Bool} {Ds : List Addr}
end
section
variable {X : Cx} {a b c e : Expr} {f fa fb fc : _d.FE} {p p2 pos : Pos} {es : List Expr} {fs : List _d.FE}
end
end _r
namespace _d
noncomputable def gTuR1 : List Dat→Option RV
 | [.int j]=>if j≤1000000∧-1000000≤j then some (.val (.tup (ups 0 j.toNat))) else none
 | _=>none
end _d
namespace _r
open PySem PySem.Spec PyProof.Rows _l
section
variable {X : Cx}
end
section
variable {X : Cx} {e : Expr} {fs : List _d.FE} {p pos : Pos}
end
section
variable {X : Cx}
end
section
variable {σ : _l.St} {H : Hp} {Q : VK}
end
section
variable {X : Cx} {a e : Expr} {fa f : _d.FE}
end
section
variable {P : Program} {w : World} {K : PySem.W.Frag} {mg : Str→Option Value} {base : Heap}
end
theorem tnr {prog : Program} {w : World} {A : Around} {s : Shared} {r : Addr} {a b c : Int} {t u v : Tok} {Q : PySem.Fin→Shared→Prop} {E : Value→Shared→Prop} (hr : IsRange s.heap r a b c t u v) (k : wpAny (model prog w) A (do
       let l ← collect (Value.ref r)
       let xs ← pure l.toArray
       let x ← Builtin.Tuple.tupleExact xs
       PySem.ret x) Q E s) :
  wpAny (model prog w) A (Builtin.«tuple.__new__» { pos:=[.type "tuple", .ref r] }) Q E s:=by
 unfold Builtin.«tuple.__new__»
 dsimp only
 refine wpAny_bind (wpAny_of_eq (a:=true) rfl ?_)
 rw [if_neg (by decide)]
 refine wpAny_bind (wpAny_of_eq (a:=true) (by first | exact F.called_tuple.sub | rfl) ?_)
 rw [if_neg (by decide)]
 rw [if_neg (by first | decide | (rw [show ((Manifest.find? "tuple").elim false fun x=>x.noNew) = false from by first | rfl | decide +kernel]; decide))]
 refine wpAny_bind (wpAny_of_eq madeHere_tuple ?_)
 refine wpAny_bind (wpAny_of_eq F.called_tuple.init.lookup ?_)
 rw [if_pos (by decide)]
 refine wpAny_bind (wpAny_of_eq (a:=()) rfl ?_)
 refine wpAny_bind (wpAny_of_eq (a:=()) rfl ?_)
 rw [if_pos (by decide)]
 refine wpAny_bind ?_
 unfold Builtin.Tuple.tupleIsExact
 refine wpAny_bind (wpAny_typeOf ⟨_,hr,rfl⟩ (wpAny_pure ?_))
 rw [if_neg (by decide)]
 exact k
theorem colc {prog : Program} {w : World} {A : Around} {s : Shared} {r : Addr} {a b c : Int} {t u v : Tok} {n : Nat} {R : Result→Shared→Prop} (hA : A.handled = none) (hr : IsRange s.heap r a b c t u v) (hsm : Builtin.Range.small a b c = true) (hn : Builtin.Range.rangeSize a b c = n) (hz : n≤2 ^ 24)
  (k : ∀ (h' : Heap) (tk : Nat) (acc' : Array Value) (c' : Nat), (∀ (b : Addr) (o : Obj), s.heap.get? b = some o→h'.get? b = some o)→h'.get? s.heap.objs.size = some { cls:=.type "list", data:=.seq acc' c' }→ItemsOf (fun i v=>∃ t, v = Value.int (a + ↑i * c) t) acc' n→R (.ok (.ret (.ref s.heap.objs.size))) { heap:=h', gens:=s.gens, drawn:=s.drawn, toks:=tk, os:=s.os }) :
  codeAny (model prog w) A (Code.builtin "proto.collect" { pos:=[.ref r] }) R s:=by
 refine codeAny_builtin F.entry_proto_collect ?_
 unfold Builtin.«proto.collect»
 dsimp only
 refine wpAny_bind (wpAny_newList ?_)
 refine wpAny_pure ⟨plainId_quiet F.plain_list_iadd _,codeAny_builtin F.entry_list_iadd ?_⟩
 unfold Builtin.«list.__iadd__»
 refine wpAny_bind (wpAny_of_eq (a:=(Value.ref s.heap.objs.size,[Value.ref r])) rfl ?_)
 dsimp only
 rw [Around.under_plainId F.plain_list_iadd]
 exact wpAny_extend_range (R:=R) (s:={ heap:=s.heap.push { cls:=.type "list", data:=.seq #[] }, gens:=s.gens, drawn:=s.drawn, toks:=s.toks, os:=s.os }) hA (Heap.get?_push_of_some _ hr) hsm hn hz s.heap.objs.size _ 0 (Heap.get?_push_size _ rfl) (fun h' tk acc' c' hk hS hI=>k h' tk acc' c' (fun b o e=>hk b o (Nat.ne_of_lt (Heap.lt_size e)) (Heap.get?_push_of_some _ e)) hS hI)
theorem colr {prog : Program} {w : World} {A : Around} {s : Shared} {r : Addr} {a b c : Int} {t u v : Tok} {n : Nat} {Q : List Value→Shared→Prop} {E : Value→Shared→Prop} (hA : A.handled = none) (hr : IsRange s.heap r a b c t u v) (hsm : Builtin.Range.small a b c = true) (hn : Builtin.Range.rangeSize a b c = n) (hz : n≤2 ^ 24)
  (k : ∀ (h' : Heap) (tk : Nat) (acc' : Array Value),(∀ (b : Addr) (o : Obj),s.heap.get? b = some o→h'.get? b = some o)→ItemsOf (fun i v=>∃ t,v = Value.int (a + ↑i * c) t) acc' n→Q acc'.toList { heap:=h',gens:=s.gens,drawn:=s.drawn,toks:=tk,os:=s.os }) :
  wpAny (model prog w) A (collect (.ref r)) Q E s:=by
 unfold collect
 refine wpAny_bind (wpAny_runValue (colc hA hr hsm hn hz fun h' tk acc' c' hk hS hI=>?_))
 dsimp only
 refine wpAny_bind (wpAny_load hS (wpAny_pure ?_))
 exact k h' tk acc' hk hI
theorem call_tuple_range {prog : Program} {w : World} {A : Around} {E : Value→Shared→Prop} {s : Shared} {Q : Value→Shared→Prop} {r : Addr} {a b c : Int} {t u v : Tok} {n : Nat} (hA : A.handled = none) (hr : IsRange s.heap r a b c t u v) (hsm : Builtin.Range.small a b c = true) (hn : Builtin.Range.rangeSize a b c = n) (hz : n≤2 ^ 24) (hz2 : n≤sizeLine)
  (k : ∀ (h' : Heap) (tk : Nat) (acc : Array Value), (∀ (b : Addr) (o : Obj), s.heap.get? b = some o→h'.get? b = some o)→ItemsOf (fun i v=>∃ t, v = Value.int (a + ↑i * c) t) acc n→Q (.ref h'.objs.size) { heap:=h'.push { cls:=.type "tuple", data:=.seq acc }, gens:=s.gens, drawn:=s.drawn, toks:=tk, os:=s.os }) :
  wpAny (model prog w) A (call (.type "tuple") [.ref r]) Q E s:=by
 refine callType_new (S:=fun A R s=>A.handled = none∧IsRange s.heap r a b c t u v∧∀ (h' : Heap) (tk : Nat) (acc : Array Value), (∀ (b : Addr) (o : Obj), s.heap.get? b = some o→h'.get? b = some o)→ItemsOf (fun i v=>∃ t, v = Value.int (a + ↑i * c) t) acc n→R (.ok (.ret (.ref h'.objs.size))) { heap:=h'.push { cls:=.type "tuple", data:=.seq acc }, gens:=s.gens, drawn:=s.drawn, toks:=tk, os:=s.os }) F.called_tuple (by decide) (F.typeCall_tuple_1 _) (F.newCall_tuple_1 _) (fun obj=>by first | exact F.args_object_init_2 _ _ | rfl | decide) F.entry_tuple_new ?_ ⟨hA, hr, fun h' tk acc h1 h2=>⟨?_, k h' tk acc h1 h2⟩⟩
 ·intro prog w A R s ⟨hA,hr,k⟩
  refine tnr hr (wpAny_bind (colr hA hr hsm hn hz fun h' tk acc h1 h2=>?_))
  refine wpAny_bind (wpAny_pure ?_)
  unfold Builtin.Tuple.tupleExact
  refine wpAny_bind (wpAny_newObj_type (wpAny_pure ?_) ?_)
  ·exact k h' tk acc h1 (by simpa using h2)
  ·show acc.toList.toArray.size≤sizeLine
   have:=h2.1
   simp at this ⊢
   lia
 ·exact ⟨_,Heap.get?_push_size _ rfl,rfl⟩
noncomputable def tTuR1 (ta : TA) : TE:=fun σ H Q=>ta σ H fun vs H1=>∃ j : Int,vs = [.int j]∧-(2 ^ 62)≤j∧j≤1000000∧∀ q,H1 q = none→Q (.ref q) (upd H1 q (.tup ((List.range j.toNat).map fun i=>V.int (i : Nat))))
section
variable {X : Cx} {l a : Expr} {tl : TE} {ta : TA} {fa : _d.FE} {p pos p0 pos0 : Pos}
theorem pe_tuR1 (hc : X.calm = true) (hgl : Gl X "tuple") (hml : X.mg "tuple" = none) (hg : Gl X "range") (hm : X.mg "range" = none) (ha : PA X [a] ta) (hs : autoParam (starEach [a] X.env = [(false, eval a X.env)]) _l.a0._auto_1)
  (hs0 : autoParam (starEach [.Call (.Name "range" p) [a] [] pos] X.env = [(false, eval (.Call (.Name "range" p) [a] [] pos) X.env)]) _l.a0._auto_1) :
  PE X (.Call (.Name "tuple" p0) [.Call (.Name "range" p) [a] [] pos] [] pos0) (tTuR1 ta):=by
 intro pins s σ H Q I h
 refine wpAny_Call_Name_kw (ld_blt I hgl hml (by rfl) (PyProof.Rows.callWith_type1 (spliced_more ?_ (by rw [hs0]; rfl)) (by rw [hs0]; rfl) rfl))
 refine Call_ (ld_blt I hg hm boot_range (PyProof.Rows.callWith_type1 (thn (ha pos pins s σ H _ I h) fun us s1 ⟨vs,H1,I1,r1,q1⟩=>?_) hs rfl))
 refine bc fun ζ=>?_
 obtain ⟨j,e,q1,q2,q⟩:=q1
 subst e
 apply ζ;clear ζ
 cases r1 with
 | cons r rr =>
  cases rr
  obtain ⟨t,rfl⟩:=r
  refine call_range_1 (Calls.spliced_nil ?_)
  have hn : Builtin.Range.rangeSize 0 j 1 = (j.toNat : Nat):=by rw [rangeSize_one]; split <;> lia
  have hsl : j.toNat≤sizeLine:=by rw [sizeLine_eq]; lia
  refine call_tuple_range (n:=j.toNat) (I.ok.hd hc) (IsRange.new ..) (small_one (by lia) (by lia) q1 (by lia)) hn (by lia) hsl fun h' tk acc hk hacc=>?_
  have hsz : (s1.heap.push { cls:=.type "range", data:=.fields #[.int 0 s1.toks, .int j t, .int 1 (s1.toks + 1)] }).objs.size = s1.heap.objs.size + 1:=Heap.size_push ..
  have hlt : s1.heap.objs.size < h'.objs.size:=Heap.lt_size (hk _ _ (IsRange.new ..))
  have vl : Vals ((List.range j.toNat).map fun i=>V.int (i : Nat)) acc.toList:=by
   refine items_vals (by rw [List.length_map,List.length_range]; exact hacc) fun i v hv hi=>?_
   obtain ⟨t,rfl⟩:=hv
   rw [List.length_map,List.length_range] at hi
   refine ⟨.int (i : Nat),by rw [List.getElem?_map,List.getElem?_range hi]; rfl,t,?_⟩
   have : (0 : Int) + (i : Int) * 1 = i:=by lia
   rw [this]
  have ok : ObjOk X.prog X.w (upd H1 h'.objs.size (.tup ((List.range j.toNat).map fun i=>V.int (i : Nat)))) (h'.push { cls:=.type "tuple", data:=.seq acc }) h'.objs.size (.tup ((List.range j.toNat).map fun i=>V.int (i : Nat))) :=
   ⟨by rw [List.length_map,List.length_range]; exact hsl,acc.toList,vl,by rw [Array.toArray_toList]; exact ⟨_,Heap.get?_push_size _ rfl,rfl,_,rfl⟩⟩
  exact ⟨.ref _,_,I1.laid (t':=tk) (fun b u e=>Heap.get?_push_of_some _ (hk b u (Heap.get?_push_of_some _ e))) (Nat.le_of_lt hlt) ok,rfl,q _ (I1.hok.fresh (Nat.le_of_lt hlt))⟩
theorem cd_tuR1 : CallD (fun xs H Q=>∃ j : Int,xs = [.int j]∧-(2 ^ 62)≤j∧j≤1000000∧∀ q,H q = none→Q (.ref q) (upd H q (.tup ((List.range j.toNat).map fun i=>V.int (i : Nat))))) _d.gTuR1:=by
 intro H0 H xs ds z Q s rx e k
 unfold _d.gTuR1 at e
 split at e
 ·rename_i j
  split at e
  ·rename_i hb
   cases e
   cases rx with
   | cons r rr =>
    cases rr
    cases repO_int r
    refine ⟨j,rfl,by lia,hb.1,fun p hp=>?_⟩
    have g:=Grow.newS (o:=HO.tup ((List.range j.toNat).map fun i=>V.int (i : Nat))) s hp
    exact k _ _ _ g (.tup upd_same (reps_ups _))
  ·contradiction
 ·contradiction
theorem d_tuR1 (hc : X.calm = true) (hgl : Gl X "tuple") (hml : X.mg "tuple" = none) (hg : Gl X "range") (hm : X.mg "range" = none) (h : DA X [a] [fa]) (hs : autoParam (starEach [a] X.env = [(false, eval a X.env)]) _l.a0._auto_1)
  (hs0 : autoParam (starEach [.Call (.Name "range" p) [a] [] pos] X.env = [(false, eval (.Call (.Name "range" p) [a] [] pos) X.env)]) _l.a0._auto_1) :
  DE X (.Call (.Name "tuple" p0) [.Call (.Name "range" p) [a] [] pos] [] pos0) (_d.eB _d.gTuR1 [fa]):=PE.weak (pe_tuR1 hc hgl hml hg hm h hs hs0) fun _ _ _=>r_cb cd_tuR1
end
section
variable {σ : _l.St} {H : Hp} {Q : VK}
end
section
variable {X : Cx} {e : Expr} {es : List Expr} {fs : List _d.FE} {p pos : Pos}
end
end _r
namespace _d
noncomputable abbrev FN:=Env→List (List Dat)→Option (Env×List (List Dat))
noncomputable def gMulB : Dat→Dat→Option RV
 | .int i,.int j=>if i.natAbs.log2 < 1000000∧j.natAbs.log2 < 1000000 then vI (i * j) else none
 | _,_=>none
noncomputable def stepsD (lo k : Int) (n : Nat) : List Dat:=(List.range n).map fun i=>Dat.int (lo + (i : Nat) * k)
noncomputable def stepsN (i j k : Int) : Nat:=if i < j then ((j - i - 1) / k + 1).toNat else 0
noncomputable def iRs (a b c : FE) : FI:=fun ρ=>match a ρ with
 | some (.val (.int i),ρ1)=>(match b ρ1 with
  | some (.val (.int j),ρ2)=>(match c ρ2 with
   | some (.val (.int k),ρ3)=>if (0 < k∧k≤1000)∧j≤BIG∧-BIG≤j∧i≤BIG∧-BIG≤i then some (stepsD i k (stepsN i j k),ρ3) else none
   | _=>none)
  | _=>none)
 | _=>none
noncomputable def valsOf : List Val→Option (List Dat)
 | []=>some []
 | .val d :: r=>(valsOf r).map fun ds=>d :: ds
 | _=>none
noncomputable def eFn (f : List Dat→Option (RV×Dat)) (e0 : FE) (as : List FE) : FE:=fun ρ=>match eAs (e0 :: as) ρ with
 | some (.new d :: xs,ρ1)=>(match valsOf xs with
  | none=>none
  | some ds=>match f (d :: ds) with
   | none=>none
   | some (v,_)=>some (v.toVal,ρ1))
 | _=>none
end _d
namespace _r
open PySem PySem.Spec PyProof.Rows _l
section
variable {D : Ends} {σ : _l.St} {H : Hp} {j : Nat}
end
section
variable {X : Cx} {st : Stmt} {rest : List Stmt} {fs gs : _d.FN} {e c : Expr} {f : _d.FE} {pos : Pos} {j : Nat}
end
section
variable {σ : _l.St} {H : Hp} {Q : VK}
end
open Classical in
section
variable {X : Cx} {e b : Expr} {es : List Expr} {fs : List _d.FE} {fb : _d.FE} {p pos : Pos}
end
section
variable {X : Cx} {a b c e : Expr} {fa fb fc : _d.FE} {p pos : Pos}
theorem bits_le {i : Int} (h : i.natAbs.log2 < 1000000) : Builtin.Int.intBits i≤2 ^ 20:=by
 have : Builtin.Int.intBits i≤i.natAbs.log2 + 1:=by
  unfold Builtin.Int.intBits
  first | lia | (split <;> lia) | simp
 lia
noncomputable def CMulB (i j : Int) : Prop:=i.natAbs.log2 < 1000000∧j.natAbs.log2 < 1000000
theorem op_mulB : OpR X (binaryOp .Mult) (rI CMulB fun i j=>.int (i * j)):=opI fun _ _ _ _ _ _ _ hc q=>mul_int q (.of_bits (bits_le hc.1) (bits_le hc.2))
theorem od_mulB : OpD (rI CMulB fun i j=>.int (i * j)) _d.gMulB:=by
 intro H0 H x y dx dy z Q s rx ry e k
 unfold _d.gMulB at e
 split at e
 ·split at e
  case isFalse=>cases e
  rename_i hb
  cases e
  cases repO_int rx
  cases repO_int ry
  exact ⟨_,_,rfl,rfl,hb,k _ H0 H (Grow.refl s) (.int _)⟩
 ·contradiction
theorem d_mulB (ha : DE X a fa) (hb : DE X b fb) : DE X (.BinOp a .Mult b pos) (_d.e2 _d.gMulB fa fb):=d_op op_mulB od_mulB ha hb
end
noncomputable def Its (lo k : Int) (n : Nat) : It:=⟨fun i _=>i < n,fun i H x H'=>H' = H∧x = .int (lo + (i : Nat) * k),fun i _=>n≤i⟩
theorem turn_steps {P : Program} {w : World} {K : PySem.W.Frag} {tg : Expr} (it : Addr) (lo k : Int) (n : Nat) : Turn P w K tg (Its lo k n) [it] it (fun i h=>IsRangeIter h it (lo + (i : Nat) * k) ((n : Int) - (i : Nat)) k):=by
 refine turn_one "range_iterator" (by decide) (fun i h st=>⟨_,_,st,rfl,rfl⟩) (fun i h h' st k=>k _ st) (fun X hP hw hK hc i pins s σ H E I st hg Q kk=>?_) (fun X hP hw hK hc i pins s σ H E I st hg Q kk=>?_) fun _ _ _ _ _ st h=>wpAny_pyIter_rangeiter st h
 ·subst hP hw hK
  refine (Walks.range (prog:=X.prog) (w:=X.w) (I.ok.hd hc) it lo k n).item i s _ _ hg st fun v h' tk hv st' k2=>?_
  obtain ⟨t,rfl⟩:=hv
  exact kk _ (.int (lo + (i : Nat) * k)) h' tk ⟨t,rfl⟩ ⟨rfl,rfl⟩ st' fun b o hb e=>k2 b o (fun z=>hb (List.mem_singleton.mp z)) e
 ·subst hP hw hK
  exact wpAny_pyNext_range_end (I.ok.hd hc) st (by have : n≤i:=hg; lia) fun h' eb=>kk h' fun b o hb e=>eb b o hb e
theorem div_lt' {a k : Int} (hk : 0 < k) (h : 0≤a) : 0≤a / k∧a / k≤a:=⟨Int.ediv_nonneg h (by lia),by
 have:=Int.ediv_mul_le a (b:=k) (by lia)
 have h2 : 0≤a / k:=Int.ediv_nonneg h (by lia)
 have : (a / k) * 1≤(a / k) * k:=Int.mul_le_mul_of_nonneg_left (by lia) h2
 lia⟩
theorem rangeSize_up (a b k : Int) (hk : 0 < k) : Builtin.Range.rangeSize a b k = (_d.stepsN a b k : Nat):=by
 unfold Builtin.Range.rangeSize _d.stepsN
 simp only [hk,show (k > 0) = True from eq_true hk,if_true]
 by_cases h : a < b
 ·have:=div_lt' hk (show 0≤b - a - 1 by lia)
  simp only [h,show (a < b) = True from eq_true h,if_true]
  first | lia | (split <;> lia)
 ·simp only [show (a < b) = False from eq_false h,if_false]
  first | lia | (split <;> lia) | simp
theorem small_up {a b k : Int} (hk : 0 < k) (hk' : k≤1000) (ha : -(2 ^ 60)≤a) (ha' : a < 2 ^ 60) (hb : -(2 ^ 60)≤b) (hb' : b < 2 ^ 60) : Builtin.Range.small a b k = true:=by
 unfold Builtin.Range.small
 rw [rangeSize_up a b k hk]
 have hs : (_d.stepsN a b k : Int)≤2 ^ 61:=by
  unfold _d.stepsN
  split
  ·have:=div_lt' hk (show 0≤b - a - 1 by lia)
   lia
  ·lia
 simp only [Builtin.Range.rangeFitsLong,Bool.and_eq_true,Bool.or_eq_true,decide_eq_true_eq,beq_iff_eq,show (k > 0) = True from eq_true hk,if_true]
 first | lia | (refine ⟨?_,?_⟩ <;> lia) | (split <;> lia)
section
variable {X : Cx} {tg : Expr}
noncomputable def iRngS (ta : TA) : TI:=fun σ H R=>ta σ H fun vs H1=>∃ i j k : Int,vs = [.int i,.int j,.int k]∧(0 < k∧k≤1000)∧(-(2 ^ 60)≤i∧i < 2 ^ 60∧-(2 ^ 60)≤j∧j < 2 ^ 60)∧R (Its i k (_d.stepsN i j k)) H1
theorem pi_rangeS {a b c : Expr} {ta : TA} {p pos : Pos} (hg : Gl X "range") (hm : X.mg "range" = none) (ha : PA X [a, b, c] ta) (hs : autoParam (starEach [a, b, c] X.env = (false, eval a X.env) :: starEach [b, c] X.env) _l.a0._auto_1) (hs2 : autoParam ((backTo pos (starEach [b, c] X.env)).any (·.1) = false) _l.a0._auto_1) :
  PI X tg (.Call (.Name "range" p) [a, b, c] [] pos) (iRngS ta):=by
 intro pins s σ H R I h
 refine Call_ (ld_blt I hg hm boot_range (PyProof.Rows.callWith_type1 (thn (ha pos pins s σ H _ I h) fun us s1 ⟨vs,H1,I1,r1,q1⟩=>?_) hs hs2))
 refine bc fun ζ=>?_
 obtain ⟨i,j,k,e,⟨hk,hk'⟩,⟨q1,q2,q3,q4⟩,q⟩:=q1
 subst e
 apply ζ;clear ζ
 cases r1 with
 | cons r rr =>
  cases rr with
  | cons r' rr =>
   cases rr with
   | cons r'' rr =>
   cases rr
   refine bc fun ζ=>?_
   obtain ⟨t,rfl⟩:=r
   obtain ⟨t',rfl⟩:=r'
   obtain ⟨t'',rfl⟩:=r''
   apply ζ;clear ζ
   refine call_range_3 (by simp; lia) ?_ (Or.inl (PyProof.noPylong_small (by lia)))
   refine wpAny_pyIter_range (IsRange.new ..) (small_up hk hk' q1 q2 q3 q4) ?_
   have I2 : Inv X pins σ H1 { s1 with heap:=s1.heap.push { cls:=.type "range", data:=.fields #[.int i t, .int j t', .int k t''] }, toks:=s1.toks }:=I1.kept fun b o e=>Heap.get?_push_of_some _ e
   refine ⟨(s1.heap.push { cls:=.type "range", data:=.fields #[.int i t, .int j t', .int k t''] }).objs.size, [(s1.heap.push { cls:=.type "range", data:=.fields #[.int i t, .int j t', .int k t''] }).objs.size], _, _, H1, rfl,
    I2.kept (t':=s1.toks) fun b o e=>Heap.get?_push_of_some _ e,turn_steps _ i k (_d.stepsN i j k),?_,fun b hb=>?_,q⟩
   ·have e1 : i + ((0 : Nat) : Int) * k = i:=by simp
    have e2 : ((_d.stepsN i j k : Nat) : Int) - ((0 : Nat) : Int) = Builtin.Range.rangeSize i j k:=by rw [rangeSize_up i j k hk]; lia
    show IsRangeIter _ _ (i + ((0 : Nat) : Int) * k) (((_d.stepsN i j k : Nat) : Int) - ((0 : Nat) : Int)) k
    rw [e1,e2]
    exact Heap.get?_push_size _ rfl
   ·have e : b = (s1.heap.push { cls:=.type "range", data:=.fields #[.int i t, .int j t', .int k t''] }).objs.size:=by simpa using hb
    subst e
    exact I2.fpOk (Nat.le_refl _) (I2.hok.fresh (Nat.le_refl _))
theorem jw_steps {H0 : Hp} {lo k : Int} {n : Nat} : JW (Its lo k n) H0 (_d.stepsD lo k n):=by
 intro H0' H s0 s1
 have el : (_d.stepsD lo k n).length = n:=by simp [_d.stepsD]
 refine ⟨fun i hi=>by rw [el] at hi; exact hi,fun i d e=>?_⟩
 have hlt : i < n:=by have:=(List.getElem?_eq_some_iff.mp e).1; rw [el] at this; exact this
 have hd : d = .int (lo + (i : Nat) * k):=by
  unfold _d.stepsD at e
  rw [List.getElem?_map,List.getElem?_range hlt] at e
  exact (Option.some.inj e).symm
 refine ⟨hlt,fun x H' y=>?_⟩
 refine bc fun ζ=>?_
 obtain ⟨rfl,rfl⟩:=y
 subst hd
 exact ζ (⟨H0',Grow.refl s1,.int _⟩)
theorem r_iRs {σ : _l.St} {H : Hp} {R : It→Hp→Prop} {f g c : _d.FE} (h : tDI (_d.iRs f g c) σ H R) : iRngS (tDA [f,g,c]) σ H R:=by
 obtain ⟨H0,ρ,ys,ρ',st,e,k⟩:=h
 unfold _d.iRs at e
 split at e
 ·rename_i i ρ1 e1
  split at e
  ·rename_i j ρ2 e2
   split at e
   ·rename_i l ρ3 e3
    split at e
    ·rename_i hb
     cases e
     refine ⟨H0,ρ,[.val (.int i),.val (.int j),.val (.int l)],_,st,by simp only [_d.eAs,e1,e2,e3]; rfl,fun vs H0' H' t r=>?_⟩
     cases r with
     | cons r rr =>
      cases rr with
      | cons r' rr =>
       cases rr with
       | cons r'' rr =>
        cases rr
        cases Rep.isInt r
        cases Rep.isInt r'
        cases Rep.isInt r''
        obtain ⟨h0,h1,h2,h3,h4⟩:=hb
        unfold _d.BIG at h1 h2 h3 h4
        exact ⟨i,j,l,rfl,h0,⟨by lia,by lia,by lia,by lia⟩,k _ H0' H' t jw_steps⟩
    ·contradiction
   ·contradiction
  ·contradiction
 ·contradiction
theorem i_Rs {a b c : Expr} {fa fb fc : _d.FE} {p pos : Pos} (hg : Gl X "range") (hm : X.mg "range" = none) (ha : DA X [a, b, c] [fa, fb, fc]) (hs : autoParam (starEach [a, b, c] X.env = (false, eval a X.env) :: starEach [b, c] X.env) _l.a0._auto_1) (hs2 : autoParam ((backTo pos (starEach [b, c] X.env)).any (·.1) = false) _l.a0._auto_1) :
  DI X tg (.Call (.Name "range" p) [a, b, c] [] pos) (_d.iRs fa fb fc):=PI.weak (pi_rangeS hg hm ha hs hs2) fun _ _ _=>r_iRs
end
theorem vals_reps {Hs H0 H : Hp} {σ : _l.St} {ρ : _d.Env} : ∀ {xs : List _d.Val} {vs : List V} {ds : List _d.Dat},RepVs Hs H0 H σ ρ vs xs→_d.valsOf xs = some ds→Reps H0 vs ds
 | [],_,_,.nil,e=>by cases e; exact .nil
 | .val d :: xs,_,ds,.cons h r,e=>by
  unfold _d.valsOf at e
  cases q : _d.valsOf xs with
  | none=>rw [q] at e; cases e
  | some es=>rw [q] at e; cases e; exact .cons h (vals_reps r q)
 | .new _ :: _,_,_,_,e=>by cases e
 | .slot _ :: _,_,_,_,e=>by cases e
theorem r_callN {σ : _l.St} {H : Hp} {Q : VK} {f : List _d.Dat→Option (_d.RV×_d.Dat)} {f0 : _d.FE} {fs : List _d.FE} {E : XK} (h : tD (_d.eFn f f0 fs) σ H Q) : tCall (spM f) [] E (tDA (f0 :: fs)) σ H Q:=by
 refine bc fun ζ=>?_
 obtain ⟨H0,ρ,x,ρ',st,e,k⟩:=h
 unfold _d.eFn at e
 split at e
 case h_2=>cases e
 rename_i d xs ρ1 e1
 split at e
 ·contradiction
 rename_i ds e2
 split at e
 ·contradiction
 rename_i z d' fz
 cases e
 apply ζ;clear ζ
 refine ⟨H0,ρ,_,_,st,e1,fun vs H1 Hb t1 r1=>?_⟩
 dsimp only
 rw [List.append_nil]
 cases r1 with
 | cons r0 rr =>
  refine bc fun ζ=>?_
  obtain ⟨a,rfl,n,no,n0,w⟩:=r0
  obtain ⟨oa,ha⟩:=w.some
  apply ζ;clear ζ
  refine ⟨H1,a,_,d,ds,z,d',rfl,t1.st.same,n0,w,vals_reps rr e2,fz,fun v H3 Hd s3 ss n3 w3 r3=>?_⟩
  have st3 : RepSt H3 Hd σ ρ':=t1.st.off s3.s0 ss no (fun b o y nb=>s3.s1 b o y nb) fun i d4 b y1 y2=>by
   refine bc fun ζ=>?_
   obtain ⟨b',q',nb',w'⟩:=t1.st.ow i d4 y1
   apply ζ;clear ζ
   rw [y2] at q'
   cases q'
   cases y : H3 b with
   | none=>rfl
   | some o =>
    obtain ⟨o',z'⟩:=w'.some
    rcases s3.s2 b o y with y3 | y3 | y3
    ·rw [y3] at z'; cases z'
    ·rw [nb'] at y3; cases y3
    ·exact absurd ⟨i,d4,y1,y3 ▸ y2⟩ no
  exact k v H3 Hd ⟨st3,t1.stp.trans s3 fun b y=>.inr (by rw [y]; exact n),t1.own,t1.dfn⟩ ((r3.toV t1.st).early fun b y=>t1.stp.gone y)
theorem d_callN {X : Cx} {e0 : Expr} {es : List Expr} {p pos : Pos} {k : Nat} {F : Addr} {fd : FuncData} {ps : List Str} {g : List _d.Dat→Option (_d.RV×_d.Dat)} {x : Str} {f0 : _d.FE} {fs : List _d.FE} (G : FnOk X.prog X.w X.K X.mg X.base CX0 k F fd ps (spM g)) (hr : Room k X.A) (hg : Gl X x) (hm : X.mg x = some (.ref F)) (hk : PySem.W.keepIn X.K (.ref F) = true) (hb : Binds X.K fd ps [])
  (ha : DA X (e0 :: es) (f0 :: fs)) (hdb : autoParam ((x == ("__debug__" : Str)) = false) _l.a1._auto_1) (he : autoParam (starEach (e0 :: es) X.env = (false, eval e0 X.env) :: starEach es X.env) _l.a0._auto_1) (hpl : autoParam ((backTo pos (starEach es X.env)).any (·.1) = false) _l.a0._auto_1) :
  DE X (.Call (.Name x p) (e0 :: es) [] pos) (_d.eFn g f0 fs):=PE.weak (pe_call G hr hg hm hk hb .nil (pass0 (X:=X)) ha hdb he hpl) fun _ _ _=>r_callN
open PySem
variable {C : List Value→Prop} {us : List Value}
theorem len0 (h : us.length = 0) (c : C []) : C us:=by rw [List.eq_nil_of_length_eq_zero h]; exact c
theorem lenS {n : Nat} {C : List Value→Prop} {us : List Value} (h : us.length = n + 1) (c : ∀ a us,us.length = n→C (a :: us)) : C us:=by
 cases us with
 | nil=>cases h
 | cons a us=>exact c a us (by simpa using h)
theorem len1 (h : us.length = 1) (c : ∀ a,C [a]) : C us:=lenS h fun a _ h=>len0 h (C:=fun us=>C (a :: us)) (c a)
theorem len2 (h : us.length = 2) (c : ∀ a b,C [a,b]) : C us:=lenS h fun a _ h=>len1 h (C:=fun us=>C (a :: us)) (c a)
theorem len3 (h : us.length = 3) (c : ∀ a b d,C [a,b,d]) : C us:=lenS h fun a _ h=>len2 h (C:=fun us=>C (a :: us)) (c a)
theorem len4 (h : us.length = 4) (c : ∀ a b d e,C [a,b,d,e]) : C us:=lenS h fun a _ h=>len3 h (C:=fun us=>C (a :: us)) (c a)
theorem len5 (h : us.length = 5) (c : ∀ a b d e f,C [a,b,d,e,f]) : C us:=lenS h fun a _ h=>len4 h (C:=fun us=>C (a :: us)) (c a)
end _r
namespace _l
open PySem
variable {K : PySem.W.Frag} {x qual : Str} {st : Stmt} {f : Addr} {fd : FuncData} {ps : List Str}
theorem Fun.binds1 (F : Fun K x qual st f fd) (hp : ps.length = 1) (h : ∀ (kV doc pm : Value) (an : Option Addr) (cdv ct : Value) (a : Value),bindArgs (PySem.W.fnOf x qual (defArgs st) (defBody st) (defScope st) .none kV doc pm an cdv ct) ⟨[a],[]⟩ = pure (ps.zip [a])) : Binds K fd ps [] :=
 F.binds fun kV doc pm an cdv ct us hl=>_r.len1 (C:=fun us=>bindArgs (PySem.W.fnOf x qual (defArgs st) (defBody st) (defScope st) .none kV doc pm an cdv ct) ⟨us,[]⟩ = pure (ps.zip us)) (hl.trans hp) (h kV doc pm an cdv ct)
theorem Fun.binds2 (F : Fun K x qual st f fd) (hp : ps.length = 2) (h : ∀ (kV doc pm : Value) (an : Option Addr) (cdv ct : Value) (a b : Value),bindArgs (PySem.W.fnOf x qual (defArgs st) (defBody st) (defScope st) .none kV doc pm an cdv ct) ⟨[a,b],[]⟩ = pure (ps.zip [a,b])) : Binds K fd ps [] :=
 F.binds fun kV doc pm an cdv ct us hl=>_r.len2 (C:=fun us=>bindArgs (PySem.W.fnOf x qual (defArgs st) (defBody st) (defScope st) .none kV doc pm an cdv ct) ⟨us,[]⟩ = pure (ps.zip us)) (hl.trans hp) (h kV doc pm an cdv ct)
theorem Fun.binds3 (F : Fun K x qual st f fd) (hp : ps.length = 3) (h : ∀ (kV doc pm : Value) (an : Option Addr) (cdv ct : Value) (a b d : Value),bindArgs (PySem.W.fnOf x qual (defArgs st) (defBody st) (defScope st) .none kV doc pm an cdv ct) ⟨[a,b,d],[]⟩ = pure (ps.zip [a,b,d])) : Binds K fd ps [] :=
 F.binds fun kV doc pm an cdv ct us hl=>_r.len3 (C:=fun us=>bindArgs (PySem.W.fnOf x qual (defArgs st) (defBody st) (defScope st) .none kV doc pm an cdv ct) ⟨us,[]⟩ = pure (ps.zip us)) (hl.trans hp) (h kV doc pm an cdv ct)
theorem Fun.binds5 (F : Fun K x qual st f fd) (hp : ps.length = 5) (h : ∀ (kV doc pm : Value) (an : Option Addr) (cdv ct : Value) (a b d e g : Value),bindArgs (PySem.W.fnOf x qual (defArgs st) (defBody st) (defScope st) .none kV doc pm an cdv ct) ⟨[a,b,d,e,g],[]⟩ = pure (ps.zip [a,b,d,e,g])) : Binds K fd ps [] :=
 F.binds fun kV doc pm an cdv ct us hl=>_r.len5 (C:=fun us=>bindArgs (PySem.W.fnOf x qual (defArgs st) (defBody st) (defScope st) .none kV doc pm an cdv ct) ⟨us,[]⟩ = pure (ps.zip us)) (hl.trans hp) (h kV doc pm an cdv ct)
end _l
namespace _d
end _d
namespace _r
open PySem _l
section
variable {X : Cx} {e : Expr} {es : List Expr} {fs : List _d.FE} {p pos : Pos}
end
end _r
namespace _d
end _d
namespace _r
open PySem PySem.Spec PyProof.Rows _l
section
variable {X : Cx} {e : Expr} {es : List Expr} {fs : List _d.FE} {p pos : Pos}
end
section
variable {X : Cx} {e1 e2 e3 : Expr} {f1 f2 f3 : _d.FE} {p pos kpos : Pos}
end
end _r
namespace _d
end _d
namespace _r
open PySem PySem.Spec PyProof.Rows _l
open Classical in
section
variable {X : Cx} {e : Expr} {es : List Expr} {fs : List _d.FE} {p pos : Pos}
end
end _r
namespace _d
end _d
namespace _r
open PySem PySem.Spec PyProof.Rows _l
section
variable {X : Cx}
end
section
variable {X : Cx} {e : Expr} {fs : List _d.FE} {p pos : Pos}
end
end _r
namespace _d
end _d
namespace _r
open PySem PySem.Spec PyProof.Rows _l
section
variable {X : Cx} {l a b : Expr} {tl : TE} {ta : TA} {fa fb : _d.FE} {p pos p0 pos0 : Pos}
end
end _r
namespace _d
end _d
namespace _r
open PySem PySem.Spec PyProof.Rows _l
section
variable {prog : Program} {w : World} {A : Around} {E : Value→Shared→Prop} {s : Shared}
end
section
variable {prog : Program} {w : World} {A : Around} {s : Shared}
end
section
variable {X : Cx}
end
section
variable {X : Cx} {e : Expr} {fs : List _d.FE} {p pos : Pos} {k : Nat}
end
end _r
namespace _d
end _d
namespace _r
open PySem PySem.Spec PyProof.Rows _l
section
variable {X : Cx} {tg c e : Expr} {bd : _d.FB} {is : List Nat} {t : _d.FT} {f : _d.FE} {x : Str} {px rp ip pos : Pos}
end
end _r
namespace _d
end _d
namespace _r
open PySem PySem.Spec PyProof.Rows _l
section
variable {X : Cx}
end
section
variable {X : Cx} {e : Expr} {fs : List _d.FE} {p pos : Pos}
end
end _r
namespace _d
end _d
namespace _r
open PySem PySem.Spec PyProof.Rows _l
section
variable {X : Cx} {a b c : Expr} {fa fb fc : _d.FE} {apos cpos : Pos} {k : Nat}
end
end _r
namespace Dk
open PySem PyProof.Rows
open Sem (wp)
section
variable {prog : Program} {w : World} {A : Around} {E : Value→Shared→Prop} {s : Shared}
end
section
variable {prog : Program} {w : World} {K : Type} [DecidableEq K] {knd : PySem.KeyKind prog w K} {A : Around} {E : Value→Shared→Prop} {s : Shared}
end
end Dk
namespace _d
end _d
namespace _r
open PySem PySem.Spec PyProof.Rows _l
section
variable {X : Cx} {e : Expr} {fs : List _d.FE} {p pos : Pos}
end
end _r
namespace _d
end _d
namespace _r
open PySem PySem.Spec PyProof.Rows _l
section
variable {N N' : Addr→Prop} {H0 H H0' H' : Hp}
end
section
variable {σ : _l.St} {H : Hp} {Q : VK}
end
section
variable {X : Cx} {e : Expr} {es : List Expr} {f : _d.FE} {pos : Pos}
end
section
variable {D : Ends} {σ : _l.St} {H : Hp}
end
section
variable {X : Cx} {e : Expr} {st : Stmt} {rest : List Stmt} {fs : _d.FS} {pos : Pos}
end
section
variable {j : Nat} {σs : _l.St} {ρs : _d.Env} {H0s Hs : Hp} {σ : _l.St} {ρ ρ' : _d.Env} {H0 H H0' H' : Hp}
end
section
variable {D : Ends} {σ : _l.St} {H : Hp} {j : Nat}
end
section
variable {X : Cx} {e c : Expr} {rest : List Stmt} {fs gs : _d.FS} {pos : Pos} {j : Nat}
end
end _r
namespace _d
end _d
namespace _r
open PySem PySem.Spec PyProof.Rows _l
section
variable {X : Cx} {e elt iter tg : Expr} {es : List Expr} {fs : List _d.FE} {fi : _d.FI} {bd : _d.FB} {is : List Nat} {scope : Scope} {pos p : Pos}
end
section
variable {j : Nat} {σs : _l.St} {ρs : _d.Env} {H0s Hs : Hp} {σ : _l.St} {ρ ρ' : _d.Env} {H0 H H0' H' : Hp}
end
section
variable {D : Ends} {σ : _l.St} {H : Hp} {j : Nat}
end
section
variable {X : Cx} {st : Stmt} {rest : List Stmt} {e c : Expr} {f : _d.FE} {pos : Pos} {j : Nat}
end
end _r
namespace _d
end _d
namespace _r
open PySem PySem.Spec PyProof.Rows _l
section
variable {σ : _l.St} {H : Hp} {Q : VK}
end
section
variable {D : Ends} {σ : _l.St} {H : Hp} {j : Nat}
end
section
variable {D : Ends} {σ : _l.St} {H : Hp} {j : Nat}
end
section
variable {X : Cx} {e c : Expr} {es : List Expr} {rest : List Stmt} {fs : List _d.FE} {f : _d.FE} {pos p : Pos} {j : Nat}
end
section
variable {X : Cx} {e : Expr} {es : List Expr} {fs : List _d.FE} {pos p : Pos}
end
end _r
namespace _x
open PySem PySem.SetTable
theorem go_spec (xs : Array Nat) (j : Nat) (hs : xs.toList.Pairwise (· < ·)) : ∀ (f lo hi : Nat),hi≤xs.size→hi - lo≤f→lo≤hi→(∀ i,i < lo→∀ v,xs[i]? = some v→v < j)→(∀ i,hi≤i→∀ v,xs[i]? = some v→j≤v) →
  (∀ i,i < below.go xs j f lo hi→∀ v,xs[i]? = some v→v < j)∧(∀ i,below.go xs j f lo hi≤i→∀ v,xs[i]? = some v→j≤v)∧below.go xs j f lo hi≤xs.size
 | 0,lo,hi,h1,h2,h3,a,b=>by
  unfold below.go
  have : lo = hi:=by lia
  subst this
  exact ⟨a,b,h1⟩
 | f + 1,lo,hi,h1,h2,h3,a,b=>by
  unfold below.go
  have mono : ∀ i k v w,i≤k→xs[i]? = some v→xs[k]? = some w→v≤w:=fun i k v w hik e1 e2=>by
   rcases Nat.eq_or_lt_of_le hik with z | z
   ·subst z; rw [e1] at e2; cases e2; exact Nat.le_refl _
   ·refine bc fun ζ=>?_
    obtain ⟨q1,q2⟩:=Array.getElem?_eq_some_iff.mp e1
    obtain ⟨q3,q4⟩:=Array.getElem?_eq_some_iff.mp e2
    apply ζ;clear ζ
    have:=List.pairwise_iff_getElem.mp hs i k (by simpa using q1) (by simpa using q3) z
    simp only [Array.getElem_toList] at this
    lia
  split
  ·rename_i hlt
   have hm : (lo + hi) / 2 < xs.size:=by lia
   dsimp only
   rw [Array.getD_eq_getD_getElem?,Array.getElem?_eq_getElem hm,Option.getD_some]
   split
   ·rename_i hv
    refine go_spec xs j hs f _ hi h1 (by lia) (by lia) (fun i hi' v e=>?_) b
    have:=mono i ((lo + hi) / 2) v _ (by lia) e (Array.getElem?_eq_getElem hm)
    lia
   ·rename_i hv
    refine go_spec xs j hs f lo _ (by lia) (by lia) (by lia) a fun i hi' v e=>?_
    have:=mono ((lo + hi) / 2) i _ v hi' (Array.getElem?_eq_getElem hm) e
    lia
  ·have : lo = hi:=by lia
   subst this
   exact ⟨a,b,h1⟩
theorem below_spec {xs : Array Nat} (j : Nat) (hs : xs.toList.Pairwise (· < ·)) : (∀ i,i < below xs j→∀ v,xs[i]? = some v→v < j)∧(∀ i,below xs j≤i→∀ v,xs[i]? = some v→j≤v)∧below xs j≤xs.size :=
 go_spec xs j hs xs.size 0 xs.size (Nat.le_refl _) (by lia) (Nat.zero_le _) (fun i h=>by lia) fun i h v e=>by rw [Array.getElem?_eq_none h] at e; cases e
theorem below_mem {xs : Array Nat} {j : Nat} (hs : xs.toList.Pairwise (· < ·)) : xs[below xs j]? = some j↔j∈xs.toList:=by
 refine bc fun ζ=>?_
 obtain ⟨a,b,c⟩:=below_spec j hs
 apply ζ;clear ζ
 constructor
 ·intro h
  obtain ⟨q1,q2⟩:=Array.getElem?_eq_some_iff.mp h
  rw [← q2]
  exact Array.getElem_mem_toList q1
 ·intro h
  refine bc fun ζ=>?_
  obtain ⟨i,hi,e⟩:=List.getElem_of_mem h
  apply ζ;clear ζ
  have hi' : i < xs.size:=by simpa using hi
  have e' : xs[i]? = some j:=by rw [Array.getElem?_eq_getElem hi']; simpa using e
  have h1 : below xs j≤i:=Nat.not_lt.mp fun z=>by have:=a i z j e'; lia
  have hb : below xs j < xs.size:=by lia
  have h2:=b (below xs j) (Nat.le_refl _) _ (Array.getElem?_eq_getElem hb)
  rcases Nat.eq_or_lt_of_le h1 with z | z
  ·rw [z]; exact e'
  ·have:=List.pairwise_iff_getElem.mp hs (below xs j) i (by simpa using hb) hi z
   simp only [Array.getElem_toList] at this
   have e2 : xs[i] = j:=by simpa using e
   lia
theorem insert_list {α : Type} (xs : Array α) (p : Nat) (x : α) : (insertAt xs p x).toList = xs.toList.take p ++ x :: xs.toList.drop p:=by
 unfold insertAt
 simp [Array.toList_append,Array.toList_push,Array.toList_extract,List.take_of_length_le]
theorem insert_rising {xs : Array Nat} {j : Nat} (hs : xs.toList.Pairwise (· < ·)) (hj : j ∉ xs.toList) : (insertAt xs (below xs j) j).toList.Pairwise (· < ·):=by
 refine bc fun ζ=>?_
 obtain ⟨a,b,c⟩:=below_spec j hs
 apply ζ;clear ζ
 rw [insert_list]
 have l1 : ∀ v∈xs.toList.take (below xs j),v < j:=fun v hv=>by
  refine bc fun ζ=>?_
  obtain ⟨i,hi,e⟩:=List.getElem_of_mem hv
  apply ζ;clear ζ
  rw [List.length_take] at hi
  rw [List.getElem_take] at e
  refine a i (by lia) v ?_
  rw [Array.getElem?_eq_getElem (by rw [Array.length_toList] at hi; lia)]
  simpa using e
 have l2 : ∀ v∈xs.toList.drop (below xs j),j < v:=fun v hv=>by
  have hm:=List.mem_of_mem_drop hv
  refine bc fun ζ=>?_
  obtain ⟨i,hi,e⟩:=List.getElem_of_mem hv
  apply ζ;clear ζ
  rw [List.length_drop,Array.length_toList] at hi
  rw [List.getElem_drop] at e
  have:=b (below xs j + i) (by lia) v (by rw [Array.getElem?_eq_getElem (by lia)]; simpa using e)
  rcases Nat.eq_or_lt_of_le this with z | z
  ·exact absurd (z ▸ hm) hj
  ·exact z
 rw [List.pairwise_append]
 refine ⟨hs.sublist (List.take_sublist _ _),?_,fun u hu v hv=>?_⟩
 ·rw [List.pairwise_cons]
  exact ⟨l2,hs.sublist (List.drop_sublist _ _)⟩
 ·rcases List.mem_cons.mp hv with rfl | hv
  ·exact l1 u hu
  ·exact Nat.lt_trans (l1 u hu) (l2 v hv)
noncomputable def lp (mask : Nat) : Nat→Nat×Nat→Nat×Nat
 | 0,q=>q
 | m + 1,q=>lp mask m (leap mask q.1 q.2)
noncomputable def lc (mask : Nat) : Nat→Nat→Nat
 | 0,i=>i
 | m + 1,i=>lc mask m ((i * 5 + 1) % (mask + 1))
theorem lp_zero (mask : Nat) : ∀ m i,lp mask m (i,0) = (lc mask m i,0)
 | 0,_=>rfl
 | m + 1,i=>by
  unfold lp lc leap
  simp only [Nat.zero_div,Nat.add_zero]
  exact lp_zero mask m _
theorem lp_add (mask : Nat) : ∀ a b q,lp mask (a + b) q = lp mask b (lp mask a q)
 | 0,b,q=>by rw [Nat.zero_add]; rfl
 | a + 1,b,q=>by
  rw [Nat.add_right_comm]
  show lp mask (a + b) (leap mask q.1 q.2) = lp mask b (lp mask a (leap mask q.1 q.2))
  exact lp_add mask a b _
theorem lp_per (mask : Nat) : ∀ m q,(lp mask m q).2 = q.2 / 32 ^ m
 | 0,q=>by simp [lp]
 | m + 1,q=>by
  show (lp mask m (leap mask q.1 q.2)).2 = _
  rw [lp_per mask m]
  unfold leap
  dsimp only
  rw [Nat.div_div_eq_div_mul,Nat.pow_succ,Nat.mul_comm]
theorem lp_le (mask : Nat) : ∀ m q,q.1≤mask→(lp mask m q).1≤mask
 | 0,_,h=>h
 | m + 1,q,h=>lp_le mask m _ (by unfold leap; exact Nat.le_of_lt_succ (Nat.mod_lt _ (Nat.succ_pos mask)))
noncomputable def Cov (mask : Nat) : Prop:=∀ i,i≤mask→∀ j,j≤mask→∃ m,m≤mask∧lc mask m i = j
noncomputable def covB (mask : Nat) : Bool:=(List.range (mask + 1)).all fun i=>(List.range (mask + 1)).all fun j=>(List.range (mask + 1)).any fun m=>lc mask m i == j
theorem cov_of {mask : Nat} (h : covB mask = true) : Cov mask:=fun i hi j hj=>by
 unfold covB at h
 have h1:=List.all_eq_true.mp h i (List.mem_range.mpr (by lia))
 have h2:=List.all_eq_true.mp h1 j (List.mem_range.mpr (by lia))
 refine bc fun ζ=>?_
 obtain ⟨m,hm,e⟩:=List.any_eq_true.mp h2
 apply ζ;clear ζ
 have:=List.mem_range.mp hm
 exact ⟨m,by lia,by simpa using e⟩
theorem cov7 : Cov 7:=cov_of (by decide +kernel)
theorem cov31 : Cov 31:=cov_of (by decide +kernel)
noncomputable def orb (mask : Nat) : Nat→Nat→List Nat
 | 0,_=>[]
 | m + 1,i=>i :: orb mask m ((i * 5 + 1) % (mask + 1))
theorem orb_at (mask : Nat) : ∀ (n i m : Nat),m < n→(orb mask n i)[m]? = some (lc mask m i)
 | 0,i,m,h=>by lia
 | n + 1,i,0,h=>rfl
 | n + 1,i,m + 1,h=>by
  show (orb mask n ((i * 5 + 1) % (mask + 1)))[m]? = _
  rw [orb_at mask n _ m (by lia)]
  rfl
theorem orb_len (mask : Nat) : ∀ (n i : Nat),(orb mask n i).length = n
 | 0,_=>rfl
 | n + 1,i=>by show (orb mask n _).length + 1 = _; rw [orb_len mask n]
theorem lc_add (mask : Nat) : ∀ a b i,lc mask (a + b) i = lc mask b (lc mask a i)
 | 0,b,i=>by rw [Nat.zero_add]; rfl
 | a + 1,b,i=>by
  rw [Nat.add_right_comm]
  show lc mask (a + b) _ = lc mask b (lc mask a _)
  exact lc_add mask a b _
theorem cov_ring {mask : Nat} (h1 : ((List.range (mask + 1)).all fun j=>(orb mask (mask + 1) 0).elem j) = true) (h2 : lc mask (mask + 1) 0 = 0) : Cov mask:=fun i hi j hj=>by
 have look : ∀ x,x≤mask→∃ m,m≤mask∧lc mask m 0 = x:=fun x hx=>by
  have:=List.all_eq_true.mp h1 x (List.mem_range.mpr (by lia))
  have:=List.elem_iff.mp this
  obtain ⟨m,hm,e⟩:=List.getElem_of_mem this
  rw [orb_len] at hm
  have e2:=orb_at mask (mask + 1) 0 m hm
  rw [List.getElem?_eq_getElem (by rw [orb_len]; exact hm),e] at e2
  cases e2
  exact ⟨m,by lia,rfl⟩
 obtain ⟨a,ha,ea⟩:=look i hi
 obtain ⟨b,hb,eb⟩:=look j hj
 by_cases h : a≤b
 ·exact ⟨b - a,by lia,by rw [← ea,← lc_add,show a + (b - a) = b by lia]; exact eb⟩
 ·exact ⟨mask + 1 + b - a,by lia,by rw [← ea,← lc_add,show a + (mask + 1 + b - a) = mask + 1 + b by lia,lc_add,h2]; exact eb⟩
theorem cov127 : Cov 127:=cov_ring (by decide +kernel) (by decide +kernel)
theorem bits_lt (h : Int) : bits h < 2 ^ 64:=by
 unfold bits
 have h1 : (0 : Int)≤h % 2 ^ 64:=Int.emod_nonneg _ (by decide)
 have h2 : h % 2 ^ 64 < 2 ^ 64:=Int.emod_lt_of_pos _ (by decide)
 lia
theorem hit {mask : Nat} (c : Cov mask) {i p : Nat} (hi : i≤mask) (hp : p < 2 ^ 64) {j : Nat} (hj : j≤mask) : ∃ m,m < mask + 14∧(lp mask m (i,p)).1 = j:=by
 have z : (lp mask 13 (i,p)).2 = 0:=by
  rw [lp_per]
  exact Nat.div_eq_of_lt (Nat.lt_of_lt_of_le hp (by decide))
 have hl:=lp_le mask 13 (i,p) hi
 refine bc fun ζ=>?_
 obtain ⟨m,hm,e⟩:=c _ hl j hj
 apply ζ;clear ζ
 refine ⟨13 + m,by lia,?_⟩
 rw [lp_add,show lp mask 13 (i,p) = ((lp mask 13 (i,p)).1,0) from Prod.ext rfl z,lp_zero]
 exact e
theorem sub_len {l m : List Nat} (hl : l.Nodup) (h : ∀ x∈l,x∈m) : l.length≤m.length:=by
 induction l generalizing m with
 | nil=>exact Nat.zero_le _
 | cons x l ih =>
  obtain ⟨n1,n2⟩:=List.nodup_cons.mp hl
  have hx : x∈m:=h x List.mem_cons_self
  have:=ih (m:=m.erase x) n2 fun y hy=>by
   rw [List.mem_erase_of_ne (fun z : y = x=>n1 (z ▸ hy))]
   exact h y (List.mem_cons_of_mem _ hy)
  rw [List.length_erase_of_mem hx] at this
  have:=List.length_pos_of_mem hx
  simp only [List.length_cons]
  lia
theorem room {mask : Nat} {l : List Nat} (h : l.length≤mask) : ∃ j,j≤mask∧j ∉ l:=by
 refine Classical.byContradiction fun z=>?_
 have:=sub_len (l:=List.range (mask + 1)) (m:=l) List.nodup_range fun x hx=>Classical.byContradiction fun q=>z ⟨x,by have:=List.mem_range.mp hx; lia,q⟩
 rw [List.length_range] at this
 lia
theorem has_nil (j : Nat) : has #[] j = false:=by
 unfold has
 simp
structure Good (t : SetTable) (n : Nat) : Prop where
 dm : t.dummies = #[]
 pl : t.plain = true
 cv : Cov t.mask
 ris : t.place.toList.Pairwise (· < ·)
 le : ∀ j∈t.place.toList,j≤t.mask
 sz : t.place.size = n
theorem Good.slot {t : SetTable} {n : Nat} (g : Good t n) (j : Nat) : (j ∉ t.place.toList∧t.slot j = .empty)∨(j∈t.place.toList∧∃ i,t.slot j = .live i):=by
 unfold SetTable.slot
 by_cases h : j∈t.place.toList
 ·right
  refine ⟨h,below t.place j,?_⟩
  dsimp only
  rw [if_pos (by rw [(below_mem g.ris).mpr h]; exact beq_self_eq_true _)]
 ·left
  refine ⟨h,?_⟩
  dsimp only
  rw [if_neg (by
   intro z
   exact h ((below_mem g.ris).mp (by simpa using z))),if_neg (by
   rw [g.dm,has_nil]
   exact Bool.false_ne_true)]
noncomputable def atRun (mask i p : Nat) : Probe:={ j:=i,more:=runEnd mask i - i,i:=i,perturb:=p,dummy:=none }
theorem go_live {t : SetTable} {h : Int} {f k : Nat} {p : Probe} (q : t.slot p.j = .live k) : probe.go t (fun _=>h + 1) h (f + 1) p = probe.go t (fun _=>h + 1) h f (t.advance p):=by
 have nh : (h + 1 == h) = false:=by
  rw [beq_eq_false_iff_ne]
  lia
 conv=>lhs; unfold probe.go
 rw [q]
 dsimp only
 rw [nh]
 rfl
theorem go_empty {t : SetTable} {h : Int} {f : Nat} {p : Probe} (q : t.slot p.j = .empty) : probe.go t (fun _=>h + 1) h (f + 1) p = some (.empty p.j p.dummy):=by
 conv=>lhs; unfold probe.go
 rw [q]
theorem run_ok {t : SetTable} {n : Nat} (g : Good t n) {h : Int} {i p : Nat} : ∀ (d f j : Nat),j + d≤t.mask→d < f→
  (∃ j',probe.go t (fun _=>h + 1) h f { j:=j,more:=d,i:=i,perturb:=p,dummy:=none } = some (.empty j' none)∧j'≤t.mask∧j' ∉ t.place.toList) ∨
  (probe.go t (fun _=>h + 1) h f { j:=j,more:=d,i:=i,perturb:=p,dummy:=none } = probe.go t (fun _=>h + 1) h (f - (d + 1)) (atRun t.mask (leap t.mask i p).1 (leap t.mask i p).2)∧j∈t.place.toList)
 | d,0,j,h1,h2=>by lia
 | d,f + 1,j,h1,h2=>by
  rcases g.slot j with ⟨q1,q2⟩ | ⟨q1,k,q2⟩
  ·exact .inl ⟨j,go_empty (p:={ j:=j,more:=d,i:=i,perturb:=p,dummy:=none }) q2,by lia,q1⟩
  ·rw [go_live (p:={ j:=j,more:=d,i:=i,perturb:=p,dummy:=none }) q2]
   cases d with
   | zero=>exact .inr ⟨rfl,q1⟩
   | succ d =>
    have ea : t.advance { j:=j,more:=d + 1,i:=i,perturb:=p,dummy:=none } = { j:=j + 1,more:=d,i:=i,perturb:=p,dummy:=none }:=rfl
    rw [ea]
    rcases run_ok g (h:=h) (i:=i) (p:=p) d f (j + 1) (by lia) (by lia) with z | ⟨z,_⟩
    ·exact .inl z
    ·refine .inr ⟨?_,q1⟩
     rw [z,show f - (d + 1) = f + 1 - (d + 1 + 1) by lia]
theorem leaps_ok {t : SetTable} {n : Nat} (g : Good t n) {h : Int} : ∀ (k f i p : Nat),i≤t.mask→10 * k≤f→(∃ m,m < k∧(lp t.mask m (i,p)).1 ∉ t.place.toList)→
  ∃ j',probe.go t (fun _=>h + 1) h f (atRun t.mask i p) = some (.empty j' none)∧j'≤t.mask∧j' ∉ t.place.toList
 | 0,f,i,p,_,_,⟨m,hm,_⟩=>by lia
 | k + 1,f,i,p,hi,hf,⟨m,hm,e⟩=>by
  have hr : runEnd t.mask i - i≤9∧i + (runEnd t.mask i - i)≤t.mask:=by
   unfold runEnd
   split <;> lia
  rcases run_ok g (h:=h) (i:=i) (p:=p) (runEnd t.mask i - i) f i hr.2 (by lia) with z | ⟨z,q⟩
  ·exact z
  ·have hm0 : m≠0:=fun y=>by subst y; exact e q
   obtain ⟨m',rfl⟩ : ∃ m',m = m' + 1:=⟨m - 1,by lia⟩
   obtain ⟨j',a,b,c⟩:=leaps_ok g (h:=h) k (f - (runEnd t.mask i - i + 1)) (leap t.mask i p).1 (leap t.mask i p).2 (lp_le t.mask 1 (i,p) hi) (by lia) ⟨m',by lia,e⟩
   exact ⟨j',z.trans a,b,c⟩
theorem put_ok {t : SetTable} {n : Nat} (g : Good t n) {j : Nat} (h1 : j≤t.mask) (h2 : j ∉ t.place.toList) : Good (t.put j).1 (n + 1)∧(t.put j).1.mask = t.mask∧(t.put j).1.led = t.led:=by
 have hl : (insertAt t.place (below t.place j) j).toList = _:=insert_list _ _ _
 refine ⟨⟨?_,g.pl,g.cv,insert_rising g.ris h2,fun i hi=>?_,?_⟩,rfl,rfl⟩
 ·unfold SetTable.put
  dsimp only
  rw [g.dm]
  rw [has_nil]
  rfl
 ·have hi : i∈(insertAt t.place (below t.place j) j).toList:=hi
  rw [hl] at hi
  rcases List.mem_append.mp hi with hi | hi
  ·exact g.le i (List.mem_of_mem_take hi)
  ·rcases List.mem_cons.mp hi with rfl | hi
   ·exact h1
   ·exact g.le i (List.mem_of_mem_drop hi)
 ·show (insertAt t.place (below t.place j) j).size = n + 1
  rw [← Array.length_toList,hl,List.length_append,List.length_cons,List.length_take,List.length_drop]
  have:=(below_spec j g.ris).2.2
  have:=g.sz
  rw [Array.length_toList]
  lia
theorem Good.fits {t : SetTable} {n : Nat} (g : Good t n) (hn : n≤t.mask) : t.fits n = true:=by
 unfold SetTable.fits SetTable.fill
 rw [g.dm,g.sz]
 simp
 exact hn
theorem fm_congr {α β : Type} {f g : α→Option β} : ∀ {l : List α},(∀ x∈l,f x = g x)→l.filterMap f = l.filterMap g
 | [],_=>rfl
 | x :: l,h=>by rw [List.filterMap_cons,List.filterMap_cons,h x List.mem_cons_self,fm_congr fun y hy=>h y (List.mem_cons_of_mem _ hy)]
theorem fm_set (f : Nat→Option Nat) (j0 k : Nat) : ∀ (l : List Nat),l.Nodup→j0∈l→f j0 = none→(l.filterMap (fun j=>if j = j0 then some k else f j)).Perm (k :: l.filterMap f)
 | [],_,h,_=>by cases h
 | x :: r,nd,h,h0=>by
  obtain ⟨n1,n2⟩:=List.nodup_cons.mp nd
  by_cases e : x = j0
  ·subst e
   have er : r.filterMap (fun j=>if j = x then some k else f j) = r.filterMap f:=fm_congr fun y hy=>by rw [if_neg fun z : y = x=>n1 (z ▸ hy)]
   rw [List.filterMap_cons,if_pos rfl,List.filterMap_cons,h0,er]
  ·have hr : j0∈r:=(List.mem_cons.mp h).resolve_left fun z=>e z.symm
   have ih:=fm_set f j0 k r n2 hr h0
   rw [List.filterMap_cons,if_neg e,List.filterMap_cons]
   cases f x with
   | none=>exact ih
   | some v=>exact (ih.cons v).trans (.swap _ _ _)
noncomputable def ow (owner : Array (Option Nat)) (j : Nat) : Option Nat:=owner.getD j none
noncomputable def lay (mask : Nat) (owner : Array (Option Nat)) : List Nat:=(List.range (mask + 1)).filterMap (ow owner)
theorem free_ok {mask : Nat} {owner : Array (Option Nat)} (hs : owner.size = mask + 1) : ∀ (fuel i p : Nat),i≤mask→(∃ m,m < fuel∧owner[(lp mask m (i,p)).1]? = some none)→∃ j,layClean.free mask owner fuel i p = some j∧j≤mask∧owner[j]? = some none
 | 0,i,p,_,⟨m,hm,_⟩=>by lia
 | fuel + 1,i,p,hi,⟨m,hm,e⟩=>by
  have hr : i≤runEnd mask i∧runEnd mask i≤mask:=by
   unfold runEnd
   split <;> lia
  unfold layClean.free
  cases hf : (List.range (runEnd mask i + 1 - i)).find? fun k=>(owner.getD (i + k) (some 0)).isNone with
  | some k =>
   dsimp only
   have h1:=List.find?_some hf
   have h2:=List.mem_range.mp (List.mem_of_find?_eq_some hf)
   refine ⟨i + k,rfl,by lia,?_⟩
   have hlt : i + k < owner.size:=by lia
   rw [Array.getD_eq_getD_getElem?,Array.getElem?_eq_getElem hlt,Option.getD_some] at h1
   rw [Array.getElem?_eq_getElem hlt]
   exact congrArg some (Option.isNone_iff_eq_none.mp h1)
  | none =>
   dsimp only
   have h1:=List.find?_eq_none.mp hf 0 (List.mem_range.mpr (by lia))
   have hm0 : m≠0:=fun y=>by
    subst y
    have e : owner[i]? = some none:=e
    rw [Nat.add_zero,Array.getD_eq_getD_getElem?,e] at h1
    exact h1 rfl
   obtain ⟨m',rfl⟩ : ∃ m',m = m' + 1:=⟨m - 1,by lia⟩
   exact free_ok hs fuel (leap mask i p).1 (leap mask i p).2 (lp_le mask 1 (i,p) hi) ⟨m',by lia,e⟩
theorem empty_at {mask : Nat} {owner : Array (Option Nat)} (hs : owner.size = mask + 1) (hk : (lay mask owner).length≤mask) : ∃ j,j≤mask∧owner[j]? = some none:=by
 refine bc fun ζ=>?_
 obtain ⟨j,h1,h2⟩:=room (mask:=mask) (l:=(List.range (mask + 1)).filter fun j=>(ow owner j).isSome) (by
  have : ∀ l : List Nat,(l.filter fun j=>(ow owner j).isSome).length = (l.filterMap (ow owner)).length:=fun l=>by
   induction l with
   | nil=>rfl
   | cons x l ih =>
    rw [List.filter_cons,List.filterMap_cons]
    cases ow owner x with
    | none=>simpa using ih
    | some v=>simpa using ih
  rw [this]
  exact hk)
 apply ζ;clear ζ
 refine ⟨j,h1,?_⟩
 have hlt : j < owner.size:=by lia
 rw [Array.getElem?_eq_getElem hlt]
 cases q : owner[j] with
 | none=>rfl
 | some v =>
  refine absurd (List.mem_filter.mpr ⟨List.mem_range.mpr (by lia),?_⟩) h2
  unfold ow
  rw [Array.getD_eq_getD_getElem?,Array.getElem?_eq_getElem hlt,q]
  rfl
theorem lay_put {mask : Nat} {owner : Array (Option Nat)} (hs : owner.size = mask + 1) {j k : Nat} (hj : j≤mask) (h0 : owner[j]? = some none) : (lay mask (owner.setIfInBounds j (some k))).Perm (k :: lay mask owner):=by
 have : lay mask (owner.setIfInBounds j (some k)) = (List.range (mask + 1)).filterMap (fun i=>if i = j then some k else ow owner i):=fm_congr fun i hi=>by
  unfold ow
  rw [Array.getD_eq_getD_getElem?,Array.getD_eq_getD_getElem?,Array.getElem?_setIfInBounds]
  by_cases e : i = j
  ·subst e
   rw [if_pos rfl,if_pos rfl,if_pos (by lia)]
   rfl
  ·rw [if_neg fun z=>e z.symm,if_neg e]
 rw [this]
 exact fm_set _ _ _ _ List.nodup_range (List.mem_range.mpr (by lia)) (by unfold ow; rw [Array.getD_eq_getD_getElem?,h0]; rfl)
theorem lay_fold {mask : Nat} (c : Cov mask) : ∀ (hs : List Int) (owner : Array (Option Nat)) (k : Nat),owner.size = mask + 1→(lay mask owner).Perm (List.range k)→k + hs.length≤mask →
  ∃ owner',hs.foldl (fun acc h=>do
   let (owner,k) ← acc
   let j ← layClean.free mask owner (turns mask) (bits h % (mask + 1)) (bits h)
   pure (owner.setIfInBounds j (some k),k + 1)) (some (owner,k)) = some (owner',k + hs.length)∧(lay mask owner').Perm (List.range (k + hs.length))∧owner'.size = mask + 1
 | [],owner,k,h1,h2,_=>⟨owner,rfl,h2,h1⟩
 | h :: hs,owner,k,h1,h2,h3=>by
  rw [List.length_cons] at h3
  obtain ⟨j0,a,b⟩:=empty_at h1 (by rw [h2.length_eq,List.length_range]; lia)
  have hi : bits h % (mask + 1)≤mask:=Nat.le_of_lt_succ (Nat.mod_lt _ (Nat.succ_pos _))
  refine bc fun ζ=>?_
  obtain ⟨m,hm,e⟩:=hit c hi (bits_lt h) a
  apply ζ;clear ζ
  obtain ⟨j,f1,f2,f3⟩:=free_ok h1 (turns mask) (bits h % (mask + 1)) (bits h) hi ⟨m,by unfold turns; lia,by rw [e]; exact b⟩
  obtain ⟨owner',q1,q2,q3⟩:=lay_fold c hs (owner.setIfInBounds j (some k)) (k + 1) (by rw [Array.size_setIfInBounds]; exact h1)
   ((lay_put h1 f2 f3).trans (by rw [List.range_succ]; exact (h2.cons k).trans (List.perm_append_singleton _ _).symm)) (by lia)
  refine ⟨owner',?_,?_,q3⟩
  ·rw [List.foldl_cons,List.length_cons,show k + (hs.length + 1) = k + 1 + hs.length by lia,← q1]
   congr 1
   show (layClean.free mask owner (turns mask) (bits h % (mask + 1)) (bits h)).bind _ = _
   rw [f1]
   rfl
  ·rw [List.length_cons,show k + (hs.length + 1) = k + 1 + hs.length by lia]
   exact q2
theorem laid_ok {mask finger moves : Nat} {led plain : Bool} {hashes : Array Int} (c : Cov mask) (hn : hashes.size≤mask) : ∃ t order,laid mask finger moves led plain hashes = some (t,order)∧t.mask = mask∧t.led = led∧t.plain = plain∧t.dummies = #[] ∧
  t.place.toList.Pairwise (· < ·)∧(∀ j∈t.place.toList,j≤mask)∧t.place.size = hashes.size∧order.toList.Perm (List.range hashes.size):=by
 refine bc fun ζ=>?_
 obtain ⟨owner,q1,q2,q3⟩:=lay_fold c hashes.toList (Array.replicate (mask + 1) none) 0 (by simp) (by
  have : lay mask (Array.replicate (mask + 1) none) = []:=by
   unfold lay
   rw [List.filterMap_eq_nil_iff]
   intro j hj
   unfold ow
   rw [Array.getD_eq_getD_getElem?,Array.getElem?_replicate]
   split <;> rfl
  rw [this]
  exact .refl _) (by rw [Array.length_toList]; lia)
 apply ζ;clear ζ
 rw [Nat.zero_add,Array.length_toList] at q1 q2
 have lc : layClean mask hashes = some owner:=by
  unfold layClean
  rw [← Array.foldl_toList,q1]
  rfl
 have e2 : ((List.range (mask + 1)).filterMap fun j=>(owner.getD j none).map (j,·)).map (·.2) = lay mask owner:=by
  unfold lay
  rw [List.map_filterMap]
  refine fm_congr fun j _=>?_
  unfold ow
  cases owner.getD j none <;> rfl
 have e1 : ((List.range (mask + 1)).filterMap fun j=>(owner.getD j none).map (j,·)).map (·.1) = (List.range (mask + 1)).filter fun j=>(owner.getD j none).isSome:=by
  rw [List.map_filterMap,← List.filterMap_eq_filter]
  refine fm_congr fun j _=>?_
  unfold Option.guard
  cases q : owner.getD j none <;> simp [q]
 unfold laid
 rw [lc]
 refine ⟨_,_,rfl,rfl,rfl,rfl,rfl,?_,fun j hj=>?_,?_,?_⟩
 ·show ((((List.range (mask + 1)).filterMap fun j=>(owner.getD j none).map (j,·)).map (·.1)).toArray).toList.Pairwise _
  rw [e1]
  exact (List.pairwise_lt_range).sublist List.filter_sublist
 ·have hj : j∈((((List.range (mask + 1)).filterMap fun j=>(owner.getD j none).map (j,·)).map (·.1)).toArray).toList:=hj
  rw [e1] at hj
  have:=List.mem_range.mp (List.mem_filter.mp hj).1
  lia
 ·show ((((List.range (mask + 1)).filterMap fun j=>(owner.getD j none).map (j,·)).map (·.1)).toArray).size = _
  rw [List.size_toArray,List.length_map,← List.length_map (f:=(·.2)),e2,q2.length_eq,List.length_range]
 ·show ((((List.range (mask + 1)).filterMap fun j=>(owner.getD j none).map (j,·)).map (·.2)).toArray).toList.Perm _
  rw [e2]
  exact q2
open PySem PySem.SetTable PySem.W
theorem slot_siter_next : Slot "set_iterator" "__next__" "set_iterator.__next__" :=
 .of (owner:="set_iterator") (n:="__next__") (by rw [typeLookup_type, builtinLookup_eq_fast]; kernel_rfl) (by decide +kernel) (by decide +kernel) (by decide +kernel)
  (by first | exact .inl (by decide +kernel) | exact .inr (by decide +kernel)) (by rw [isSubtype_type]; kernel_rfl)
theorem entry_siter_next : entryFor table "set_iterator.__next__" = some Builtin.«set_iterator.__next__»:=entryFor_of_tree (by kernel_rfl)
theorem owner_siter : Manifest.owners.lookup (String.ofList ['r','o','t','a','r','e','t','i','_','t','e','s'].reverse) = some Manifest.sig_set_iterator:=by kernel_rfl
theorem args_siter_next (a : Value) : argsOk "set_iterator.__next__" ⟨[a], []⟩:=by
 unfold argsOk; rw [signature?_of (id:="set_iterator.__next__") (n:=['_', '_', 't', 'x', 'e', 'n', '_', '_']) (o:=['r','o','t','a','r','e','t','i','_','t','e','s']) (by kernel_rfl) owner_siter]; kernel_rfl
theorem slot_siter_iter : Slot "set_iterator" "__iter__" "set_iterator.__iter__" :=
 .of (owner:="set_iterator") (n:="__iter__") (by rw [typeLookup_type, builtinLookup_eq_fast]; kernel_rfl) (by decide +kernel) (by decide +kernel) (by decide +kernel)
  (by first | exact .inl (by decide +kernel) | exact .inr (by decide +kernel)) (by rw [isSubtype_type]; kernel_rfl)
theorem entry_siter_iter : entryFor table "set_iterator.__iter__" = some Builtin.«dict_keyiterator.__iter__» :=
 entryFor_alias (id':="dict_keyiterator.__iter__") (by kernel_rfl) rfl (by decide +kernel) (by kernel_rfl)
theorem args_siter_iter (a : Value) : argsOk "set_iterator.__iter__" ⟨[a], []⟩:=by
 unfold argsOk; rw [signature?_of (id:="set_iterator.__iter__") (n:=['_', '_', 'r', 'e', 't', 'i', '_', '_']) (o:=['r','o','t','a','r','e','t','i','_','t','e','s']) (by kernel_rfl) owner_siter]; kernel_rfl
theorem entry_set_iter : entryFor table "set.__iter__" = some Builtin.«frozenset.__iter__» :=
 entryFor_alias (id':="frozenset.__iter__") (by kernel_rfl) rfl (by decide +kernel) (by kernel_rfl)
theorem erase_perm {α : Type} : ∀ (l : List α) (i : Nat) (h : i < l.length),(l[i] :: l.eraseIdx i).Perm l
 | x :: l,0,_=>.refl _
 | x :: l,i + 1,h=>by
  have ih:=erase_perm l i (by simpa using h)
  exact (List.Perm.swap _ _ _).trans (ih.cons x)
theorem pick_go (f : Nat→Nat) {α : Type} : ∀ (n k : Nat) (left : List α) (out : Array α),left.length = n→(pickOrder.go f n k left out).toList.Perm (out.toList ++ left)
 | 0,k,left,out,h=>by
  have : left = []:=List.length_eq_zero_iff.mp h
  subst this
  unfold pickOrder.go
  rw [List.append_nil]
 | n + 1,k,left,out,h=>by
  have hlt : f k % left.length < left.length:=Nat.mod_lt _ (by lia)
  unfold pickOrder.go
  rw [List.getElem?_eq_getElem hlt]
  dsimp only
  refine (pick_go f n (k + 1) _ _ (by rw [List.length_eraseIdx_of_lt hlt]; lia)).trans ?_
  rw [Array.toList_push,List.append_assoc]
  refine List.Perm.append_left _ ?_
  exact erase_perm left _ hlt
theorem pick_perm (f : Nat→Nat) {α : Type} (xs : Array α) : (pickOrder f xs).toList.Perm xs.toList:=by
 unfold pickOrder
 have:=pick_go f xs.size 0 xs.toList #[] (by rw [Array.length_toList])
 simpa using this
noncomputable def SetAt (h : Heap) (a : Addr) (es : Array (Int×Value)) (ep : Nat) (t : SetTable) : Prop:=∃ o,h.get? a = some o∧o.ExactSet∧o.data = .set es ep t
theorem SetAt.typeIs {s : Shared} {a : Addr} {es ep t} (x : SetAt s.heap a es ep t) : s.TypeIs (.ref a) "set":=let ⟨o, ho, he, _⟩:=x; ⟨o, ho, he.1⟩
theorem SetAt.at {h h' : Heap} {a : Addr} {es ep t} (x : SetAt h a es ep t) (e : ∀ o,h.get? a = some o→h'.get? a = some o) : SetAt h' a es ep t:=let ⟨o,ho,r⟩:=x; ⟨o,e _ ho,r⟩
noncomputable def slotAt (bt : Bool) (t : SetTable) (i : Nat) : Nat:=if bt || i == 0 then 0 else t.place.getD (i - 1) 0 + 1
noncomputable def IsSI (h : Heap) (it a : Addr) (bt : Bool) (t : SetTable) (i n ep : Nat) : Prop:=∃ o, h.get? it = some o∧o.cls = .type "set_iterator"∧o.data = .fields #[.int (slotAt bt t i : Nat) 0, .int i 0, .ref a, .int n 0, .int ep 0]
theorem IsSI.typeIs {s : Shared} {it a : Addr} {bt t i n ep} (x : IsSI s.heap it a bt t i n ep) : s.TypeIs (.ref it) "set_iterator":=let ⟨o, ho, he, _⟩:=x; ⟨o, ho, he⟩
theorem IsSI.at {h h' : Heap} {it a : Addr} {bt t i n ep} (x : IsSI h it a bt t i n ep) (e : ∀ o,h.get? it = some o→h'.get? it = some o) : IsSI h' it a bt t i n ep:=let ⟨o,ho,r⟩:=x; ⟨o,e _ ho,r⟩
noncomputable def walkOf (w : World) (a : Addr) (es : Array (Int×Value)) (ep : Nat) : List Value :=
 ((if w.params.followText "set-order" then pickOrder (w.params.setOrder a ep) es else es).toList).map (·.2)
theorem walk_perm (w : World) (a : Addr) (es : Array (Int×Value)) (ep : Nat) : (walkOf w a es ep).Perm (es.toList.map (·.2)):=by
 unfold walkOf
 split
 ·exact (pick_perm _ es).map _
 ·exact .refl _
theorem walk_len (w : World) (a : Addr) (es : Array (Int×Value)) (ep : Nat) : (walkOf w a es ep).length = es.size:=by
 rw [(walk_perm w a es ep).length_eq,List.length_map,Array.length_toList]
theorem below_next {t : SetTable} {n i : Nat} (g : Good t n) (hi : i < n) : below t.place (slotAt false t i) = i:=by
 refine bc fun ζ=>?_
 obtain ⟨a,b,c⟩:=below_spec (slotAt false t i) g.ris
 apply ζ;clear ζ
 have mono : ∀ i k,i < k→∀ v w,t.place[i]? = some v→t.place[k]? = some w→v < w:=fun i k hik v w e1 e2=>by
  refine bc fun ζ=>?_
  obtain ⟨q1,q2⟩:=Array.getElem?_eq_some_iff.mp e1
  obtain ⟨q3,q4⟩:=Array.getElem?_eq_some_iff.mp e2
  apply ζ;clear ζ
  have:=List.pairwise_iff_getElem.mp g.ris i k (by simpa using q1) (by simpa using q3) hik
  simp only [Array.getElem_toList] at this
  omega
 have hz:=g.sz
 cases i with
 | zero =>
  refine Classical.byContradiction fun z=>?_
  have h0 : t.place[0]? = some t.place[0]:=Array.getElem?_eq_getElem (by omega)
  have:=a 0 (by omega) _ h0
  have e : slotAt false t 0 = 0:=rfl
  rw [e] at this
  omega
 | succ i =>
  have hp : t.place[i]? = some t.place[i]:=Array.getElem?_eq_getElem (by omega)
  have e : slotAt false t (i + 1) = t.place[i] + 1:=by
   show t.place.getD (i + 1 - 1) 0 + 1 = _
   rw [Nat.add_sub_cancel,Array.getD_eq_getD_getElem?,hp]
   rfl
  rw [e] at a b ⊢
  have h1 : i < below t.place (t.place[i] + 1):=Nat.not_le.mp fun z=>by
   have:=b i z _ hp
   omega
  have h2 : below t.place (t.place[i] + 1)≤i + 1:=Nat.not_lt.mp fun z=>by
   have hq : t.place[i + 1]? = some t.place[i + 1]:=Array.getElem?_eq_getElem (by omega)
   have:=a (i + 1) z _ hq
   have:=mono i (i + 1) (Nat.lt_succ_self _) _ _ hp hq
   omega
  omega
theorem below_end {t : SetTable} {n : Nat} (g : Good t n) : n≤below t.place (slotAt false t n):=by
 refine bc fun ζ=>?_
 obtain ⟨a,b,c⟩:=below_spec (slotAt false t n) g.ris
 apply ζ;clear ζ
 have hz:=g.sz
 cases n with
 | zero=>omega
 | succ i =>
  have hp : t.place[i]? = some t.place[i]:=Array.getElem?_eq_getElem (by lia)
  have e : slotAt false t (i + 1) = t.place[i] + 1:=by
   show t.place.getD (i + 1 - 1) 0 + 1 = _
   rw [Nat.add_sub_cancel,Array.getD_eq_getD_getElem?,hp]
   rfl
  rw [e] at a b ⊢
  exact Nat.not_le.mp fun z=>by
   have:=b i z _ hp
   lia
section
variable {prog : Program} {w : World} {A : Around} {E : Value→Shared→Prop} {s : Shared} {a it : Addr} {es : Array (Int×Value)} {ep i : Nat} {t : SetTable}
theorem setState_at (x : SetAt s.heap a es ep t) (g : Good t es.size) (hm : es.size≤t.mask) {Q : (Array (Int×Value)×Nat×SetTable)→Shared→Prop} (h : Q (es,ep,t) s) : wpAny (model prog w) A (setState a) Q E s:=by
 obtain ⟨o,ho,_,hd⟩:=x
 exact wpAny_setState_of ho hd (g.fits hm) h
theorem byText_ok {Q : Bool→Shared→Prop} (h : Q (w.params.followText "set-order") s) : wpAny (model prog w) A setsByText Q E s:=by
 unfold setsByText
 exact wpAny_bind (wpAny_askSetting (wpAny_pure h))
theorem setDrawn_ok (x : SetAt s.heap a es ep t) (g : Good t es.size) (hm : es.size≤t.mask) {Q : Bool→Shared→Prop} (h : Q false s) : wpAny (model prog w) A (setDrawn a) Q E s:=by
 unfold setDrawn
 refine wpAny_bind (setState_at x g hm ?_)
 refine wpAny_bind (byText_ok (wpAny_pure ?_))
 have e : (!(w.params.followText "set-order") && (!t.plain && decide (es.size > 1))) = false:=by
  rw [g.pl]
  simp
 have e' : Q (!(w.params.followText "set-order") && (!t.plain && decide (es.size > 1))) s:=by rw [e]; exact h
 exact e'
theorem setNext_ok (x : SetAt s.heap a es ep t) (g : Good t es.size) (hm : es.size≤t.mask) (hl : t.led = !w.params.followText "set-order") {Q : Option (Value×Nat)→Shared→Prop}
  (h : Q ((walkOf w a es ep)[i]?.map fun v=>(v, slotAt (w.params.followText "set-order") t (i + 1))) s) (hi : i≤es.size) : wpAny (model prog w) A (setNext a (slotAt (w.params.followText "set-order") t i) i ep) Q E s:=by
 unfold setNext
 refine wpAny_bind (setState_at x g hm ?_)
 dsimp only
 refine wpAny_bind (byText_ok ?_)
 cases bt : w.params.followText "set-order" with
 | true =>
  rw [bt] at h
  rw [if_pos rfl]
  simp only [bne_self_eq_false,Bool.false_eq_true,if_false]
  refine wpAny_bind (m:=setWalk a) ?_
  unfold setWalk
  refine wpAny_bind (setState_at x g hm ?_)
  dsimp only
  refine wpAny_bind (byText_ok ?_)
  rw [bt,if_pos rfl]
  refine wpAny_bind (wpAny_askSetting (wpAny_pure (wpAny_pure ?_)))
  unfold walkOf at h
  rw [bt,if_pos rfl,List.getElem?_map,Option.map_map] at h
  have e : slotAt true t i = 0∧slotAt true t (i + 1) = 0:=⟨rfl,rfl⟩
  rw [e.1]
  rw [e.2] at h
  rw [Array.getElem?_toList] at h
  exact h
 | false =>
  rw [bt] at h hl
  rw [if_neg Bool.false_ne_true]
  have dr : (!t.plain && decide (es.size > 1)) = false:=by rw [g.pl]; rfl
  show wpAny _ _ (if (!t.plain && decide (es.size > 1)) = true then _ else _) _ _ _
  rw [if_neg (by rw [dr]; exact Bool.false_ne_true)]
  show wpAny _ _ ((if (!t.led && !es.isEmpty) = true then _ else pure ()) >>= _) _ _ _
  rw [hl]
  simp only [Bool.not_false,Bool.not_true,Bool.false_and,Bool.false_eq_true,if_false]
  refine wpAny_bind (wpAny_pure (wpAny_pure ?_))
  unfold walkOf at h
  rw [bt] at h
  simp only [Bool.false_eq_true,if_false] at h
  rw [List.getElem?_map] at h
  rcases Nat.lt_or_ge i es.size with hlt | hge
  ·rw [below_next g hlt,Array.getElem?_eq_getElem hlt,Array.getElem?_eq_getElem (by rw [g.sz]; exact hlt)]
   rw [Array.getElem?_toList,Array.getElem?_eq_getElem hlt] at h
   have e : slotAt false t (i + 1) = t.place[i]'(by rw [g.sz]; exact hlt) + 1:=by
    show t.place.getD (i + 1 - 1) 0 + 1 = _
    rw [Nat.add_sub_cancel,Array.getD_eq_getD_getElem?,Array.getElem?_eq_getElem (by rw [g.sz]; exact hlt)]
    rfl
   rw [e] at h
   exact h
  ·have : i = es.size:=by lia
   subst this
   rw [Array.getElem?_eq_none (below_end g)]
   rw [Array.getElem?_toList,Array.getElem?_eq_none (Nat.le_refl _)] at h
   exact h
end
section
variable {prog : Program} {w : World} {A : Around} {E : Value→Shared→Prop} {s : Shared} {a it : Addr} {es : Array (Int×Value)} {ep i : Nat} {t : SetTable}
theorem pyIter_set (x : SetAt s.heap a es ep t) (g : Good t es.size) (hm : es.size≤t.mask) {Q : Value→Shared→Prop}
  (hQ : Q (.ref s.heap.objs.size) { s with heap:=s.heap.push { cls:=.type "set_iterator", data:=.fields #[.int 0 0, .int 0 0, .ref a, .int es.size 0, .int ep 0] } }) : wpAny (model prog w) A (pyIter (.ref a)) Q E s:=by
 obtain ⟨o,ho,hex,hd⟩:=id x
 refine wpAny_pyIter_slot x.typeIs F.slot_set_iter (wpAny_call_entry F.slot_set_iter x.typeIs entry_set_iter ?_ (F.args_set_iter_1 _))
 unfold Builtin.«frozenset.__iter__» Builtin.Frozenset.slot0 slotArgs
 simp only [List.isEmpty_nil,Bool.not_true,Bool.false_eq_true,↓reduceIte,bind_assoc,List.length_nil,bne_self_eq_false]
 unfold Builtin.Frozenset.addrOf Builtin.Frozenset.sizeOf
 refine wpAny_bind (wpAny_pure ?_)
 try dsimp only
 refine wpAny_bind (wpAny_pure ?_)
 refine wpAny_bind (wpAny_bind (wpAny_setEntries_of ho hd (g.fits hm) (wpAny_pure ?_)))
 refine wpAny_bind (setDrawn_ok x g hm ?_)
 simp only [Bool.false_eq_true,if_false]
 refine wpAny_bind (wpAny_pure ?_)
 refine wpAny_bind (wpAny_setEpoch_of ho hd (g.fits hm) ?_)
 refine wpAny_bind (m:=newFields _ _) ?_
 unfold newFields
 refine wpAny_newObj_type (wpAny_pure ⟨_, rfl, "set_iterator", _, ⟨_, Heap.get?_push_size _ rfl, rfl⟩, slot_siter_next.lookup, ?_⟩)
 simpa [rawInt] using hQ
theorem next_item (hit : IsSI s.heap it a (w.params.followText "set-order") t i es.size ep) (x : SetAt s.heap a es ep t) (g : Good t es.size) (hm : es.size≤t.mask) (hl : t.led = !w.params.followText "set-order") {v : Value} (hv : (walkOf w a es ep)[i]? = some v) {Q : Option Value→Shared→Prop}
  (hQ : ∀ h', IsSI h' it a (w.params.followText "set-order") t (i + 1) es.size ep→Heap.SameBut it s.heap h'→Q (some v) { s with heap:=h' }) : wpAny (model prog w) A (pyNext (.ref it)) Q E s:=by
 refine bc fun ζ=>?_
 obtain ⟨o,ho,hc,hd⟩:=id hit
 obtain ⟨oa,hoa,hexa,hda⟩:=id x
 apply ζ;clear ζ
 have hi : i < es.size:=by rw [← walk_len w a es ep]; exact (List.getElem?_eq_some_iff.mp hv).1
 unfold pyNext
 refine wpAny_bind (wpAny_attempt (wpAny_callSpecial?_slot (name:=Str.ofString "__next__") hit.typeIs slot_siter_next
  (wpAny_call_entry slot_siter_next hit.typeIs entry_siter_next ?_ (args_siter_next _))))
 unfold Builtin.«set_iterator.__next__» slotArgs
 simp only [List.isEmpty_nil,Bool.not_true,Bool.false_eq_true,↓reduceIte,bind_assoc,List.length_nil,bne_self_eq_false]
 refine wpAny_bind (wpAny_pure ?_)
 try dsimp only
 refine wpAny_bind (wpAny_fieldsOf ho hd ?_)
 try dsimp only
 refine wpAny_bind (wpAny_setEntries_of hoa hda (g.fits hm) ?_)
 simp only [bne_self_eq_false,Bool.false_eq_true,if_false]
 simp only [Int.toNat_natCast]
 refine wpAny_bind (setNext_ok x g hm hl ?_ (Nat.le_of_lt hi))
 rw [hv]
 dsimp only [Option.map_some]
 refine wpAny_bind (wpAny_setField ho hd (by simp) ?_)
 have h1:=Heap.get?_update_self (Obj.mapFields (·.setIfInBounds 0 (rawInt (slotAt (w.params.followText "set-order") t (i + 1) : Nat)))) ho (Obj.isFreed_of_fields (Obj.data_mapFields hd _))
 have d1:=Obj.data_mapFields hd (·.setIfInBounds 0 (rawInt (slotAt (w.params.followText "set-order") t (i + 1) : Nat)))
 refine wpAny_bind (wpAny_setField h1 d1 (by simp) ?_)
 refine wpAny_pure ⟨_,rfl,wpAny_pure (hQ _ ⟨_,Heap.get?_update_self _ h1 (Obj.isFreed_of_fields (Obj.data_mapFields d1 _)),?_,?_⟩ ((Heap.SameBut.update ..).trans (Heap.SameBut.update ..)))⟩
 ·exact (Obj.cls_mapFields ..).trans ((Obj.cls_mapFields ..).trans hc)
 ·rw [Obj.data_mapFields d1]
  simp [rawInt]
theorem next_end (hh : A.handled = none) (hit : IsSI s.heap it a (w.params.followText "set-order") t es.size es.size ep) (x : SetAt s.heap a es ep t) (g : Good t es.size) (hm : es.size≤t.mask) (hl : t.led = !w.params.followText "set-order") {Q : Option Value→Shared→Prop}
  (hQ : ∀ h',Heap.ExtBut it s.heap h'→Q none { s with heap:=h' }) : wpAny (model prog w) A (pyNext (.ref it)) Q E s:=by
 refine bc fun ζ=>?_
 obtain ⟨o,ho,hc,hd⟩:=id hit
 obtain ⟨oa,hoa,hexa,hda⟩:=id x
 apply ζ;clear ζ
 unfold pyNext
 refine wpAny_bind (wpAny_attempt (wpAny_callSpecial?_slot (name:=Str.ofString "__next__") hit.typeIs slot_siter_next
  (wpAny_call_entry slot_siter_next hit.typeIs entry_siter_next ?_ (args_siter_next _))))
 unfold Builtin.«set_iterator.__next__» slotArgs
 simp only [List.isEmpty_nil,Bool.not_true,Bool.false_eq_true,↓reduceIte,bind_assoc,List.length_nil,bne_self_eq_false]
 refine wpAny_bind (wpAny_pure ?_)
 try dsimp only
 refine wpAny_bind (wpAny_fieldsOf ho hd ?_)
 try dsimp only
 refine wpAny_bind (wpAny_setEntries_of hoa hda (g.fits hm) ?_)
 simp only [bne_self_eq_false,Bool.false_eq_true,if_false]
 simp only [Int.toNat_natCast]
 refine wpAny_bind (setNext_ok x g hm hl ?_ (Nat.le_refl _))
 rw [List.getElem?_eq_none (by rw [walk_len]; exact Nat.le_refl _)]
 dsimp only [Option.map_none]
 refine wpAny_bind (wpAny_setField ho hd (by simp) (wpAny_bind ?_))
 unfold newExc newTuple
 refine wpAny_bind (wpAny_newObj_type (wpAny_bind (m:=firstArgMember _ _) (wpAny_of_eq (a:=.none) rfl (wpAny_newObj_type ?_ (by size_fits)))) (by size_fits))
 unfold raiseNew
 refine wpAny_bind (wpAny_handled ?_)
 have hx : A.in1.handled = none:=hh
 rw [hx]
 refine wpAny_bind (wpAny_pure (wpAny_throw (wpAny_bind ?_)))
 refine wpAny_isInstance (b:=true) (T:="StopIteration") ⟨_, Heap.get?_push_size _ rfl, rfl⟩ isSubtype_stop (wpAny_pure ?_)
 exact hQ _ (((Heap.SameBut.update ..).extBut.push _).push _)
theorem pyIter_siter {bt : Bool} {n : Nat} (hit : IsSI s.heap it a bt t i n ep) {Q : Value→Shared→Prop} (h : Q (.ref it) s) : wpAny (model prog w) A (pyIter (.ref it)) Q E s:=by
 refine wpAny_pyIter_slot hit.typeIs slot_siter_iter (wpAny_call_entry slot_siter_iter hit.typeIs entry_siter_iter ?_ (args_siter_iter _))
 show wpAny _ _ (ret (.ref it)) _ _ s
 exact wpAny_pure ⟨_, rfl, "set_iterator", _, hit.typeIs, slot_siter_next.lookup, h⟩
theorem walks_set (hh : A.handled = none) (I a : Addr) (hne : a≠I) (g : Good t es.size) (hm : es.size≤t.mask) (hl : t.led = !w.params.followText "set-order") :
  Walks prog w A I [I, a] [I] es.size (fun i v=>(walkOf w a es ep)[i]? = some v) (fun i h=>IsSI h I a (w.params.followText "set-order") t i es.size ep∧SetAt h a es ep t) where
 sub:=fun b hb=>by simp at hb; simp [hb]
 frame:=fun _ _ _ st hk=>⟨st.1.at fun o e=>hk I (by simp) o e,st.2.at fun o e=>hk a (by simp) o e⟩
 item:=fun i s Q E hi st hQ=>by
  obtain ⟨v,hv⟩ : ∃ v,(walkOf w a es ep)[i]? = some v:=⟨(walkOf w a es ep)[i]'(by rw [walk_len]; exact hi),by simp [walk_len,hi]⟩
  refine next_item st.1 st.2 g hm hl hv fun h' hit' hs'=>?_
  exact hQ v h' s.toks hv ⟨hit',st.2.at fun o e=>hs'.extBut a o hne e⟩ fun b o hb e=>hs'.extBut b o (fun h=>hb (by simp [h])) e
 done:=fun s Q E st hQ=>next_end hh st.1 st.2 g hm hl fun h' he'=>hQ h' s.toks fun b o hb e=>he' b o (fun h=>hb (by simp [h])) e
 self:=fun _ _ _ _ st hQ=>pyIter_siter st.1 hQ
theorem hint_set {r : Addr} {Q : Bool→Shared→Prop} (hT : s.TypeIs (.ref r) "set") (h : Q false s) : wpAny (model prog w) A (Builtin.List.listLengthHint (.ref r)) Q E s:=by
 unfold Builtin.List.listLengthHint
 refine wpAny_bind (wpAny_specialOf hT PySem.F.slot_set_len.lookup ?_)
 generalize hid : ("set.__len__" : String) = id0
 wp_delta
 rw [show splitId id0 = some ("set", "__len__") from by subst hid; decide +kernel]
 subst hid
 refine wpAny_bind (wpAny_isInstance (T:="set") (b:=true) hT (by rw [isSubtype_type]; kernel_rfl) ?_)
 refine wpAny_ite_split (fun hab=>absurd hab (by decide)) (fun _=>?_)
 refine wpAny_ite_split (fun _=>?_) (fun hab=>absurd (by decide +kernel) hab)
 refine wpAny_bind (wpAny_typeOf hT ?_)
 exact wpAny_pure h
theorem src_set (g : Good t es.size) (hm : es.size≤t.mask) (hl : t.led = !w.params.followText "set-order") : KdlSrc prog w "set" a a es.size (fun i v=>(walkOf w a es ep)[i]? = some v) (fun h=>SetAt h a es ep t) where
 type:=fun _ x=>x.typeIs
 there:=fun _ x=>let ⟨_,ho,_⟩:=x; ⟨Heap.lt_size ho,Heap.lt_size ho⟩
 keep:=fun _ _ x hk=>x.at fun o e=>hk a (.inl rfl) o e
 notList:=by decide
 notTuple:=by decide
 hint:=fun _ _ _ _ x hq=>hint_set x.typeIs hq
 iter:=fun _ s hh x=>⟨_,_,(fun _ _ hq=>pyIter_set x g hm hq),walks_set hh _ a (let ⟨_,ho,_⟩:=x; Nat.ne_of_lt (Heap.lt_size ho)) g hm hl,
  ⟨⟨_,Heap.get?_push_size _ rfl,rfl,by simp [slotAt]⟩,x.at fun o e=>Heap.get?_push_of_some _ e⟩⟩
end
open PySem PySem.SetTable PySem.W PyProof.Rows
noncomputable def Small (t : SetTable) (n : Nat) : Prop:=(t.mask = 7∧n≤4)∨(t.mask = 31∧n≤18)∨(t.mask = 127∧n≤76)
theorem Small.le {t : SetTable} {n : Nat} (h : Small t n) : n≤t.mask:=by
 rcases h with ⟨a,b⟩ | ⟨a,b⟩ | ⟨a,b⟩ <;> lia
theorem store_at {h : Heap} {a : Addr} {es es' : Array (Int×Value)} {ep : Nat} {t t' : SetTable} (x : SetAt h a es ep t) : SetAt (h.update a (Obj.putSet es' t')) a es' (ep + 1) t':=by
 obtain ⟨o,ho,hex,hd⟩:=x
 have:=Heap.get?_update_self (Obj.putSet es' t') ho (by rw [putSet_of es' t' hd]; rfl)
 rw [putSet_of es' t' hd] at this
 exact ⟨_,this,hex,rfl⟩
section
variable {prog : Program} {w : World} {A : Around} {E : Value→Shared→Prop} {s : Shared} {a : Addr} {ns : List Int} {k : Int} {tk : Tok}
end
noncomputable abbrev setO (led : Bool) : Obj:={ cls:=.type "set", dict:=none, data:=.set #[] 0 (.fresh 0 0 led) }
noncomputable def bt (w : World) : Bool:=w.params.followText "set-order"
theorem fresh_good (led : Bool) : Good (.fresh 0 0 led) 0:=⟨rfl,rfl,cov7,.nil,fun j h=>(by cases h),rfl⟩
theorem loop_inv {prog : Program} {w : World} {A : Around} {R : Result→Shared→Prop} {I S : Addr} {fp wr : List Addr} {G : Array GenState→Array GenState→Prop} {n : Nat} {P : Nat→Value→Prop} {St : Nat→Shared→Prop} {J : Nat→Heap→Prop} (W : WalksS prog w A.in1 I fp wr G n P St) (off : S ∉ fp)
  (jk : ∀ i h h',J i h→(∀ b o,b ∉ wr→h.get? b = some o→h'.get? b = some o)→J i h')
  (ja : ∀ i v (u : Shared) (E : Value→Shared→Prop) (K : Bool→Shared→Prop),i < n→P i v→J i u.heap→(∀ c h' tk,u.toks≤tk→Heap.SameBut S u.heap h'→J (i + 1) h'→K c { u with heap:=h',toks:=tk })→wpAny (model prog w) A.in1 (setAdd S v) K E u)
  (i : Nat) (s : Shared) (hi : i≤n) (st : St i s) (hJ : J i s.heap) (fin : ∀ s', Moved (S :: wr) G s s'→J n s'.heap→R (.ok (.ret .none)) s') : codeAny (model prog w) A (.builtin "set.update.loop" ⟨[.ref S, .ref I], []⟩) R s:=by
 have nw : S ∉ wr:=fun z=>off (W.sub _ z)
 have up : ∀ {x y : Shared},Moved wr G x y→Moved (S :: wr) G x y:=fun m=>m.mono fun _=>List.mem_cons_of_mem _
 generalize hd : n - i = d
 induction d generalizing i s with
 | zero =>
  cases (show i = n by lia)
  refine codeAny_builtin F.entry_set_update_loop (Around.under_plainId F.plain_set_update_loop _ ▸ ?_)
  exact wpAny_bind (W.done s _ _ st fun s' m=>wpAny_pure (fin s' (up m) (jk _ _ _ hJ fun b o hb e=>m.heap b o hb e)))
 | succ d ih =>
  have lt : i < n:=by lia
  refine codeAny_builtin F.entry_set_update_loop (Around.under_plainId F.plain_set_update_loop _ ▸ ?_)
  refine wpAny_bind (W.item i s _ _ lt st fun v u hv st1 m=>?_)
  refine wpAny_bind (wpAny_holding (ja i v u _ _ lt hv (jk _ _ _ hJ fun b o hb e=>m.heap b o hb e) fun c h' tk ht sb hJ'=>wpAny_pure ⟨plainId_quiet F.plain_set_update_loop _,?_⟩))
  refine ih (i + 1) _ lt (W.frame _ u _ _ st1 ht fun b hb o e=>(sb.2 b fun z=>off (z ▸ hb)).trans e) hJ' (fun s' m'=>fin s' (Moved.trans W.gtrans ((up m).then_heap ht fun b o hb e=>?_) m')) (by lia)
  exact (sb.2 b fun z=>hb (z ▸ List.mem_cons_self)).trans e
section
variable {prog : Program} {w : World} {A : Around} {E : Value→Shared→Prop} {s : Shared}
theorem set_made (x : Value) {K : Value→Shared→Prop} (h : K (.ref s.heap.objs.size) { s with heap:=s.heap.push (setO (!bt w)) }) : codeAny (model prog w) A (.call (.builtin "set.__new__") ⟨[.type "set", x], []⟩) (wants K E) s:=by
 refine codeAny_call_builtin PySem.F.plain_set_new PySem.F.entry_set_new (wpAny_of_eq (PySem.F.newCall_set_1 x) ?_)
 have sub:=sub_set_self
 cases s
 unfold Builtin.«set.__new__» Builtin.Frozenset.newClass
 wp_walk
 exact wpAny_askSetting (wpAny_pure (wpAny_bind (wpAny_alloc (wpAny_pure (wpAny_pure h)))))
set_option maxHeartbeats 3200000 in
theorem set_shell {x : Value} {K : Value→Shared→Prop} (body : ∀ led,led = (!bt w)→wpAny (model prog w) A.in1.in1 (Builtin.«set.__init__» ⟨[.ref s.heap.objs.size,x],[]⟩)
   (fun f u=>∃ h' tk, f = .done (.ret .none)∧u = { s with heap:=h', toks:=tk }∧K (.ref s.heap.objs.size) { s with heap:=h', toks:=tk }) E { s with heap:=s.heap.push (setO led) }) : wpAny (model prog w) A (call (.type "set") [x]) K E s:=by
 have ft:=PySem.F.called_set
 obtain ⟨c,tl,e1⟩:=ft.mro
 have e2:=ft.made
 have e3:=ft.sub
 have e4:=ft.notType
 have e5:=ft.canCreate
 have e6:=PySem.F.typeCall_set_1 x
 refine wpAny_call (codeAny_of_tree (wpAny_pure ⟨Code.quiet_builtin _ (by decide +kernel), codeAny_builtin PySem.F.entry_type_call (Around.under_plain (weight_type_call_type "set" [x] []) rfl ▸ ?_)⟩))
 repeat (any_goals (first | assumption | wp_step))
 generalize hled : (!bt w) = led at body
 refine codeAny_mono (set_made x (E:=E) (K:=fun y u=>y = .ref s.heap.objs.size∧u = { s with heap:=s.heap.push (setO led) }) ⟨rfl,by rw [hled]⟩) fun q u hq=>?_
 match q,hq with
 | .error _,hq=>exact hq
 | .ok (.ret y),⟨h1,h2⟩ =>
  subst h1 h2
  have ty : Shared.TypeIs { s with heap:=s.heap.push (setO led) } (.ref s.heap.objs.size) "set":=⟨_, Heap.get?_push_size _ rfl, rfl⟩
  have e7:=ft.init.lookup
  have e8:=ft.init.bind (.ref s.heap.objs.size)
  repeat (any_goals (first | assumption | wp_step))
  refine codeAny_mono (codeAny_call_builtin (R:=wants (fun z u=>z = .none∧∃ h' tk,u = { s with heap:=h',toks:=tk }∧K (.ref s.heap.objs.size) { s with heap:=h',toks:=tk }) E) ft.init.plain PySem.F.entry_set_init (check_set_init_1 ty ?_)) fun q' u' hq'=>?_
  ·refine wpAny_mono (body led rfl) (fun f u hf=>?_) fun _ _ z=>z
   obtain ⟨h',tk,rfl,rfl,hk⟩:=hf
   exact ⟨rfl,h',tk,rfl,hk⟩
  ·match q',hq' with
   | .error _,hq'=>exact hq'
   | .ok (.ret z),⟨h1,h',tk,h2,hk⟩ =>
    subst h1 h2
    repeat (any_goals (first | assumption | wp_step))
end
end _x
namespace _d
end _d
namespace _r
open PySem PySem.Spec PyProof.Rows _l
section
variable {X : Cx} {e : Expr} {f : _d.FE} {p p0 pos pos0 : Pos}
end
section
variable {X : Cx} {pins : List (Addr×Obj)} {σ : _l.St} {H : Hp} {s : Shared} {a : Addr} {kvs : List (Key×V)} {k : Key} {u : Value} {A : Around} {E : Value→Shared→Prop}
end
section
variable {j : Nat} {σs : _l.St} {ρs : _d.Env} {H0s Hs : Hp} {σ : _l.St} {ρ ρ' : _d.Env} {H0 H H0' H' : Hp} {ks : List Int} {rows : List (List _d.Dat)}
end
section
variable {D : Ends} {σ : _l.St} {H : Hp} {j kx vx : Nat}
end
section
variable {X : Cx} {rest : List Stmt} {j kx vx : Nat} {pos : Pos}
end
section
variable {X : Cx} {tg : Expr} {x : Str} {px ap cp : Pos} {j : Nat}
end
end _r
namespace _x
open PySem PySem.SetTable
noncomputable def adv (mask : Nat) (p : Probe) : Probe :=
 if p.more > 0 then { p with j:=p.j + 1,more:=p.more - 1 } else { p with j:=(leap mask p.i p.perturb).1,more:=runEnd mask (leap mask p.i p.perturb).1 - (leap mask p.i p.perturb).1,i:=(leap mask p.i p.perturb).1,perturb:=(leap mask p.i p.perturb).2 }
theorem adv_eq (t : SetTable) (p : Probe) : t.advance p = adv t.mask p:=rfl
noncomputable def pth (mask : Nat) (h : Int) : Nat→Probe
 | 0=>{ j:=bits h % (mask + 1),more:=runEnd mask (bits h % (mask + 1)) - bits h % (mask + 1),i:=bits h % (mask + 1),perturb:=bits h,dummy:=none }
 | k + 1=>adv mask (pth mask h k)
theorem pth_dummy (mask : Nat) (h : Int) : ∀ k,(pth mask h k).dummy = none
 | 0=>rfl
 | k + 1=>by
  show (adv mask (pth mask h k)).dummy = none
  unfold adv
  split <;> exact pth_dummy mask h k
theorem go_trace {t : SetTable} {n : Nat} (g : Good t n) {h : Int} {q : Met} : ∀ (f k : Nat),probe.go t (fun _=>h + 1) h f (pth t.mask h k) = some q→∃ K,k≤K∧K < k + f∧(pth t.mask h K).j ∉ t.place.toList∧∀ l,k≤l→l < K→(pth t.mask h l).j∈t.place.toList
 | 0,k,e=>by unfold probe.go at e; cases e
 | f + 1,k,e=>by
  rcases g.slot (pth t.mask h k).j with ⟨q1,q2⟩ | ⟨q1,i,q2⟩
  ·exact ⟨k,Nat.le_refl _,by lia,q1,fun l h1 h2=>by lia⟩
  ·rw [go_live q2,adv_eq] at e
   obtain ⟨K,h1,h2,h3,h4⟩:=go_trace g f (k + 1) e
   refine ⟨K,by lia,by lia,h3,fun l hl hK=>?_⟩
   rcases Nat.eq_or_lt_of_le hl with z | z
   ·rw [← z]; exact q1
   ·exact h4 l z hK
theorem first_empty {t : SetTable} {n : Nat} (g : Good t n) (hn : n≤t.mask) (h : Int) : ∃ K,K < 10 * turns t.mask∧(pth t.mask h K).j ∉ t.place.toList∧∀ l,l < K→(pth t.mask h l).j∈t.place.toList:=by
 obtain ⟨j0,h0,n0⟩:=room (mask:=t.mask) (l:=t.place.toList) (by rw [Array.length_toList,g.sz]; exact hn)
 have hi : bits h % (t.mask + 1)≤t.mask:=Nat.le_of_lt_succ (Nat.mod_lt _ (Nat.succ_pos _))
 obtain ⟨m,hm,e⟩:=hit g.cv hi (bits_lt h) h0
 obtain ⟨j,a,_,_⟩:=leaps_ok g (h:=h) (t.mask + 14) (10 * turns t.mask) (bits h % (t.mask + 1)) (bits h) hi (by unfold turns; lia) ⟨m,hm,by rw [e]; exact n0⟩
 obtain ⟨K,h1,h2,h3,h4⟩:=go_trace g (10 * turns t.mask) 0 a
 exact ⟨K,by lia,h3,fun l hl=>h4 l (Nat.zero_le _) hl⟩
theorem live_at {t : SetTable} {n : Nat} (g : Good t n) {j : Nat} (h : j∈t.place.toList) : t.slot j = .live (below t.place j)∧t.place[below t.place j]? = some j:=by
 have e:=(below_mem g.ris).mpr h
 refine ⟨?_,e⟩
 unfold SetTable.slot
 dsimp only
 rw [if_pos (by rw [e]; exact beq_self_eq_true _)]
theorem search_from {t : SetTable} {n : Nat} (g : Good t n) {h : Int} (ha : Nat→Int) {K : Nat} (hK : (pth t.mask h K).j ∉ t.place.toList) (hl : ∀ l,l < K→(pth t.mask h l).j∈t.place.toList) : ∀ (f k : Nat),k≤K→K < k + f →
  (probe.go t ha h f (pth t.mask h k) = some (.empty (pth t.mask h K).j none)∧∀ l,k≤l→l < K→ha (below t.place (pth t.mask h l).j)≠h) ∨
  ∃ m,k≤m∧m < K∧probe.go t ha h f (pth t.mask h k) = some (.candidate (pth t.mask h m).j (below t.place (pth t.mask h m).j) (pth t.mask h (m + 1)))∧ha (below t.place (pth t.mask h m).j) = h∧∀ l,k≤l→l < m→ha (below t.place (pth t.mask h l).j)≠h
 | 0,k,h1,h2=>by lia
 | f + 1,k,h1,h2=>by
  rcases Nat.eq_or_lt_of_le h1 with z | z
  ·subst z
   left
   refine ⟨?_,fun l a b=>by lia⟩
   rcases g.slot (pth t.mask h k).j with ⟨_,q2⟩ | ⟨q1,_⟩
   ·conv=>lhs; unfold probe.go
    rw [q2]
    dsimp only
    rw [pth_dummy]
   ·exact absurd q1 hK
  ·obtain ⟨q1,q2⟩:=live_at g (hl k z)
   by_cases e : ha (below t.place (pth t.mask h k).j) = h
   ·right
    refine ⟨k,Nat.le_refl _,z,?_,e,fun l a b=>by lia⟩
    conv=>lhs; unfold probe.go
    rw [q1]
    dsimp only
    rw [if_pos (by simpa using e)]
    rfl
   ·have step : probe.go t ha h (f + 1) (pth t.mask h k) = probe.go t ha h f (pth t.mask h (k + 1)):=by
     conv=>lhs; unfold probe.go
     rw [q1]
     dsimp only
     rw [if_neg (by simpa using e)]
     rfl
    rw [step]
    rcases search_from g ha hK hl f (k + 1) z (by lia) with ⟨r1,r2⟩ | ⟨m,r1,r2,r3,r4,r5⟩
    ·refine .inl ⟨r1,fun l a b=>?_⟩
     rcases Nat.eq_or_lt_of_le a with y | y
     ·rw [← y]; exact e
     ·exact r2 l y b
    ·refine .inr ⟨m,by lia,r2,r3,r4,fun l a b=>?_⟩
     rcases Nat.eq_or_lt_of_le a with y | y
     ·rw [← y]; exact e
     ·exact r5 l y b
noncomputable def Rch (t : SetTable) (es : Array (Int×Value)) : Prop:=∀ (e : Int×Value) (j : Nat),(e,j)∈es.toList.zip t.place.toList→∃ k,(pth t.mask e.1 k).j = j∧∀ l,l < k→(pth t.mask e.1 l).j∈t.place.toList
theorem zip_at {α β : Type} {xs : Array α} {ys : Array β} {i : Nat} {x : α} {y : β} (h1 : xs[i]? = some x) (h2 : ys[i]? = some y) : (x,y)∈xs.toList.zip ys.toList:=by
 refine List.mem_iff_getElem?.mpr ⟨i,?_⟩
 rw [List.getElem?_zip_eq_some]
 exact ⟨by simpa using h1,by simpa using h2⟩
theorem Rch.ahead {t : SetTable} {es : Array (Int×Value)} (r : Rch t es) {h : Int} {K j : Nat} {x : Value} (hK : (pth t.mask h K).j ∉ t.place.toList) (hz : ((h,x),j)∈es.toList.zip t.place.toList) : ∃ k,k < K∧(pth t.mask h k).j = j:=by
 refine bc fun ζ=>?_
 obtain ⟨k,h1,h2⟩:=r (h,x) j hz
 apply ζ;clear ζ
 refine ⟨k,?_,h1⟩
 rcases Nat.lt_trichotomy k K with z | z | z
 ·exact z
 ·subst z
  have h1 : (pth t.mask h k).j = j:=h1
  exact absurd (h1 ▸ (List.of_mem_zip hz).2) hK
 ·exact absurd (h2 K z) hK
theorem Rch.fresh (led : Bool) : Rch (.fresh 0 0 led) #[]:=fun e j h=>by cases h
theorem zip_insert {α β : Type} (xs : List α) (ys : List β) (p : Nat) (x : α) (y : β) (hl : xs.length = ys.length) (u : α) (v : β) (h : (u,v)∈(xs.take p ++ x :: xs.drop p).zip (ys.take p ++ y :: ys.drop p)) : (u,v) = (x,y)∨(u,v)∈xs.zip ys:=by
 rw [List.zip_append (by rw [List.length_take,List.length_take,hl]),List.zip_cons_cons] at h
 rcases List.mem_append.mp h with h | h
 ·right
  have h' : (u,v)∈(xs.zip ys).take p:=by
   unfold List.zip at h ⊢
   rw [List.take_zipWith]
   exact h
  exact List.mem_of_mem_take h'
 ·rcases List.mem_cons.mp h with h | h
  ·exact .inl h
  ·right
   have h' : (u,v)∈(xs.zip ys).drop p:=by
    unfold List.zip at h ⊢
    rw [List.drop_zipWith]
    exact h
   exact List.mem_of_mem_drop h'
theorem Rch.put {t : SetTable} {es : Array (Int×Value)} (r : Rch t es) (g : Good t es.size) {h : Int} {x : Value} {K : Nat} (hl : ∀ l,l < K→(pth t.mask h l).j∈t.place.toList) :
  Rch (t.put (pth t.mask h K).j).1 (insertAt es (t.put (pth t.mask h K).j).2 (h,x)):=by
 have ep : (t.put (pth t.mask h K).j).1.place.toList = t.place.toList.take (below t.place (pth t.mask h K).j) ++ (pth t.mask h K).j :: t.place.toList.drop (below t.place (pth t.mask h K).j):=insert_list _ _ _
 have old : ∀ y∈t.place.toList,y∈(t.put (pth t.mask h K).j).1.place.toList:=fun y hy=>by
  rw [ep]
  have hy' : y∈t.place.toList.take (below t.place (pth t.mask h K).j) ++ t.place.toList.drop (below t.place (pth t.mask h K).j):=by rw [List.take_append_drop]; exact hy
  rcases List.mem_append.mp hy' with z | z
  ·exact List.mem_append_left _ z
  ·exact List.mem_append_right _ (List.mem_cons_of_mem _ z)
 intro e j hz
 have hm : (t.put (pth t.mask h K).j).1.mask = t.mask:=rfl
 rw [hm]
 rw [ep,insert_list] at hz
 rcases zip_insert es.toList t.place.toList _ (h,x) (pth t.mask h K).j (by rw [Array.length_toList,Array.length_toList,g.sz]) e j hz with z | z
 ·injection z with z1 z2
  subst z1 z2
  exact ⟨K,rfl,fun l hlK=>old _ (hl l hlK)⟩
 ·refine bc fun ζ=>?_
  obtain ⟨k,h1,h2⟩:=r e j z
  exact ζ (⟨k,h1,fun l hlk=>old _ (h2 l hlk)⟩)
theorem pth_run {mask : Nat} {h : Int} {k0 i p : Nat} (e : pth mask h k0 = atRun mask i p) : ∀ m,m≤runEnd mask i - i→pth mask h (k0 + m) = { j:=i + m,more:=runEnd mask i - i - m,i:=i,perturb:=p,dummy:=none }
 | 0,_=>e
 | m + 1,hm=>by
  show adv mask (pth mask h (k0 + m)) = _
  rw [pth_run e m (by lia)]
  unfold adv
  dsimp only
  rw [if_pos (by lia)]
  congr 1
theorem pth_leap {mask : Nat} {h : Int} {k0 i p : Nat} (e : pth mask h k0 = atRun mask i p) : pth mask h (k0 + (runEnd mask i - i) + 1) = atRun mask (leap mask i p).1 (leap mask i p).2:=by
 show adv mask (pth mask h (k0 + (runEnd mask i - i))) = _
 rw [pth_run e _ (Nat.le_refl _)]
 unfold adv
 dsimp only
 rw [if_neg (by lia)]
 rfl
theorem taken {owner : Array (Option Nat)} {j : Nat} (hj : j < owner.size) (h : ¬ (owner.getD j (some 0)).isNone = true) : ∃ v,owner[j]? = some (some v):=by
 rw [Array.getD_eq_getD_getElem?,Array.getElem?_eq_getElem hj,Option.getD_some] at h
 rw [Array.getElem?_eq_getElem hj]
 cases q : owner[j] with
 | none=>rw [q] at h; exact absurd rfl h
 | some v=>exact ⟨v,rfl⟩
theorem free_pth {mask : Nat} {owner : Array (Option Nat)} {h : Int} (hs : owner.size = mask + 1) : ∀ (fuel i p k0 j : Nat),pth mask h k0 = atRun mask i p→i≤mask→layClean.free mask owner fuel i p = some j→∃ K,k0≤K∧(pth mask h K).j = j∧j≤mask∧owner[j]? = some none∧∀ l,k0≤l→l < K→∃ v,owner[(pth mask h l).j]? = some (some v)
 | 0,i,p,k0,j,_,_,e=>by unfold layClean.free at e; cases e
 | fuel + 1,i,p,k0,j,hp,hi,e=>by
  have hr : i≤runEnd mask i∧runEnd mask i≤mask:=by
   unfold runEnd
   split <;> lia
  unfold layClean.free at e
  cases hf : (List.range (runEnd mask i + 1 - i)).find? fun k=>(owner.getD (i + k) (some 0)).isNone with
  | some k =>
   rw [hf] at e
   dsimp only at e
   cases e
   obtain ⟨f1,f2,f3⟩:=List.find?_range_eq_some.mp hf
   have f2:=List.mem_range.mp f2
   refine ⟨k0 + k,by lia,by rw [pth_run hp k (by lia)],by lia,?_,fun l h1 h2=>?_⟩
   ·have hlt : i + k < owner.size:=by lia
    rw [Array.getD_eq_getD_getElem?,Array.getElem?_eq_getElem hlt,Option.getD_some] at f1
    rw [Array.getElem?_eq_getElem hlt]
    exact congrArg some (Option.isNone_iff_eq_none.mp f1)
   ·have el : l = k0 + (l - k0):=by lia
    rw [el,pth_run hp (l - k0) (by lia)]
    refine taken (by show i + (l - k0) < _; lia) fun z=>?_
    have z' : (owner.getD (i + (l - k0)) (some 0)).isNone = true:=z
    have t:=f3 (l - k0) (by lia)
    rw [z'] at t
    cases t
  | none =>
   rw [hf] at e
   dsimp only at e
   have all:=List.find?_eq_none.mp hf
   obtain ⟨K,q1,q2,q3,q4,q5⟩:=free_pth hs fuel (leap mask i p).1 (leap mask i p).2 _ j (pth_leap hp) (lp_le mask 1 (i,p) hi) e
   refine ⟨K,by lia,q2,q3,q4,fun l h1 h2=>?_⟩
   rcases Nat.lt_or_ge l (k0 + (runEnd mask i - i) + 1) with z | z
   ·have el : l = k0 + (l - k0):=by lia
    rw [el,pth_run hp (l - k0) (by lia)]
    exact taken (by show i + (l - k0) < _; lia) (all (l - k0) (List.mem_range.mpr (by lia)))
   ·exact q5 l z h2
noncomputable def ROw (mask : Nat) (H : List Int) (owner : Array (Option Nat)) : Prop:=∀ j idx : Nat,owner[j]? = some (some idx)→∃ h k,H[idx]? = some h∧(pth mask h k).j = j∧∀ l,l < k→∃ v,owner[(pth mask h l).j]? = some (some v)
theorem fold_none {mask : Nat} : ∀ hs : List Int,hs.foldl (fun acc h=>do
   let (owner,k) ← acc
   let j ← layClean.free mask owner (turns mask) (bits h % (mask + 1)) (bits h)
   pure (owner.setIfInBounds j (some k),k + 1)) (none : Option (Array (Option Nat)×Nat)) = none
 | []=>rfl
 | h :: hs=>fold_none hs
theorem lay_rch {mask : Nat} {H : List Int} : ∀ (hs : List Int) (owner owner' : Array (Option Nat)) (k m : Nat),H.drop k = hs→owner.size = mask + 1→ROw mask H owner→hs.foldl (fun acc h=>do
   let (owner,k) ← acc
   let j ← layClean.free mask owner (turns mask) (bits h % (mask + 1)) (bits h)
   pure (owner.setIfInBounds j (some k),k + 1)) (some (owner,k)) = some (owner',m)→ROw mask H owner'
 | [],owner,owner',k,m,_,_,r,e=>by cases e; exact r
 | h :: hs,owner,owner',k,m,hd,sz,r,e=>by
  rw [List.foldl_cons] at e
  cases q : layClean.free mask owner (turns mask) (bits h % (mask + 1)) (bits h) with
  | none =>
   have : (do
    let (owner,k) ← some (owner,k)
    let j ← layClean.free mask owner (turns mask) (bits h % (mask + 1)) (bits h)
    pure (owner.setIfInBounds j (some k),k + 1) : Option (Array (Option Nat)×Nat)) = none:=by
    show (layClean.free mask owner (turns mask) (bits h % (mask + 1)) (bits h)).bind _ = none
    rw [q]
    rfl
   rw [this,fold_none] at e
   cases e
  | some j =>
   have this : (do
    let (owner,k) ← some (owner,k)
    let j ← layClean.free mask owner (turns mask) (bits h % (mask + 1)) (bits h)
    pure (owner.setIfInBounds j (some k),k + 1) : Option (Array (Option Nat)×Nat)) = some (owner.setIfInBounds j (some k),k + 1):=by
    show (layClean.free mask owner (turns mask) (bits h % (mask + 1)) (bits h)).bind _ = _
    rw [q]
    rfl
   rw [this] at e
   have hk : H[k]? = some h:=by
    have:=congrArg (fun l=>l[0]?) hd
    simpa using this
   obtain ⟨K,q1,q2,q3,q4,q5⟩:=free_pth (h:=h) sz (turns mask) _ _ 0 j rfl (Nat.le_of_lt_succ (Nat.mod_lt _ (Nat.succ_pos _))) q
   have jl : j < owner.size:=by lia
   have keep : ∀ x v,owner[x]? = some (some v)→(owner.setIfInBounds j (some k))[x]? = some (some v):=fun x v hx=>by
    rw [Array.getElem?_setIfInBounds]
    split
    ·rename_i z
     rw [← z,q4] at hx
     cases hx
    ·exact hx
   refine lay_rch hs _ owner' (k + 1) m ?_ (by rw [Array.size_setIfInBounds]; exact sz) (fun x idx hx=>?_) e
   ·rw [← List.drop_drop,Nat.add_comm] at *
    first | (rw [hd]; rfl) | (have:=congrArg (List.drop 1) hd; simpa using this)
   ·rw [Array.getElem?_setIfInBounds] at hx
    split at hx
    ·rename_i z
     subst z
     cases hx
     refine ⟨h,K,hk,q2,fun l hl=>?_⟩
     obtain ⟨v,hv⟩:=q5 l (Nat.zero_le _) hl
     exact ⟨v,keep _ _ hv⟩
    ·obtain ⟨h',k',r1,r2,r3⟩:=r x idx hx
     exact ⟨h',k',r1,r2,fun l hl=>by obtain ⟨v,hv⟩:=r3 l hl; exact ⟨v,keep _ _ hv⟩⟩
theorem zip_live {es : Array (Int×Value)} {e : Int×Value} {j : Nat} : ∀ (L : List (Nat×Nat)),(∀ q∈L,∃ e,es[q.2]? = some e)→(e,j)∈((L.map (·.2)).filterMap (es[·]?)).zip (L.map (·.1))→∃ idx,(j,idx)∈L∧es[idx]? = some e
 | [],_,h=>by cases h
 | q :: L,ok,h=>by
  obtain ⟨e0,h0⟩:=ok q List.mem_cons_self
  rw [List.map_cons,List.map_cons,List.filterMap_cons,h0] at h
  rcases List.mem_cons.mp h with z | z
  ·injection z with z1 z2
   subst z1 z2
   exact ⟨q.2,List.mem_cons_self,h0⟩
  ·refine bc fun ζ=>?_
   obtain ⟨idx,h1,h2⟩:=zip_live L (fun q hq=>ok q (List.mem_cons_of_mem _ hq)) z
   exact ζ (⟨idx,List.mem_cons_of_mem _ h1,h2⟩)
theorem relaid_ok {t : SetTable} {es : Array (Int×Value)} {wanted : Nat} (c : Cov (sizeAbove wanted - 1)) (hn : es.size≤sizeAbove wanted - 1) (pl : t.plain = true) :
  ∃ t' order,t.relaid (es.map (·.1)) wanted = some (t',order)∧(order.filterMap (es[·]?)).size = es.size∧Good t' es.size∧t'.mask = sizeAbove wanted - 1∧t'.led = t.led∧(order.filterMap (es[·]?)).toList.Perm es.toList∧Rch t' (order.filterMap (es[·]?)):=by
 obtain ⟨t',order,q1,q2,q3,q4,q5,q6,q7,q8,q9⟩:=laid_ok (finger:=t.finger) (moves:=t.movedTo (sizeAbove wanted - 1)) (led:=t.led) (plain:=t.plain) (hashes:=es.map (·.1)) c (by rw [Array.size_map]; exact hn)
 rw [Array.size_map] at q8 q9
 have pe : (order.filterMap (es[·]?)).toList.Perm es.toList:=by
  rw [Array.toList_filterMap]
  refine (q9.filterMap _).trans (.of_eq ?_)
  have : ∀ l : List (Int×Value),(List.range l.length).filterMap (fun i=>l[i]?) = l:=fun l=>by
   induction l with
   | nil=>rfl
   | cons x l ih =>
    rw [List.length_cons,List.range_succ_eq_map,List.filterMap_cons]
    show x :: _ = _
    rw [List.filterMap_map]
    congr 1
  have h2:=this es.toList
  simpa using h2
 refine ⟨t',order,q1,by rw [← Array.length_toList,pe.length_eq,Array.length_toList],⟨q5,q4.trans pl,by rw [q2]; exact c,q6,by rw [q2]; exact q7,q8⟩,q2,q3,pe,?_⟩
 refine bc fun ζ=>?_
 obtain ⟨owner,f1,f2,f3⟩:=lay_fold c (es.map (·.1)).toList (Array.replicate (sizeAbove wanted - 1 + 1) none) 0 (by simp) (by
  have : lay (sizeAbove wanted - 1) (Array.replicate (sizeAbove wanted - 1 + 1) none) = []:=by
   unfold lay
   rw [List.filterMap_eq_nil_iff]
   intro j hj
   unfold ow
   rw [Array.getD_eq_getD_getElem?,Array.getElem?_replicate]
   split <;> rfl
  rw [this]
  exact .refl _) (by rw [Array.length_toList,Array.size_map]; lia)
 have ro : ROw (sizeAbove wanted - 1) (es.map (·.1)).toList owner:=lay_rch (H:=(es.map (·.1)).toList) _ _ _ 0 _ rfl (by simp) (fun j idx h=>by
  rw [Array.getElem?_replicate] at h
  split at h <;> cases h) f1
 have lc : layClean (sizeAbove wanted - 1) (es.map (·.1)) = some owner:=by
  unfold layClean
  rw [← Array.foldl_toList,f1]
  rfl
 unfold laid at q1
 rw [lc] at q1
 cases q1
 apply ζ;clear ζ
 intro e j hz
 have hmask : ∀ x v,owner[x]? = some (some v)→x∈((List.range (sizeAbove wanted - 1 + 1)).filterMap fun j=>(owner.getD j none).map (j,·)).map (·.1):=fun x v hx=>by
  have hlt:=(Array.getElem?_eq_some_iff.mp hx).1
  refine List.mem_map.mpr ⟨(x,v),List.mem_filterMap.mpr ⟨x,List.mem_range.mpr (by lia),?_⟩,rfl⟩
  rw [Array.getD_eq_getD_getElem?,hx]
  rfl
 have own : ∀ q∈(List.range (sizeAbove wanted - 1 + 1)).filterMap fun j=>(owner.getD j none).map (j,·),owner[q.1]? = some (some q.2):=fun q hq=>by
  refine bc fun ζ=>?_
  obtain ⟨x,hx,ex⟩:=List.mem_filterMap.mp hq
  apply ζ;clear ζ
  have hlt : x < owner.size:=by have:=List.mem_range.mp hx; lia
  rw [Array.getD_eq_getD_getElem?,Array.getElem?_eq_getElem hlt,Option.getD_some] at ex
  cases y : owner[x] with
  | none=>rw [y] at ex; cases ex
  | some v =>
   rw [y] at ex
   cases ex
   show owner[x]? = some (some v)
   rw [Array.getElem?_eq_getElem hlt,y]
 have hash : ∀ idx h,(es.map (·.1)).toList[idx]? = some h→∃ x,es[idx]? = some (h,x):=fun idx h hx=>by
  rw [Array.getElem?_toList,Array.getElem?_map] at hx
  cases y : es[idx]? with
  | none=>rw [y] at hx; cases hx
  | some p =>
   rw [y] at hx
   cases hx
   exact ⟨p.2,y⟩
 rw [Array.toList_filterMap] at hz
 refine bc fun ζ=>?_
 obtain ⟨idx,g1,g2⟩:=zip_live _ (fun q hq=>by
  obtain ⟨h,k,r1,_⟩:=ro q.1 q.2 (own q hq)
  obtain ⟨x,hx⟩:=hash _ _ r1
  exact ⟨_,hx⟩) hz
 obtain ⟨h,k,r1,r2,r3⟩:=ro j idx (own _ g1)
 obtain ⟨x,hx⟩:=hash _ _ r1
 rw [g2] at hx
 cases hx
 apply ζ;clear ζ
 refine ⟨k,r2,fun l hl=>?_⟩
 obtain ⟨v,hv⟩:=r3 l hl
 exact hmask _ v hv
section
variable {prog : Program} {w : World} {A : Around} {E : Value→Shared→Prop} {s : Shared} {ks : List Int} {a : Addr}
theorem ints_in {items : Array Value} : ∀ {ks : List Int} {l : List Value},ItemsAre (intKind prog w) ks l→∀ v∈l,∃ n t,v = Value.int n t:=fun {ks l} h=>by
 induction h with
 | nil=>intro v hv; cases hv
 | cons h1 _ ih =>
  intro v hv
  rcases List.mem_cons.mp hv with rfl | hv
  ·obtain ⟨t,e⟩:=Value.isInt_shape h1
   exact ⟨_,t,e⟩
  ·exact ih v hv
theorem class_no {Q : Bool→Shared→Prop} (hk : IsTupleKey (intKind prog w) s.heap ks a) (h : Q false s) : wpAny (model prog w) A (ofAClassStatement 8 (.ref a)) Q E s:=by
 have hT:=hk.typeIs
 refine bc fun ζ=>?_
 obtain ⟨o,items,n,ho,_,hd,hi⟩:=hk
 apply ζ;clear ζ
 unfold ofAClassStatement
 refine wpAny_bind (wpAny_typeOf hT ?_)
 dsimp only
 refine wpAny_bind (wpAny_pure ?_)
 simp only [Bool.not_true,Bool.false_eq_true,if_false]
 refine wpAny_bind (wpAny_seqItems ho hd (wpAny_bind ?_))
 show wpAny _ _ (forIn items _ _) _ _ s
 rw [← Array.forIn_toList]
 refine wpAny_forIn_list _ (fun rest r s'=>r.1 = none∧s' = s∧∀ v∈rest,∃ n t,v = Value.int n t) _ ?_ ?_ _ _ ⟨rfl,rfl,ints_in (items:=items) hi⟩
 ·intro v rest r s' zP4
  refine bc fun ζ=>?_
  obtain ⟨hr,rfl,hall⟩:=zP4
  obtain ⟨m,t,rfl⟩:=hall v List.mem_cons_self
  apply ζ;clear ζ
  refine wpAny_bind (wpAny_pure (a:=false) (wpAny_pure ⟨rfl,rfl,fun u hu=>hall u (List.mem_cons_of_mem _ hu)⟩))
 ·intro zP0 s' zP2
  refine bc fun ζ=>?_
  obtain ⟨r1,r2⟩:=zP0
  obtain ⟨hr,rfl,_⟩:=zP2
  apply ζ;clear ζ
  simp only at hr
  subst hr
  exact wpAny_pure h
theorem hash_yes {Q : Bool→Shared→Prop} (hk : IsTupleKey (intKind prog w) s.heap ks a) (h : Q true s) : wpAny (model prog w) A (hashByValue 8 (.ref a)) Q E s:=by
 have hT:=hk.typeIs
 refine bc fun ζ=>?_
 obtain ⟨o,items,n,ho,_,hd,hi⟩:=hk
 apply ζ;clear ζ
 unfold hashByValue
 refine wpAny_bind (wpAny_specialOf hT PySem.F.slot_tuple_hash.lookup ?_)
 dsimp only
 refine wpAny_bind (wpAny_seqItems ho hd (wpAny_bind ?_))
 show wpAny _ _ (forIn items _ _) _ _ s
 rw [← Array.forIn_toList]
 refine wpAny_forIn_list _ (fun rest r s'=>r.1 = none∧s' = s∧∀ v∈rest,∃ n t,v = Value.int n t) _ ?_ ?_ _ _ ⟨rfl,rfl,ints_in (items:=items) hi⟩
 ·intro v rest r s' zP4
  refine bc fun ζ=>?_
  obtain ⟨hr,rfl,hall⟩:=zP4
  obtain ⟨m,t,rfl⟩:=hall v List.mem_cons_self
  apply ζ;clear ζ
  refine wpAny_bind (wpAny_pure (a:=true) (wpAny_pure ⟨rfl,rfl,fun u hu=>hall u (List.mem_cons_of_mem _ hu)⟩))
 ·intro zP0 s' zP2
  refine bc fun ζ=>?_
  obtain ⟨r1,r2⟩:=zP0
  obtain ⟨hr,rfl,_⟩:=zP2
  apply ζ;clear ζ
  simp only at hr
  subst hr
  exact wpAny_pure h
theorem unseen {stored : List Value} {Q : Bool→Shared→Prop} (hk : IsTupleKey (intKind prog w) s.heap ks a) (hs : ∀ v∈stored,∃ ks b,v = .ref b∧IsTupleKey (intKind prog w) s.heap ks b) (h : Q false s) : wpAny (model prog w) A (searchCouldBeSeen (.ref a) stored) Q E s:=by
 unfold searchCouldBeSeen
 refine wpAny_bind ?_
 refine wpAny_forIn_list _ (fun rest r s'=>r.1 = none∧s' = s∧∀ v∈rest,∃ ks b,v = .ref b∧IsTupleKey (intKind prog w) s.heap ks b) _ ?_ ?_ _ _ ⟨rfl,rfl,hs⟩
 ·rintro v rest r s' ⟨hr,rfl,hall⟩
  obtain ⟨ks',b,rfl,hb⟩:=hall v List.mem_cons_self
  have next : ∀ u∈rest,∃ ks b,u = .ref b∧IsTupleKey (intKind prog w) s'.heap ks b:=fun u hu=>hall u (List.mem_cons_of_mem _ hu)
  dsimp only
  by_cases e : a = b
  ·subst e
   simp only [beq_self_eq_true,Bool.true_or,if_true]
   exact wpAny_pure ⟨rfl,rfl,next⟩
  ·have e' : (a == b) = false:=beq_eq_false_iff_ne.mpr e
   simp only [e',carriedByValue,Bool.false_and,Bool.or_false,Bool.false_eq_true,if_false]
   refine wpAny_bind (wpAny_eqIsQuiet_tuple hk ?_)
   simp only [Bool.not_true,Bool.false_eq_true,if_false]
   refine wpAny_bind (wpAny_eqIsQuiet_tuple hb ?_)
   simp only [Bool.not_true,Bool.false_eq_true,if_false]
   refine wpAny_bind (class_no hk ?_)
   simp only [Bool.false_eq_true,if_false]
   refine wpAny_bind (class_no hb ?_)
   simp only [Bool.false_eq_true,if_false]
   exact wpAny_pure ⟨rfl,rfl,next⟩
 ·rintro ⟨r1,r2⟩ s' ⟨hr,rfl,_⟩
  simp only at hr
  subst hr
  exact wpAny_pure h
end
noncomputable def AreT (prog : Program) (w : World) (h : Heap) (es : Array (Int×Value)) : Prop:=∀ e∈es.toList,∃ ks b,e = (tupleKeyHash (intKind prog w) ks,Value.ref b)∧IsTupleKey (intKind prog w) h ks b
section
variable {prog : Program} {w : World} {A : Around} {E : Value→Shared→Prop} {s : Shared} {ks : List Int} {a b : Addr} {es : Array (Int×Value)} {ep : Nat} {t : SetTable}
theorem from_ok {Q : SetFound→Shared→Prop} {K : Nat} {h : Int} (hh : tupleKeyHash (intKind prog w) ks = h) (hu : A.units < cLine) (x1 : SetAt s.heap a es ep t) (g : Good t es.size) (hm : es.size≤t.mask) (odd : t.mask % 2 = 1) (hE : AreT prog w s.heap es) (hx : IsTupleKey (intKind prog w) s.heap ks b)
  (hK : (pth t.mask h K).j ∉ t.place.toList) (hl : ∀ l,l < K→(pth t.mask h l).j∈t.place.toList) (hT : K < 10 * turns t.mask)
  (there : (∃ c,(h,Value.ref c)∈es.toList∧IsTupleKey (intKind prog w) s.heap ks c)→Q (.there none) s)
  (free : (∀ l c ks',l < K→es[below t.place (pth t.mask h l).j]? = some (h,Value.ref c)→IsTupleKey (intKind prog w) s.heap ks' c→ks'≠ks)→Q (.free (pth t.mask h K).j false) s) :
  ∀ (fuel k : Nat) (stand : Option Probe),stand.getD (t.probeStart h) = pth t.mask h k→k≤K→K < k + fuel →
   (∀ l c ks',l < k→es[below t.place (pth t.mask h l).j]? = some (h,Value.ref c)→IsTupleKey (intKind prog w) s.heap ks' c→ks'≠ks) →
   wpAny (model prog w) A (setSearchFrom a (.ref b) h true fuel stand) Q E s
 | 0,k,stand,_,h1,h2,_=>by lia
 | fuel + 1,k,stand,hs,h1,h2,no=>by
  unfold setSearchFrom
  refine wpAny_bind (setState_at x1 g hm ?_)
  dsimp only
  have gw : t.gaveWay = false:=by
   unfold SetTable.gaveWay
   rw [odd]
   rfl
  rw [gw]
  simp only [Bool.false_eq_true,if_false]
  rw [hs]
  rcases search_from g (fun i=>(es[i]?.map (·.1)).getD 0) hK hl (10 * turns t.mask) k h1 (by lia) with ⟨r1,r2⟩ | ⟨m,r1,r2,r3,r4,r5⟩
  ·have r1' : t.probe (fun i=>(es[i]?.map (·.1)).getD 0) h (pth t.mask h k) = some (.empty (pth t.mask h K).j none):=r1
   erw [r1']
   dsimp only
   refine wpAny_pure (free fun l c ks' lK hc hk=>?_)
   rcases Nat.lt_or_ge l k with z | z
   ·exact no l c ks' z hc hk
   ·have:=r2 l z lK
    rw [hc] at this
    exact absurd rfl this
  ·have r3' : t.probe (fun i=>(es[i]?.map (·.1)).getD 0) h (pth t.mask h k) = some (.candidate (pth t.mask h m).j (below t.place (pth t.mask h m).j) (pth t.mask h (m + 1))):=r3
   erw [r3']
   dsimp only
   refine bc fun ζ=>?_
   obtain ⟨lv,lp⟩:=live_at g (hl m r2)
   have ilt : below t.place (pth t.mask h m).j < es.size:=by
    have:=(Array.getElem?_eq_some_iff.mp lp).1
    rw [g.sz] at this
    exact this
   have ei : es[below t.place (pth t.mask h m).j]? = some es[below t.place (pth t.mask h m).j]:=Array.getElem?_eq_getElem ilt
   obtain ⟨kc,c,ec,hc⟩:=hE _ (Array.getElem_mem_toList ilt)
   apply ζ;clear ζ
   rw [ec] at ei
   rw [ei] at r4
   have r4 : tupleKeyHash (intKind prog w) kc = h:=r4
   rw [r4] at ei
   have quiet : ∀ v∈((es.filter (·.1 == h)).toList.map (·.2)),∃ ks b,v = Value.ref b∧IsTupleKey (intKind prog w) s.heap ks b:=fun v hv=>by
    refine bc fun ζ=>?_
    obtain ⟨e,he,rfl⟩:=List.mem_map.mp hv
    rw [Array.toList_filter] at he
    obtain ⟨k',b',e1,e2⟩:=hE e (List.mem_filter.mp he).1
    apply ζ;clear ζ
    exact ⟨k',b',by rw [e1],e2⟩
   have main : wpAny (model prog w) A (do
     let some (_, y):=es[below t.place (pth t.mask h m).j]? | unsupported "internal:set-entry"
     let equal ← holding [y] (eqBool y (.ref b))
     let (es',_,t') ← setState a
     if true && equal then return .there none
     let some same:=t'.sameMemory t.moves t.mask | unsupported "set.changed-during-lookup:is-the-new-block-at-the-old-address"
     let still ← match (if same then t'.slot (pth t.mask h m).j else .empty) with
      | .live i'=>match es'[i']? with
       | some (_,y')=>do pure (if ← isSame y' y then some i' else none)
       | none=>pure none
      | _=>pure none
     match still with
     | none=>rule "set.search.anew"; setSearchFrom a (.ref b) h true fuel none
     | some i'=>if equal then return .there (some i') else setSearchFrom a (.ref b) h true fuel (some (pth t.mask h (m + 1)))) Q E s:=by
    rw [ei]
    dsimp only
    refine wpAny_bind (wpAny_holding ((tupleKind (intKind prog w)).eqBool hu hc hx ?_))
    refine wpAny_bind (setState_at x1 g hm ?_)
    dsimp only
    by_cases eq : kc = ks
    ·subst eq
     simp only [decide_true,Bool.and_self,if_true]
     refine wpAny_pure (there ⟨c,?_,hc⟩)
     have:=Array.getElem_mem_toList ilt
     rw [ec,r4] at this
     exact this
    ·rw [decide_eq_false eq]
     simp only [Bool.and_false,Bool.false_eq_true,if_false]
     have sm : t.sameMemory t.moves t.mask = some true:=by
      unfold SetTable.sameMemory
      simp
     rw [sm]
     dsimp only
     simp only [if_true]
     rw [lv]
     dsimp only
     rw [ei]
     dsimp only
     refine wpAny_bind (wpAny_isSame_ref_self (wpAny_bind (wpAny_pure ?_)))
     simp only [if_true]
     refine from_ok hh hu x1 g hm odd hE hx hK hl hT there free fuel (m + 1) _ rfl (by lia) (by lia) fun l c' ks' hlm hc' hk'=>?_
     rcases Nat.lt_or_ge l k with z | z
     ·exact no l c' ks' z hc' hk'
     ·rcases Nat.lt_or_ge l m with y | y
      ·have:=r5 l z y
       rw [hc'] at this
       exact absurd rfl this
      ·cases (show l = m by lia)
       rw [ei] at hc'
       cases hc'
       intro q
       subst q
       exact eq ((tupleKind (intKind prog w)).inj hc hk')
   cases hled : t.led with
   | true =>
    simp only [Bool.not_true,Bool.false_eq_true,if_false]
    exact main
   | false =>
    simp only [Bool.not_false,if_true]
    refine wpAny_bind (unseen hx quiet ?_)
    simp only [Bool.false_eq_true,if_false]
    exact main
end
theorem run_le (mask i : Nat) (h : i≤mask) : i + (runEnd mask i - i)≤mask:=by
 unfold runEnd
 split <;> lia
theorem pth_le (mask : Nat) (h : Int) : ∀ k,(pth mask h k).j + (pth mask h k).more≤mask
 | 0=>run_le mask _ (Nat.le_of_lt_succ (Nat.mod_lt _ (Nat.succ_pos _)))
 | k + 1=>by
  have ih:=pth_le mask h k
  show (adv mask (pth mask h k)).j + (adv mask (pth mask h k)).more≤mask
  unfold adv
  split
  ·dsimp only
   lia
  ·exact run_le mask _ (by unfold leap; exact Nat.le_of_lt_succ (Nat.mod_lt _ (Nat.succ_pos mask)))
noncomputable abbrev hsh (prog : Program) (w : World) (ks : List Int) : Int:=tupleKeyHash (intKind prog w) ks
noncomputable def itm (prog : Program) (w : World) (q : List Int×Addr) : Int×Value:=(hsh prog w q.1,Value.ref q.2)
noncomputable def SetT (prog : Program) (w : World) (h : Heap) (a : Addr) (P : List (List Int×Addr)) : Prop:=(∃ es ep t, SetAt h a es ep t∧Good t es.size∧Rch t es∧Small t es.size∧(t.led = !w.params.followText "set-order")∧es.toList.Perm (P.map (itm prog w)))∧∀ q∈P, IsTupleKey (intKind prog w) h q.1 q.2
theorem key_at {prog : Program} {w : World} {h h' : Heap} {ks : List Int} {c : Addr} (x : IsTupleKey (intKind prog w) h ks c) (e : ∀ o,h.get? c = some o→h'.get? c = some o) : IsTupleKey (intKind prog w) h' ks c :=
 let ⟨o,items,n,ho,r⟩:=x
 ⟨o,items,n,e o ho,r⟩
theorem apart {prog : Program} {w : World} {h : Heap} {ks : List Int} {a c : Addr} {es ep t} (x : SetAt h a es ep t) (y : IsTupleKey (intKind prog w) h ks c) : c≠a:=fun z=>by
 subst z
 obtain ⟨o,ho,hex,_⟩:=x
 obtain ⟨o',items,n,ho',hc,_⟩:=y
 rw [ho] at ho'
 cases ho'
 have:=hex.1
 rw [hc] at this
 exact absurd this (by decide)
section
variable {prog : Program} {w : World} {A : Around} {E : Value→Shared→Prop} {s : Shared} {ks : List Int} {a b : Addr} {P : List (List Int×Addr)}
theorem addT_ok {Q : Bool→Shared→Prop} (hu : A.units < cLine) (x : SetT prog w s.heap a P) (hx : IsTupleKey (intKind prog w) s.heap ks b) (hn : P.length + 1≤76)
  (h1 : (∃ q∈P,q.1 = ks)→Q false s) (h2 : (∀ q∈P,q.1≠ks)→∀ h',Heap.SameBut a s.heap h'→SetT prog w h' a (P ++ [(ks,b)])→Q true { s with heap:=h' }) :
  wpAny (model prog w) A (setAddHashed a (.ref b) (hsh prog w ks)) Q E s:=by
 refine bc fun ζ=>?_
 obtain ⟨⟨es,ep,t,x1,g,rc,sm,hl,hp⟩,hk⟩:=x
 obtain ⟨o,ho,hex,hd⟩:=id x1
 apply ζ;clear ζ
 have hlen : es.size = P.length:=by rw [← Array.length_toList,hp.length_eq,List.length_map]
 have hE : AreT prog w s.heap es:=fun e he=>by
  refine bc fun ζ=>?_
  obtain ⟨q,hq,rfl⟩:=List.mem_map.mp (hp.mem_iff.mp he)
  exact ζ (⟨q.1,q.2,rfl,hk q hq⟩)
 have odd : t.mask % 2 = 1:=by rcases sm with ⟨q,_⟩ | ⟨q,_⟩ | ⟨q,_⟩ <;> rw [q]
 refine bc fun ζ=>?_
 obtain ⟨K,k1,k2,k3⟩:=first_empty g sm.le (hsh prog w ks)
 apply ζ;clear ζ
 have hT : 10 * turns t.mask≤100000:=by
  unfold turns
  rcases sm with ⟨q,_⟩ | ⟨q,_⟩ | ⟨q,_⟩ <;> rw [q] <;> decide
 unfold setAddHashed setAddHashedIn
 refine wpAny_holding (wpAny_bind (setState_at x1 g sm.le ?_))
 dsimp only
 have bs : byScan (Value.ref b) es = false:=rfl
 rw [bs]
 simp only [Bool.false_eq_true,if_false]
 unfold setSearch
 refine wpAny_bind (from_ok (K:=K) rfl hu x1 g sm.le odd hE hx k2 k3 k1 (fun ⟨c,hc,hkc⟩=>?th) (fun free=>?fr) 100000 0 none rfl (Nat.zero_le _) (by lia) fun l c ks' hl0=>by lia)
 case th =>
  dsimp only
  refine wpAny_pure (h1 ?_)
  refine bc fun ζ=>?_
  obtain ⟨q,hq,e⟩:=List.mem_map.mp (hp.mem_iff.mp hc)
  apply ζ;clear ζ
  unfold itm at e
  injection e with e1 e2
  injection e2 with e2
  refine ⟨q,hq,(tupleKind (intKind prog w)).inj (hk q hq) (e2 ▸ hkc)⟩
 case fr =>
  dsimp only
  have new : ∀ q∈P,q.1≠ks:=fun q hq e=>by
   have hm:=hp.mem_iff.mpr (List.mem_map.mpr ⟨q,hq,rfl⟩)
   refine bc fun ζ=>?_
   obtain ⟨i,hi,ei⟩:=List.getElem_of_mem hm
   apply ζ;clear ζ
   have hi' : i < es.size:=by rw [← Array.length_toList]; exact hi
   have e1 : es[i]? = some (itm prog w q):=by rw [Array.getElem?_eq_getElem hi']; exact congrArg some (by simpa using ei)
   have hip : i < t.place.size:=by rw [g.sz]; exact hi'
   have e2 : t.place[i]? = some t.place[i]:=Array.getElem?_eq_getElem hip
   unfold itm at e1
   rw [e] at e1
   refine bc fun ζ=>?_
   obtain ⟨l,lK,el⟩:=rc.ahead k2 (zip_at e1 e2)
   have mem : (pth t.mask (hsh prog w ks) l).j∈t.place.toList:=k3 l lK
   obtain ⟨_,lv⟩:=live_at g mem
   apply ζ;clear ζ
   have ii : below t.place (pth t.mask (hsh prog w ks) l).j = i:=by
    rw [el] at lv ⊢
    have b1:=(Array.getElem?_eq_some_iff.mp lv).1
    have b2:=(Array.getElem?_eq_some_iff.mp lv).2
    rcases Nat.lt_trichotomy (below t.place t.place[i]) i with z | z | z
    ·have:=List.pairwise_iff_getElem.mp g.ris _ _ (by simpa using b1) (by simpa using hip) z
     simp only [Array.getElem_toList] at this
     lia
    ·exact z
    ·have:=List.pairwise_iff_getElem.mp g.ris _ _ (by simpa using hip) (by simpa using b1) z
     simp only [Array.getElem_toList] at this
     lia
   exact free l q.2 ks lK (by rw [ii]; exact e1) (e ▸ hk q hq) rfl
  refine wpAny_bind (setState_at x1 g sm.le ?_)
  dsimp only
  obtain ⟨g1,m1,l1⟩:=put_ok g (by have:=pth_le t.mask (hsh prog w ks) K; lia) k2
  have rc1:=rc.put g (x:=Value.ref b) k3
  generalize hes : insertAt es (t.put (pth t.mask (hsh prog w ks) K).j).2 (hsh prog w ks,Value.ref b) = es1 at *
  have p1 : es1.toList.Perm (es.toList ++ [(hsh prog w ks,Value.ref b)]):=by
   rw [← hes,insert_list]
   refine List.Perm.trans List.perm_middle ?_
   rw [List.take_append_drop]
   exact (List.perm_append_singleton _ _).symm
  have z1 : es1.size = es.size + 1:=by rw [← Array.length_toList,p1.length_eq,List.length_append,Array.length_toList]; rfl
  generalize hpt : (t.put (pth t.mask (hsh prog w ks) K).j).1 = t1 at *
  rw [← z1] at g1
  have perm1 : es1.toList.Perm ((P ++ [(ks,b)]).map (itm prog w)):=by
   rw [List.map_append]
   exact p1.trans (hp.append (.refl _))
  rw [if_pos g1.pl]
  refine wpAny_bind (hash_yes hx ?_)
  simp only [if_true]
  refine wpAny_bind (wpAny_storeSet_of ho hd ?_ (fits_of_scanBound (by show es1.size < 4096; lia)))
  have x2 : SetAt (s.heap.update a (Obj.putSet es1 t1)) a es1 (ep + 1) t1:=store_at x1
  have sb:=Heap.SameBut.update s.heap a (Obj.putSet es1 t1)
  have keys : ∀ h',Heap.SameBut a s.heap h'→∀ q∈P ++ [(ks,b)],IsTupleKey (intKind prog w) h' q.1 q.2:=fun h' sb q hq=>by
   rcases List.mem_append.mp hq with z | z
   ·exact key_at (hk q z) fun o e=>(sb.2 _ (apart x1 (hk q z))).trans e
   ·rw [List.mem_singleton.mp z]
    exact key_at hx fun o e=>(sb.2 _ (apart x1 hx)).trans e
  have tf : t1.tooFull = decide ((es.size + 1) * 5 ≥ t.mask * 3):=by
   unfold SetTable.tooFull SetTable.fill
   rw [g1.dm,g1.sz,z1,m1]
   rfl
  by_cases full : (es.size + 1) * 5 ≥ t.mask * 3
  ·rw [tf,decide_eq_true full]
   simp only [Bool.not_false,Bool.and_self,if_true]
   obtain ⟨M,wn,ns,cv,lM,sm2⟩ : ∃ M,SetTable.sizeAbove (SetTable.grown (es.size + 1)) - 1 = M∧¬ SetTable.sizeAbove (SetTable.grown (es.size + 1)) > sizeLine∧Cov M∧es1.size≤M∧((M = 31∧es1.size≤18)∨(M = 127∧es1.size≤76)):=by
    rcases sm with ⟨q1,q2⟩ | ⟨q1,q2⟩ | ⟨q1,q2⟩
    ·have : es.size = 4:=by lia
     exact ⟨31,by rw [this]; decide +kernel,by rw [this]; decide +kernel,cov31,by lia,.inl ⟨rfl,by lia⟩⟩
    ·have : es.size = 18:=by lia
     exact ⟨127,by rw [this]; decide +kernel,by rw [this]; decide +kernel,cov127,by lia,.inr ⟨rfl,by lia⟩⟩
    ·lia
   obtain ⟨t2,order,r1,r2,r3,r4,r5,r6,r7⟩:=relaid_ok (t:=t1) (es:=es1) (wanted:=SetTable.grown (es.size + 1)) (by rw [wn]; exact cv) (by rw [wn]; lia) g1.pl
   refine wpAny_bind ?_
   unfold setRelay
   refine wpAny_bind (setState_at (s:={ s with heap:=s.heap.update a (Obj.putSet es1 t1) }) x2 g1 (by rw [m1]; rcases sm with ⟨a,b⟩ | ⟨a,b⟩ | ⟨a,b⟩ <;> lia) ?_)
   dsimp only
   rw [if_neg ns]
   refine wpAny_bind (wpAny_of_eq (a:=(order.filterMap (es1[·]?),t2)) ?_ ?_)
   ·rw [r1]
    show (if ((order.filterMap (es1[·]?)).size != es1.size) = true then _ else _) = _
    rw [r2]
    simp
   ·refine bc fun ζ=>?_
    obtain ⟨o2,ho2,hex2,hd2⟩:=id x2
    apply ζ;clear ζ
    dsimp only
    refine wpAny_storeSet_of ho2 hd2 ?_ (by rw [r2]; exact fits_of_scanBound (by show es1.size < 4096; lia))
    have sb2:=sb.trans (Heap.SameBut.update (s.heap.update a (Obj.putSet es1 t1)) a (Obj.putSet (order.filterMap (es1[·]?)) t2))
    refine wpAny_pure (h2 new _ sb2 ⟨⟨_,_,t2,store_at x2,by rw [r2]; exact r3,r7,?_,by rw [r5,l1,hl],r6.trans perm1⟩,keys _ sb2⟩)
    rw [r2]
    exact .inr (by rw [r4,wn]; exact sm2)
  ·rw [tf,decide_eq_false full]
   simp only [Bool.and_false,Bool.false_eq_true,if_false]
   refine wpAny_pure (h2 new _ sb ⟨⟨es1,ep + 1,t1,x2,g1,rc1,?_,by rw [l1,hl],perm1⟩,keys _ sb⟩)
   unfold Small
   rw [m1]
   rcases sm with ⟨q1,q2⟩ | ⟨q1,q2⟩ | ⟨q1,q2⟩
   ·exact .inl ⟨q1,by lia⟩
   ·exact .inr (.inl ⟨q1,by lia⟩)
   ·exact .inr (.inr ⟨q1,by lia⟩)
end
open PySem PySem.SetTable PySem.W PyProof.Rows
noncomputable def stepP (P : List (List Int×Addr)) (q : List Int×Addr) : List (List Int×Addr):=if P.any (fun p=>p.1 == q.1) then P else P ++ [q]
noncomputable def metP (qs : List (List Int×Addr)) (i : Nat) : List (List Int×Addr):=(qs.take i).foldl stepP []
theorem metP_succ {qs : List (List Int×Addr)} {i : Nat} {q : List Int×Addr} (h : qs[i]? = some q) : metP qs (i + 1) = stepP (metP qs i) q:=by
 unfold metP
 rw [List.take_add_one,h,List.foldl_append]
 rfl
section
variable {prog : Program} {w : World} {A : Around} {E : Value→Shared→Prop} {s : Shared}
theorem call_set_tuples {l : Addr} {items : Array Value} {qs : List (List Int×Addr)} {K : Value→Shared→Prop} (hu : A.units + 4 < cLine) (hh : A.handled = none) (hl : s.heap.IsList l items) (hi : items.toList = qs.map fun q=>Value.ref q.2) (hq : ∀ q∈qs,IsTupleKey (intKind prog w) s.heap q.1 q.2) (hb : (metP qs qs.length).length≤75)
  (h : ∀ (h' : Heap) (tk : Nat), SetT prog w h' s.heap.objs.size (metP qs qs.length)→(∀ b o, b < s.heap.objs.size→s.heap.get? b = some o→h'.get? b = some o)→K (.ref s.heap.objs.size) { s with heap:=h', toks:=tk }) : wpAny (model prog w) A (call (.type "set") [.ref l]) K E s:=by
 refine set_shell fun led hled=>?_
 refine bc fun ζ=>?_
 obtain ⟨o,ho,hc,k,hd⟩:=id hl
 have ls : l < s.heap.objs.size:=Heap.lt_size ho
 have t1 : (s.heap.push (setO led)).IsList l items:=⟨o,Heap.get?_push_of_some _ ho,hc,k,hd⟩
 have g0 : (s.heap.push (setO led)).get? s.heap.objs.size = some (setO led):=Heap.get?_push_size _ rfl
 have n1:=PySem.F.sub_list_set
 have n2:=PySem.F.sub_list_frozenset
 have n3 : (Value.type "list" == Value.type "dict") = false:=by decide
 obtain ⟨oc,od,odt,os⟩:=o
 apply ζ;clear ζ
 simp only at hc hd
 subst hc hd
 have ho1 : (s.heap.push (setO led)).get? l = some { cls:=.type "list", dict:=od, data:=.seq items k, slots:=os }:=Heap.get?_push_of_some _ ho
 unfold Builtin.«set.__init__» noKeywords Builtin.Frozenset.updateFrom
 generalize hP : pyIter = PI
 wp_walk
 subst hP
 refine wpAny_pyIter_list t1 (wpAny_bind (wpAny_runValue ?_))
 have ne : l≠(s.heap.push (setO led)).objs.size:=by rw [Heap.size_push]; exact Nat.ne_of_lt (Nat.lt_succ_of_lt ls)
 have off : s.heap.objs.size ∉ [(s.heap.push (setO led)).objs.size,l]:=fun z=>by
  rw [Heap.size_push] at z
  simp only [List.mem_cons,List.not_mem_nil,or_false] at z
  exact z.elim (Nat.ne_of_lt (Nat.lt_succ_self _)) (Nat.ne_of_gt ls)
 have isz : items.size = qs.length:=by rw [← Array.length_toList,hi,List.length_map]
 have far : ∀ q∈qs,q.2 ∉ [(s.heap.push (setO led)).objs.size]:=fun q hq' z=>by
  refine bc fun ζ=>?_
  obtain ⟨o,_,_,e,_⟩:=hq q hq'
  apply ζ;clear ζ
  have:=Heap.lt_size e
  rw [List.mem_singleton.mp z,Heap.size_push] at this
  exact absurd this (Nat.not_lt.mpr (Nat.le_succ _))
 have sub : ∀ i q,q∈metP qs i→q∈qs:=fun i=>by
  have go : ∀ (ls : List (List Int×Addr)) acc,(∀ q∈acc,q∈qs)→(∀ q∈ls,q∈qs)→∀ q∈ls.foldl stepP acc,q∈qs:=fun ls=>by
   induction ls with
   | nil=>intro acc h1 _ q hq; exact h1 q hq
   | cons x ls ih =>
    intro acc h1 h2
    refine ih _ (fun q hq=>?_) fun q hq=>h2 q (List.mem_cons_of_mem _ hq)
    unfold stepP at hq
    split at hq
    ·exact h1 q hq
    ·rcases List.mem_append.mp hq with z | z
     ·exact h1 q z
     ·rw [List.mem_singleton.mp z]; exact h2 x List.mem_cons_self
  exact go _ [] (fun q h=>by cases h) fun q h=>List.mem_of_mem_take h
 have len : ∀ i,(metP qs i).length≤75:=fun i=>by
  refine Nat.le_trans ?_ hb
  unfold metP
  rw [List.take_length]
  have go : ∀ (ls : List (List Int×Addr)) acc,acc.length≤(ls.foldl stepP acc).length:=fun ls=>by
   induction ls with
   | nil=>intro acc; exact Nat.le_refl _
   | cons x ls ih =>
    intro acc
    refine Nat.le_trans ?_ (ih _)
    unfold stepP
    split
    ·exact Nat.le_refl _
    ·rw [List.length_append]; exact Nat.le_add_right _ _
  have e : List.foldl stepP [] qs = List.foldl stepP [] (qs.take i ++ qs.drop i):=by rw [List.take_append_drop]
  rw [e,List.foldl_append]
  exact go _ _
 refine loop_inv (J:=fun i h=>SetT prog w h s.heap.objs.size (metP qs i)∧∀ q∈qs,IsTupleKey (intKind prog w) h q.1 q.2) ((Walks.list (A:=A.in1.in1.in1) (by simp [hh]) _ l ne items).toS) off (fun i a b x e=>?_) (fun i v u E' K' hi' hv hJ hK=>?_) 0 _ (Nat.zero_le _)
  ⟨⟨_,Heap.get?_push_size _ rfl,rfl,rfl⟩,⟨_,Heap.get?_push_of_some _ ho1,rfl,k,rfl⟩⟩ ⟨⟨⟨#[],0,.fresh 0 0 led,⟨_,Heap.get?_push_of_some _ g0,⟨rfl,rfl,rfl⟩,rfl⟩,fresh_good led,Rch.fresh led,.inl ⟨rfl,Nat.zero_le _⟩,hled,.refl _⟩,fun q hq=>(by cases hq)⟩,fun q h'=>key_at (hq q h') fun o e=>Heap.get?_push_of_some _ (Heap.get?_push_of_some _ e)⟩ fun s' m hJ=>?_
 ·refine bc fun ζ=>?_
  obtain ⟨⟨⟨es,ep,t,x1,r⟩,y⟩,z⟩:=x
  apply ζ;clear ζ
  have kk : ∀ q∈qs,IsTupleKey (intKind prog w) b q.1 q.2:=fun q h'=>key_at (z q h') fun o he=>e _ o (far q h') he
  exact ⟨⟨⟨es,ep,t,x1.at fun o h=>e _ o (fun z=>off (List.mem_cons.mpr (.inl (List.mem_singleton.mp z)))) h,r⟩,fun q h'=>kk q (sub i q h')⟩,kk⟩
 ·have hv' : items.toList[i]? = some v:=by rw [Array.getElem?_toList]; exact hv
  rw [hi,List.getElem?_map] at hv'
  cases eq : qs[i]? with
  | none=>rw [eq] at hv'; cases hv'
  | some q =>
   rw [eq] at hv'
   cases hv'
   have hqm : q∈qs:=List.mem_of_getElem? eq
   have hx:=hJ.2 q hqm
   have l17:=len i
   unfold setAdd
   refine wpAny_holding (wpAny_bind ((tupleKind (intKind prog w)).pyHash (by show A.units + 1 + 1 + 1 < cLine; lia) hx ?_))
   refine addT_ok (s:={ u with toks:=u.toks + (tupleKind (intKind prog w)).draws q.1 }) (by show A.units + 1 + 1 + 1 < cLine; lia) hJ.1 hx (by lia) (fun ⟨p,hp,e⟩=>?_) fun new h' sb hJ'=>?_
   ·refine hK false u.heap _ (Nat.le_add_right _ _) (Heap.SameBut.refl _ _) ⟨?_,hJ.2⟩
    rw [metP_succ eq]
    unfold stepP
    rw [if_pos (List.any_eq_true.mpr ⟨p,hp,by simp [e]⟩)]
    exact hJ.1
   ·refine hK true h' _ (Nat.le_add_right _ _) sb ⟨?_,fun p hp=>?_⟩
    ·rw [metP_succ eq]
     unfold stepP
     rw [if_neg fun z=>by
      refine bc fun ζ=>?_
      obtain ⟨p,hp,e⟩:=List.any_eq_true.mp z
      apply ζ;clear ζ
      exact new p hp (by simpa using e)]
     exact hJ'
    ·refine bc fun ζ=>?_
     obtain ⟨⟨es,ep,t,x1,_⟩,_⟩:=hJ.1
     exact ζ (key_at (hJ.2 p hp) fun o e=>(sb.2 _ (apart x1 (hJ.2 p hp))).trans e)
 ·refine bc fun ζ=>?_
  obtain ⟨h',g',d',tk',os'⟩:=s'
  apply ζ;clear ζ
  obtain rfl : g' = s.gens:=m.gens
  obtain rfl : d' = s.drawn:=m.drawn
  obtain rfl : os' = s.os:=m.os
  refine wpAny_pure (wpAny_pure ⟨h',tk',rfl,rfl,h h' tk' (by rw [← isz]; exact hJ.1) fun b o lt e=>m.heap b o (fun z=>?_) (Heap.get?_push_of_some _ (Heap.get?_push_of_some _ e))⟩)
  rw [Heap.size_push] at z
  simp only [List.mem_cons,List.not_mem_nil,or_false] at z
  exact z.elim (Nat.ne_of_lt lt) (Nat.ne_of_lt (Nat.lt_succ_of_lt lt))
end
end _x
namespace _r
open PySem PySem.Spec PyProof.Rows _l
noncomputable def SetS (prog : Program) (w : World) (h : Heap) (a : Addr) (P : List (List Int×Addr)) : Prop:=∃ es ep t, _x.SetAt h a es ep t∧_x.Good t es.size∧_x.Rch t es∧_x.Small t es.size∧(t.led = !w.params.followText "set-order")∧es.toList.Perm (P.map (_x.itm prog w))
noncomputable def rSortG2 (prog : Program) (w : World) : List V→Hp→VK→Prop:=fun xs H Q=>∃ (q : Addr) (qs : List (List Int×Addr)),xs = [.ref q]∧H q = some (.ext fun h=>SetS prog w h q qs)∧qs.length≤63∧(∀ p∈qs,H p.2 = some (.tup (p.1.map V.int))∧p.1≠[]) ∧
 ∀ (zs : List V) (l : Addr),zs.Perm (qs.map fun p=>V.ref p.2)→zs.Pairwise (fun y z=>∀ (a b : Addr) (ks ms : List Int),y = .ref a→z = .ref b→H a = some (.tup (ks.map V.int))→H b = some (.tup (ms.map V.int))→_d.lx ms ks = false)→H l = none→Q (.ref l) (upd H l (.lst zs))
theorem call_sortG2 {X : Cx} (hcm : X.calm = true) : CallR X (.builtin "sorted") (rSortG2 X.prog X.w):=by
 intro pins s σ H xs us Q I r h
 refine bc fun ζ=>?_
 obtain ⟨p,qs,rfl,hq,hl,hks,k⟩:=h
 obtain ⟨u,rfl,rx⟩:=vals1 r
 cases rx
 obtain ⟨⟨es,ep,t,x1,g,rc,sm,led,pm⟩,_⟩:=(show ObjOk X.prog X.w H s.heap p (.ext _) from I.hok p _ hq)
 apply ζ;clear ζ
 have hlen : es.size = qs.length:=by rw [← Array.length_toList,pm.length_eq,List.length_map]
 refine Calls.call_function_entry kind_sorted plain_sorted entry_sorted (args_sorted1 _) ?_
 unfold Builtin.«sorted»
 refine wpAny_bind (m:=checkCount "sorted" 1 1 _) (wpAny_pure ?_)
 refine wpAny_bind (PySem.W.kdu_collect (A:=X.A.in1) (_x.src_set (prog:=X.prog) (w:=X.w) (a:=p) (ep:=ep) g sm.le led) (I.ok.hd hcm) x1 (by rw [hlen]; exact Nat.le_trans hl (by decide)) fun h' tk acc hk0 hacc=>?_)
 have ew : acc.toList = _x.walkOf X.w p es ep:=by
  apply List.ext_getElem?
  intro i
  by_cases hi : i < acc.toList.length
  ·rw [List.getElem?_eq_getElem hi]
   exact (hacc.2 i _ (by rw [← Array.getElem?_toList,List.getElem?_eq_getElem hi])).symm
  ·rw [List.getElem?_eq_none (by lia),List.getElem?_eq_none (by rw [_x.walk_len,← hacc.1,← Array.length_toList]; lia)]
 have wp:=_x.walk_perm X.w p es ep
 rw [← ew] at wp
 generalize hits : acc.toList = its at *
 have wp2 : its.Perm (qs.map fun q=>Value.ref q.2):=by
  refine wp.trans ((pm.map _).trans (.of_eq ?_))
  rw [List.map_map]
  rfl
 have hn : its.length = qs.length:=by rw [wp2.length_eq,List.length_map]
 have hv : ∀ v∈its,∃ (a : Addr) (ks : List Int),v = .ref a∧H a = some (.tup (ks.map V.int))∧ks≠[]:=fun v hm=>by
  refine bc fun ζ=>?_
  obtain ⟨q,hq',rfl⟩:=List.mem_map.mp (wp2.mem_iff.mp hm)
  exact ζ (⟨q.2,q.1,rfl,(hks q hq').1,(hks q hq').2⟩)
 have key : ∀ v∈its,∃ ks,(tupKind H).keyOf v = some ks:=fun v hm=>by
  refine bc fun ζ=>?_
  obtain ⟨a,ks,rfl,h3,_⟩:=hv v hm
  apply ζ;clear ζ
  refine ⟨ks,?_⟩
  show tkey H (.ref a) = some ks
  unfold tkey
  dsimp only
  rw [h3]
  exact vints_map ks
 have hk : KeysOf (tupKind H) (pairsOf its):=fun q hq=>key q.1 (pairs_mem hq).2
 have look : ∀ (h' : Heap), (∀ b o, s.heap.get? b = some o→h'.get? b = some o)→∀ (v : Value) (ks : List Int), tkey H v = some ks→∃ (a : Addr) (o : Obj) (ts : List Value) (n : Nat), v = .ref a∧h'.get? a = some o∧o.cls = .type "tuple"∧o.data = .seq ts.toArray n∧IntsAre ts ks:=fun h' kp v ks e=>by
  unfold tkey at e
  split at e
  ·rename_i a
   split at e
   ·rename_i xs hx
    have:=vints_eq e
    subst this
    refine bc fun ζ=>?_
    obtain ⟨_,ts,rt,o,ho,hc,n,hd⟩:=I.hok a _ hx
    exact ζ (⟨a,o,ts,n,rfl,kp _ _ ho,hc,hd,intsAre_of rt⟩)
   ·contradiction
  ·contradiction
 refine wpAny_bind (wpAny_newList ?_ (by rw [hn]; exact Nat.le_trans hl (by decide)))
 have hL0 : (h'.push (seqObj "list" its.toArray 0)).get? h'.objs.size = some (seqObj "list" its.toArray 0):=Heap.get?_push_size _ rfl
 have I1:=I.kept (t':=tk) hk0
 have up0 : ∀ h2 : Heap, (∀ b o, b≠h'.objs.size→(h'.push (seqObj "list" its.toArray 0)).get? b = some o→h2.get? b = some o)→∀ b o, s.heap.get? b = some o→h2.get? b = some o:=fun h2 kp b o e=>kp b o (Nat.ne_of_lt (Heap.lt_size (hk0 _ _ e))) (Heap.get?_push_of_some _ (hk0 _ _ e))
 refine wpAny_bind (wpAny_holding (wpAny_call_entry (s:={ s with heap:=h'.push (seqObj "list" its.toArray 0), toks:=tk }) slot_list_sort ⟨_, hL0, rfl⟩ entry_list_sort (_t.sort_short (κ:=tupKind H) (kd:=tuples' true) hL0 (by lia) hk (fun h2 kp0 h2' {Q'} hq'=>?_) (fun h2 kp0=>?_) fun st' hp hs=>⟨_, rfl, ?_⟩) (args_list_sort _)))
 ·-- the kind
  have tups : ∀ l : List Value,(∀ v∈l,∃ (a : Addr) (ks : List Int),v = .ref a∧H a = some (.tup (ks.map V.int))∧ks≠[])→∃ fs,PySem.W.KatTups h2 l fs∧fs.length = l.length∧∀ f∈fs,∃ n t,f = Value.int n t:=fun l=>by
   induction l with
   | nil=>intro _; exact ⟨[],.nil,rfl,fun f hf=>by cases hf⟩
   | cons v l ih =>
    intro hl'
    refine bc fun ζ=>?_
    obtain ⟨a,ks,rfl,h3,h4⟩:=hl' v List.mem_cons_self
    obtain ⟨fs,t,lf,hf⟩:=ih fun z hz=>hl' z (List.mem_cons_of_mem _ hz)
    apply ζ;clear ζ
    obtain ⟨a',o,ts,n,e,ho,hc,hd,hi⟩:=look h2 (up0 h2 kp0) (.ref a) ks (by unfold tkey; dsimp only; rw [h3]; exact vints_map ks)
    cases e
    cases hi with
    | nil=>exact absurd rfl h4
    | cons m t' hi' =>
     refine ⟨_ :: fs,.cons ho hc hd (f:=.int m t') (by simp) t,by simp [lf],fun f hm=>?_⟩
     rcases List.mem_cons.mp hm with rfl | hm
     ·exact ⟨_,_,rfl⟩
     ·exact hf f hm
  refine bc fun ζ=>?_
  obtain ⟨fs,t,lf,hf⟩:=tups its hv
  apply ζ;clear ζ
  refine PySem.W.kat_kind (s:={ s with heap:=h2, toks:=tk }) (T:=.type "int") t (by lia) (fun f hm=>?_) (by rfl) ?_
  ·refine bc fun ζ=>?_
   obtain ⟨n,tk,rfl⟩:=hf f hm
   exact ζ (.now)
  ·exact hq'
 ·refine lt_of_key fun x y a b {Q'} {E''} ha hb q=>?_
  refine bc fun ζ=>?_
  obtain ⟨ax,ox,tx,nx,ex,hx,_,dx,ix⟩:=look h2 (up0 h2 kp0) x.1 a ha
  obtain ⟨ay,oy,ty,ny,ey,hy,_,dy,iy⟩:=look h2 (up0 h2 kp0) y.1 b hb
  apply ζ;clear ζ
  rw [ex,ey]
  refine PySem.W.kat_lt (s:={ s with heap:=h2,toks:=tk }) hx dx hy dy ?_
  exact lex_walk 0 ix iy (by rw [List.size_toArray,List.size_toArray,ix.length,iy.length]) q
 ·refine bc fun ζ=>?_
  obtain ⟨out,eo,po,so⟩:=out_of hk hp hs
  apply ζ;clear ζ
  rw [eo]
  obtain ⟨c,hc⟩:=sortedHeap_at (out:=out.toArray) hL0
  have vo : ∀ l : List Value,(∀ v∈l,∃ (a : Addr) (ks : List Int),v = .ref a∧H a = some (.tup (ks.map V.int))∧ks≠[])→Vals (l.map bk) l:=fun l=>by
   induction l with
   | nil=>intro _; exact .nil
   | cons v l ih =>
    intro hl'
    refine bc fun ζ=>?_
    obtain ⟨a,ks,rfl,_⟩:=hl' v List.mem_cons_self
    exact ζ (.cons rfl (ih fun z hz=>hl' z (List.mem_cons_of_mem _ hz)))
  have hvo:=vo out fun v hm=>hv v (po.mem_iff.mp hm)
  have hz2 : (out.map bk).length≤sizeLine:=by rw [List.length_map,po.length_eq,hn]; exact Nat.le_trans hl (by decide)
  refine wpAny_pure ⟨_,rfl,.ref h'.objs.size,_,I1.laid (t':=tk) (fun b o e=>?_) (Nat.le_refl _) (show ObjOk X.prog X.w _ _ _ (.lst (out.map bk)) from ⟨hz2,out,c,hvo,by simpa using hc⟩),rfl,k _ _ ?_ ?_ (I1.hok.fresh (Nat.le_refl _))⟩
  ·have lt:=Heap.lt_size e
   rw [sortedHeap_old (Nat.ne_of_lt lt) (by rw [size_push']; exact Nat.lt_succ_of_lt lt)]
   exact Heap.get?_push_of_some _ e
  ·have:=(po.trans wp2).map bk
   rw [List.map_map] at this
   exact this
  ·rw [List.pairwise_map]
   refine List.Pairwise.imp_of_mem ?_ so
   intro x y hx hy hle a b ks ms e1 e2 h1 h2
   refine bc fun ζ=>?_
   obtain ⟨a',ks',rfl,h1',_⟩:=hv x (po.mem_iff.mp hx)
   obtain ⟨b',ms',rfl,h2',_⟩:=hv y (po.mem_iff.mp hy)
   cases e1
   cases e2
   apply ζ;clear ζ
   refine hle ks ms ?_ ?_
   ·show tkey H (.ref a) = some ks
    unfold tkey
    dsimp only
    rw [h1]
    exact vints_map ks
   ·show tkey H (.ref b) = some ms
    unfold tkey
    dsimp only
    rw [h2]
    exact vints_map ms
theorem items_of {prog : Program} {w : World} : ∀ {ks : List Int} {its : List Value},Vals (ks.map V.int) its→ItemsAre (intKind prog w) ks its
 | [],_,r=>by cases r; exact .nil
 | n :: ks,_,r=>by
  rw [List.map_cons] at r
  cases r with
  | cons h t =>
   obtain ⟨tk,rfl⟩:=h
   exact .cons (intKind_is prog w n tk) (items_of t)
theorem refs_of : ∀ {qs : List (List Int×Addr)} {its : List Value},Vals (qs.map fun p=>V.ref p.2) its→its = qs.map fun p=>Value.ref p.2
 | [],_,r=>by cases r; rfl
 | q :: qs,_,r=>by
  rw [List.map_cons] at r
  cases r with
  | cons h t=>rw [refs_of t]; cases h; rfl
noncomputable def rSetL2 (K : PySem.W.Frag) (prog : Program) (w : World) : List V→Hp→VK→Prop:=fun xs H Q=>∃ (q : Addr) (qs : List (List Int×Addr)),xs = [.ref q]∧SqL K H q (qs.map fun p=>V.ref p.2)∧(∀ p∈qs,H p.2 = some (.tup (p.1.map V.int)))∧(_x.metP qs qs.length).length≤63 ∧
 ∀ l,H l = none→Q (.ref l) (upd H l (.ext fun h=>SetS prog w h l (_x.metP qs qs.length)))
theorem call_setL2 {X : Cx} (hc : X.calm = true) (hu : X.A.units + 4 < cLine) : CallR X (.type "set") (rSetL2 X.K X.prog X.w):=by
 intro pins s σ H xs us Q I r h
 refine bc fun ζ=>?_
 obtain ⟨q,qs,rfl,hq,hk,hb,k⟩:=h
 obtain ⟨u,rfl,rx⟩:=vals1 r
 cases rx
 obtain ⟨its,rv,pl,hz⟩:=I.list hq
 apply ζ;clear ζ
 refine _x.call_set_tuples (qs:=qs) hu (I.ok.hd hc) pl.isList (by simpa using refs_of rv) (fun p hp=>?_) (Nat.le_trans hb (by decide)) fun h' tk hS hkeep=>?_
 ·refine bc fun ζ=>?_
  obtain ⟨_,ts,rt,o,ho,hcl,n,hd⟩:=(show ObjOk X.prog X.w H s.heap p.2 (.tup (p.1.map V.int)) from I.hok p.2 _ (hk p hp))
  apply ζ;clear ζ
  exact ⟨o,ts.toArray,n,ho,hcl,hd,by simpa using items_of rt⟩
 ·exact ⟨.ref s.heap.objs.size,_,I.laid (a:=s.heap.objs.size) (o:=.ext fun h=>SetS X.prog X.w h s.heap.objs.size (_x.metP qs qs.length)) (t':=tk) (fun b u e=>hkeep b u (Heap.lt_size e) e) (Nat.le_refl _)
   (show ObjOk X.prog X.w _ _ _ (.ext _) from ⟨hS.1,(let ⟨_,_,_,⟨o,ho,_⟩,_⟩:=hS.1; ⟨o,ho⟩),fun h1 h2 x e=>let ⟨es,ep,t,x1,r⟩:=x; ⟨es,ep,t,x1.at e,r⟩⟩),rfl,k _ (I.hok.fresh (Nat.le_refl _))⟩
end _r
namespace _d
noncomputable def dedupT (nss : List (List Int)) : List (List Int):=nss.foldl (fun acc x=>if acc.any (· == x) then acc else acc ++ [x]) []
noncomputable def gSortSetT : Dat→Option RV
 | .lst ds=>(match tupsD ds with
  | some nss=>if (dedupT nss).length≤63 then some (.new (.lst ((isort lx (dedupT nss)).map tupN))) else none
  | none=>none)
 | _=>none
end _d
namespace _r
open PySem PySem.Spec PyProof.Rows _l
theorem met_keys (qs : List (List Int×Addr)) : (_x.metP qs qs.length).map (·.1) = _d.dedupT (qs.map (·.1)):=by
 unfold _x.metP _d.dedupT
 rw [List.take_length]
 have go : ∀ (l : List (List Int×Addr)) (acc : List (List Int×Addr)),(l.foldl _x.stepP acc).map (·.1) = (l.map (·.1)).foldl (fun acc x=>if acc.any (· == x) then acc else acc ++ [x]) (acc.map (·.1)):=fun l=>by
  induction l with
  | nil=>intro acc; rfl
  | cons q l ih =>
   intro acc
   rw [List.foldl_cons,List.map_cons,List.foldl_cons,ih]
   congr 1
   unfold _x.stepP
   rw [List.any_map]
   show List.map _ (if (acc.any fun p=>p.1 == q.1) = true then _ else _) = if (acc.any fun p=>p.1 == q.1) = true then _ else _
   split
   ·rfl
   ·rw [List.map_append]; rfl
 exact go qs []
theorem met_sub (qs : List (List Int×Addr)) (i : Nat) : ∀ q∈_x.metP qs i,q∈qs:=by
 have go : ∀ (ls : List (List Int×Addr)) acc,(∀ q∈acc,q∈qs)→(∀ q∈ls,q∈qs)→∀ q∈ls.foldl _x.stepP acc,q∈qs:=fun ls=>by
  induction ls with
  | nil=>intro acc h1 _ q hq; exact h1 q hq
  | cons x ls ih =>
   intro acc h1 h2
   refine ih _ (fun q hq=>?_) fun q hq=>h2 q (List.mem_cons_of_mem _ hq)
   unfold _x.stepP at hq
   split at hq
   ·exact h1 q hq
   ·rcases List.mem_append.mp hq with z | z
    ·exact h1 q z
    ·rw [List.mem_singleton.mp z]; exact h2 x List.mem_cons_self
 exact go _ [] (fun q h=>by cases h) fun q h=>List.mem_of_mem_take h
theorem qs_of {H0 : Hp} : ∀ {ds : List _d.Dat} {us : List V} {nss : List (List Int)},Reps H0 us ds→_d.tupsD ds = some nss→∃ qs : List (List Int×Addr),us = qs.map (fun p=>V.ref p.2)∧nss = qs.map (·.1)∧∀ p∈qs,H0 p.2 = some (.tup (p.1.map V.int))∧p.1≠[]
 | [],_,nss,r,e=>by cases r; cases e; exact ⟨[],rfl,rfl,fun p h=>by cases h⟩
 | d :: ds,_,nss,r,e=>by
  cases r with
  | cons h t =>
   cases d with
   | tup xs =>
    unfold _d.tupsD at e
    cases q1 : _d.intsD xs with
    | none=>rw [q1] at e; cases e
    | some ns =>
     rw [q1] at e
     dsimp only at e
     split at e
     ·contradiction
     ·rename_i hne
      cases q2 : _d.tupsD ds with
      | none=>rw [q2] at e; cases e
      | some mss =>
       rw [q2] at e
       cases e
       obtain ⟨qs,a1,a2,a3⟩:=qs_of t q2
       cases h with
       | tup ha hr =>
        rename_i b ys
        have:=intsD_ok hr q1
        subst this
        refine ⟨(ns,b) :: qs,by rw [List.map_cons,← a1],by rw [List.map_cons,← a2],fun p hp=>?_⟩
        rcases List.mem_cons.mp hp with z | z
        ·rw [z]
         exact ⟨ha,fun z=>by
          have z : ns = []:=z
          rw [z] at hne
          exact hne rfl⟩
        ·exact a3 p z
   | _=>cases e
section
variable {X : Cx} {e : Expr} {f : _d.FE} {p p0 pos pos0 : Pos}
theorem r_sortset2 {K : PySem.W.Frag} {prog : Program} {w : World} {σ : _l.St} {H : Hp} {Q : VK} (h : tD (_d.e1 _d.gSortSetT f) σ H Q) : tCB (rSortG2 prog w) (tCons (tCB (rSetL2 K prog w) (tCons (tD f) tNil)) tNil) σ H Q:=by
 refine bc fun ζ=>?_
 obtain ⟨H0,ρ,x,ρ',st,e,k⟩:=h
 unfold _d.e1 at e
 split at e
 ·contradiction
 rename_i x1 ρ1 e1
 split at e
 ·contradiction
 rename_i dx p1
 split at e
 ·contradiction
 rename_i z gz
 cases e
 unfold _d.gSortSetT at gz
 split at gz
 case h_2=>cases gz
 rename_i ds
 split at gz
 case h_2=>cases gz
 rename_i nss en
 split at gz
 case isFalse=>cases gz
 rename_i hb
 cases gz
 apply ζ;clear ζ
 refine ⟨H0,ρ,x1,_,st,e1,fun v H1 Hb t1 r1=>?_⟩
 refine bc fun ζ=>?_
 obtain ⟨a,xs,rfl,qa,ra⟩:=repO_lst t1.st.same (r1.look t1.st p1)
 obtain ⟨qs,rfl,rfl,hq⟩:=qs_of ra en
 apply ζ;clear ζ
 rw [← met_keys,List.length_map] at hb
 refine ⟨a,qs,rfl,.inl qa,fun p hp=>t1.st.same _ _ (hq p hp).1,hb,fun l hl=>?_⟩
 have ne : ∀ p∈qs,p.2≠l:=fun p hp z=>by
  have:=t1.st.same _ _ (hq p hp).1
  rw [z,hl] at this
  cases this
 refine ⟨l,_x.metP qs qs.length,rfl,upd_same,?_,fun p hp=>?_,fun zs l2 pm so hp=>?_⟩
 ·omega
 ·have hm:=met_sub qs _ p hp
  exact ⟨by rw [upd_ne (ne p hm)]; exact t1.st.same _ _ (hq p hm).1,(hq p hm).2⟩
 ·let ks : V→List Int:=fun v=>match v with
   | .ref b=>(match H1 b with
    | some (.tup ys)=>(vints ys).getD []
    | _=>[])
   | _=>[]
  have hks : ∀ p∈qs,ks (.ref p.2) = p.1:=fun p hp=>by
   show (match H1 p.2 with | some (.tup ys)=>(vints ys).getD [] | _=>[]) = p.1
   rw [(hq p hp).1]
   dsimp only
   rw [vints_map]
   rfl
  have hz : ∀ y∈zs,∃ b : Addr,y = .ref b∧H1 b = some (.tup ((ks y).map V.int)):=fun y hy=>by
   refine bc fun ζ=>?_
   obtain ⟨p,hp',rfl⟩:=List.mem_map.mp (pm.mem_iff.mp hy)
   apply ζ;clear ζ
   have hm:=met_sub qs _ p hp'
   exact ⟨p.2,rfl,by rw [hks p hm]; exact (hq p hm).1⟩
  have pk : (zs.map ks).Perm (_d.dedupT (qs.map (·.1))):=by
   refine (pm.map ks).trans (.of_eq ?_)
   rw [List.map_map,← met_keys]
   exact List.map_congr_left fun p hp'=>hks p (met_sub qs _ p hp')
  have srt : (zs.map ks).Pairwise (fun a b=>_d.lx b a = false):=by
   rw [List.pairwise_map]
   refine List.Pairwise.imp_of_mem ?_ so
   intro x y hx hy hle
   refine bc fun ζ=>?_
   obtain ⟨b1,q1,q2⟩:=hz x hx
   obtain ⟨b2,q3,q4⟩:=hz y hy
   apply ζ;clear ζ
   have n1 : b1≠l:=fun z=>by have:=t1.st.same _ _ q2; rw [z,hl] at this; cases this
   have n2 : b2≠l:=fun z=>by have:=t1.st.same _ _ q4; rw [z,hl] at this; cases this
   exact hle b1 b2 _ _ q1 q3 (by rw [upd_ne n1]; exact t1.st.same _ _ q2) (by rw [upd_ne n2]; exact t1.st.same _ _ q4)
  have es : zs.map ks = _d.isort _d.lx (_d.dedupT (qs.map (·.1))):=by
   refine _d.sorted_uniq (lt:=_d.lx) _d.lx_total (pk.trans (_d.isort_perm _ _).symm) srt (_d.isort_sorted (fun a b c h1 h2=>?_) (fun a b h=>?_) _)
   ·cases h : _d.lx c a
    ·rfl
    ·rcases _d.lx_neg c b a h with z | z
     ·rw [z] at h2; cases h2
     ·rw [z] at h1; cases h1
   ·cases h' : _d.lx b a
    ·rfl
    ·have:=_d.lx_trans a b a h h'
     rw [_d.lx_irrefl] at this; cases this
  have g1:=Grow.newO (o:=.ext fun h=>SetS prog w h l (_x.metP qs qs.length)) t1.st.same hl
  have t2:=t1.trans (.grow t1.st g1)
  have g2:=Grow.newO (o:=.lst zs) t2.st.same hp
  refine k _ _ _ (t2.trans (.grow t2.st g2)) ⟨l2,rfl,t2.stp.gone hp,t2.st.notOwned hp,t2.st.same.free hp,_,upd_same,?_⟩
  rw [← es]
  exact reps_tups ks hz
theorem d_sortset2 {kk : Nat} (hr : Room kk X.A) (hc : X.calm = true) (hgl : Gl X "sorted") (hml : X.mg "sorted" = none) (hg : Gl X "set") (hm : X.mg "set" = none) (h : DE X e f) (hs : autoParam (starEach [e] X.env = [(false, eval e X.env)]) _l.a0._auto_1)
  (hs0 : autoParam (starEach [.Call (.Name "set" p) [e] [] pos] X.env = [(false, eval (.Call (.Name "set" p) [e] [] pos) X.env)]) _l.a0._auto_1) (hpl : autoParam ((backTo pos (starEach [] X.env)).any (·.1) = false) _l.a0._auto_1) (hpl0 : autoParam ((backTo pos0 (starEach [] X.env)).any (·.1) = false) _l.a0._auto_1) :
  DE X (.Call (.Name "sorted" p0) [.Call (.Name "set" p) [e] [] pos] [] pos0) (_d.e1 _d.gSortSetT f) :=
 PE.weak (pe_callB (call_sortG2 hc) hgl hml boot_sorted (pa_cons (pe_callTy (call_setL2 hc (Nat.lt_of_le_of_lt (Nat.add_le_add_left (by decide) _) hr.units)) hg hm (by rfl) (pa_cons h pa_nil hs) (he:=hs) (hpl:=hpl)) pa_nil hs0) (he:=hs0) (hpl:=hpl0)) fun _ _ _=>r_sortset2
end
end _r
namespace _d
noncomputable def sPar (i j : Nat) (fs : List FE) : FS:=fun ρ =>
 match eAs fs ρ with
 | some (xs,ρ1)=>(match tks ρ1 xs with
  | some ([d,e],ρ2)=>if i = 0∨j = 0 then none else some (.nx ((ρ2.set i (.sh d)).set j (.sh e)))
  | _=>none)
 | none=>none
end _d
namespace _r
open PySem PySem.Spec PyProof.Rows _l
theorem r_par {i j : Nat} {fs : List _d.FE} {D : Ends} {σ : _l.St} {H : Hp} (h : tDS (_d.sPar i j fs) D σ H) : tPar i j (tDA fs) D σ H:=by
 obtain ⟨H0,ρ,o,st,e,k⟩:=h
 unfold _d.sPar at e
 split at e
 case h_2=>cases e
 rename_i xs ρ1 e1
 split at e
 case h_2=>cases e
 rename_i d1 d2 ρ2 e2
 split at e
 ·contradiction
 rename_i hij
 cases e
 have i0 : i≠0:=fun z=>hij (.inl z)
 have j0 : j≠0:=fun z=>hij (.inr z)
 refine ⟨H0,ρ,xs,ρ1,st,e1,fun vs H0' H' t r=>?_⟩
 obtain ⟨H1,t1,b1,r1⟩:=takes t (Same.refl _) r e2
 cases r1 with
 | cons a r1 =>
  cases r1 with
  | cons b r1 =>
   cases r1
   refine ⟨_,_,rfl,k _ H1 H' ⟨(t1.st.set_sh a).set_sh b,t1.stp,fun c z=>.inl (t1.own c (owned_set_sh (owned_set_sh z))),?_⟩⟩
   rw [List.getElem?_set_ne j0,List.getElem?_set_ne i0]
section
variable {X : Cx} {pos p2 : Pos} {e : Expr} {f : _d.FE}
theorem s_par {x y : Str} {a b : Expr} {fa fb : _d.FE} {px py pt : Pos} {kt k2 pt2} (i j : Nat) (hc : X.calm = true) (hN : X.N.Nodup) (ha : DA X [a,b] [fa,fb]) (hi : autoParam (X.N[i]? = some x) _l.a0._auto_1) (hj : autoParam (X.N[j]? = some y) _l.a0._auto_1) (hij : autoParam (i≠j) _l.a1._auto_1)
  (hx : autoParam (X.env.scope.names.lookup x = some .local) _l.a0._auto_1) (hy : autoParam (X.env.scope.names.lookup y = some .local) _l.a0._auto_1)
  (hw : autoParam (swappedStores [.Tuple [.Name x px,.Name y py] kt pt] (.Tuple [a,b] k2 pt2) X.env = pure (some [x,y])) _l.a0._auto_1)
  (hs : autoParam (swapsWithSole [.Tuple [.Name x px,.Name y py] kt pt] (.Tuple [a,b] k2 pt2) pos.line X.env = pure false) _l.a0._auto_1) :
  DS X (.Assign [.Tuple [.Name x px,.Name y py] kt pt] (.Tuple [a,b] k2 pt2) pos) (_d.sPar i j [fa,fb]):=PS.weak (ps_par hc hN hi hj hij hx hy ha hw hs) fun _ _ _=>r_par
end
section
variable {X : Cx} {pos p2 : Pos} {e : Expr} {f : _d.FE}
end
section
variable {X : Cx} {nm : List Str} {elt tg iter : Expr} {ifs : List Expr} {scope : Scope} {pos : Pos} {own : List Str} {wi : TI} {g : TG} {tt : TT} {te : TE}
end
section
variable {X : Cx} {elt : Expr} {ifs : List Expr} {scope : Scope} {pos px py : Pos} {t : _d.FT} {f : _d.FE} {x : Str}
end
end _r
namespace _d
noncomputable def gCatU : Dat→Dat→Option RV
 | .tup xs,.tup (y :: ys)=>if xs.length + (y :: ys).length≤SZ then some (.val (.tup (xs ++ (y :: ys)))) else none
 | _,_=>none
end _d
namespace _r
open PySem PySem.Spec PyProof.Rows _l
noncomputable def rCatU : R2:=fun x y H Q=>∃ l b xs zs,x = .ref l∧y = .ref b∧H l = some (.tup xs)∧H b = some (.tup zs)∧zs≠[]∧xs.length + zs.length≤sizeLine∧(xs = []→Q (.ref b) H)∧(xs≠[]→∀ p,H p = none→Q (.ref p) (upd H p (.tup (xs ++ zs))))
theorem op_catU {X : Cx} : OpR X (binaryOp .Add) rCatU:=by
 intro pins s σ H x y v u Q I rx ry h
 refine bc fun ζ=>?_
 obtain ⟨l,b,xs,zs,rfl,rfl,hH,hB,n2,hz,q0,q⟩:=h
 cases rx
 cases ry
 obtain ⟨z1,its,r1,⟨⟨cls,dd,data,sl⟩,ho,hc,n,hd⟩⟩:=(show ObjOk X.prog X.w H s.heap l (.tup xs) from I.hok l _ hH)
 obtain ⟨z2,its2,r2,⟨⟨cls2,dd2,data2,sl2⟩,ho2,hc2,n',hd2⟩⟩:=(show ObjOk X.prog X.w H s.heap b (.tup zs) from I.hok b _ hB)
 apply ζ;clear ζ
 simp only at hc hd hc2 hd2
 subst hc hd hc2 hd2
 have e : its.toArray ++ its2.toArray = (its ++ its2).toArray:=by simp
 have hl:=r1.length
 have hl2:=r2.length
 have m2 : its2≠[]:=fun y=>n2 (List.length_eq_zero_iff.mp (by rw [hl2,y]; rfl))
 by_cases n1 : xs = []
 ·have m1 : its = []:=List.length_eq_zero_iff.mp (by rw [← hl,n1]; rfl)
  exact concat_meets ⟨_,ho,rfl⟩ ⟨_,ho2,rfl⟩ noFill_tuple_add seq_tuple_add PySem.F.slot_tuple_add PySem.F.entry_tuple_add (PySem.F.args_tuple_add_2 _ _)
   (tuple_addW0 l b its.toArray its2.toArray n n' dd dd2 sl sl2 (by simp [m1])) ⟨ho,ho2,.ref b,H,I,rfl,q0 n1⟩
 ·have m1 : its≠[]:=fun y=>n1 (List.length_eq_zero_iff.mp (by rw [hl,y]; rfl))
  refine concat_meets ⟨_,ho,rfl⟩ ⟨_,ho2,rfl⟩ noFill_tuple_add seq_tuple_add PySem.F.slot_tuple_add PySem.F.entry_tuple_add (PySem.F.args_tuple_add_2 _ _)
   (tuple_addW2 l b its.toArray its2.toArray n n' dd dd2 sl sl2 (by simpa using m1) (by simpa using m2) (by rw [List.size_toArray,List.size_toArray]; lia)) ⟨ho,ho2,?_⟩
  rw [e]
  refine ⟨.ref _,_,I.laid (t':=s.toks) (fun _ _ q=>Heap.get?_push_of_some _ q) (Nat.le_refl _) (show ObjOk X.prog X.w _ _ _ (.tup (xs ++ zs)) from ⟨by rw [List.length_append]; exact hz,its ++ its2,r1.append r2,⟨_,Heap.get?_push_size _ rfl,rfl,0,rfl⟩⟩),rfl,q n1 _ I.fresh⟩
theorem od_catU : OpD rCatU _d.gCatU:=by
 intro H0 H x y dx dy z Q s rx ry e k
 unfold _d.gCatU at e
 split at e
 ·rename_i xs y1 ys
  split at e
  case isFalse=>cases e
  rename_i hz
  cases e
  have r0 : Rep H0 y (.tup (y1 :: ys)):=by
   rcases ry with r | ⟨a,_,w⟩
   ·exact r
   ·exact False.elim w
  obtain ⟨a,us,rfl,qa,ra⟩:=repO_tup s rx
  obtain ⟨b,ws,rfl,qb,rb⟩:=repO_tup s ry
  have la:=ra.length
  have lb:=rb.length
  refine ⟨a,b,us,ws,rfl,rfl,qa,qb,fun q=>(by rw [q] at lb; cases lb),by rw [la,lb]; exact sz_line hz,fun q=>?_,fun _ p hp=>?_⟩
  ·subst q
   cases ra
   exact k _ _ _ (Grow.refl s) r0
  ·have g:=Grow.newS (o:=.tup (us ++ ws)) s hp
   exact k _ _ _ g (.tup upd_same ((ra.append rb).mono g.s0))
 ·contradiction
section
variable {X : Cx} {pos : Pos}
theorem d_catU {a b : Expr} {fa fb : _d.FE} (ha : DE X a fa) (hb : DE X b fb) : DE X (.BinOp a .Add b pos) (_d.e2 _d.gCatU fa fb):=d_op op_catU od_catU ha hb
end
end _r
namespace _d
noncomputable def eShare (j : Nat) (f : FE) : FE:=fun ρ =>
 match ρ[j]? with
 | some (.ow d)=>f (ρ.set j (.sh d))
 | _=>none
end _d
namespace _r
open PySem PySem.Spec PyProof.Rows _l
theorem r_share {j : Nat} {f : _d.FE} {σ : _l.St} {H : Hp} {Q : VK} (h : tD (_d.eShare j f) σ H Q) : tD f σ H Q:=by
 obtain ⟨H0,ρ,x,ρ',st,e,k⟩:=h
 unfold _d.eShare at e
 split at e
 case h_2=>cases e
 rename_i d hj
 obtain ⟨a,q,n,w⟩:=st.ow j d hj
 obtain ⟨H1,t1,_,_,_,_⟩:=take1 (x:=.slot j) (d:=d) (ρ':=ρ.set j (.sh d)) (ESt.refl st) (Same.refl _) ⟨q,trivial⟩ (by unfold _d.tk; dsimp only; rw [hj])
 exact ⟨H1,_,x,ρ',t1.st,e,fun v H0' H' t r=>k v H0' H' (t1.trans t) r⟩
section
variable {X : Cx} {e : Expr} {f : _d.FE}
theorem d_share (j : Nat) (h : DE X e f) : DE X e (_d.eShare j f):=PE.weak h fun _ _ _=>r_share
end
end _r
namespace _d
noncomputable def We (e : FE) (ρ : Env) (Q : Val→Env→Prop) : Prop:=∃ v ρ',e ρ = some (v,ρ')∧Q v ρ'
noncomputable def Wt (t : FT) (ρ : Env) (Q : Bool→Env→Prop) : Prop:=∃ v ρ',t ρ = some (v,ρ')∧Q v ρ'
noncomputable def Was (as : List FE) (ρ : Env) (Q : List Val→Env→Prop) : Prop:=∃ v ρ',eAs as ρ = some (v,ρ')∧Q v ρ'
noncomputable def Wi (it : FI) (ρ : Env) (Q : List Dat→Env→Prop) : Prop:=∃ v ρ',it ρ = some (v,ρ')∧Q v ρ'
noncomputable def KO (N : Env→Prop) (R : RV→Env→Prop) (B C : Env→Prop) : Out→Prop
 | .nx ρ=>N ρ
 | .ret r ρ=>R r ρ
 | .bk ρ=>B ρ
 | .ct ρ=>C ρ
noncomputable def Ws (s : FS) (ρ : Env) (N : Env→Prop) (R : RV→Env→Prop) (B C : Env→Prop) : Prop:=∃ o,s ρ = some o∧KO N R B C o
noncomputable def Wr (o : Option RV) (P : RV→Prop) : Prop:=∃ r,o = some r∧P r
noncomputable def Wif (c : Bool) (X Y : Prop) : Prop:=(c = true→X)∧(c = false→Y)
noncomputable def Wg1 (g : Dat→Option RV) (o : Option Dat) (K : RV→Prop) : Prop:=∃ d v,o = some d∧g d = some v∧K v
noncomputable def Wg2 (g : Dat→Dat→Option RV) (o p : Option Dat) (K : RV→Prop) : Prop:=∃ d e v,o = some d∧p = some e∧g d e = some v∧K v
noncomputable def WB (g : List Dat→Option RV) (o : Option (List Dat)) (K : RV→Prop) : Prop:=∃ ds v,o = some ds∧g ds = some v∧K v
noncomputable def WT (o : Option (List Dat×Env)) (K : List Dat→Env→Prop) : Prop:=∃ ds ρ,o = some (ds,ρ)∧ds.length≤SZ∧K ds ρ
noncomputable def WF (f : List Dat→Option RV) (ρ : Env) (xs : List Val) (Q : Val→Env→Prop) : Prop:=∃ ds v,pks ρ xs = some ds∧f ds = some v∧(if isBox v.dat then ∃ ds' ρ2,tks ρ xs = some (ds',ρ2)∧Q v.toVal ρ2 else Q v.toVal ρ)
noncomputable def Wk (ρ : Env) (x : Val) (K : Dat→Env→Prop) : Prop:=∃ d ρ',tk ρ x = some (d,ρ')∧K d ρ'
noncomputable def Wp (o : Option FE) (ρ : Env) (K : Option Int→Env→Prop) : Prop:=∃ i ρ',part o ρ = some (i,ρ')∧K i ρ'
theorem Wif.t {X Y : Prop} (x : X) : Wif true X Y:=⟨fun _=>x,fun h=>by cases h⟩
theorem Wif.f {X Y : Prop} (y : Y) : Wif false X Y:=⟨fun h=>(by cases h),fun _=>y⟩
theorem Wif.yes {c : Bool} {X Y : Prop} (h : c = true) (x : X) : Wif c X Y:=⟨fun _=>x,fun h'=>by rw [h] at h'; cases h'⟩
theorem Wif.no {c : Bool} {X Y : Prop} (h : c = false) (y : Y) : Wif c X Y:=⟨fun h'=>(by rw [h] at h'; cases h'),fun _=>y⟩
theorem Wif.dec {p : Prop} [Decidable p] {X Y : Prop} (x : p→X) (y : ¬ p→Y) : Wif (decide p) X Y:=⟨fun h=>x (of_decide_eq_true h),fun h=>y (of_decide_eq_false h)⟩
theorem We.v {i : Nat} {ρ : Env} {d : Dat} {Q : Val→Env→Prop} (h : ρ[i]? = some (.sh d)) (q : Q (.val d) ρ) : We (eV i) ρ Q:=⟨_,_,by unfold eV; rw [h],q⟩
theorem We.w {i : Nat} {ρ : Env} {d : Dat} {Q : Val→Env→Prop} (h : ρ[i]? = some (.ow d)) (q : Q (.slot i) ρ) : We (eV i) ρ Q:=⟨_,_,by unfold eV; rw [h],q⟩
theorem We.c {d : Dat} {ρ : Env} {Q : Val→Env→Prop} (q : Q (.val d) ρ) : We (eC d) ρ Q:=⟨_,_,rfl,q⟩
theorem We.e1 {g : Dat→Option RV} {a : FE} {ρ : Env} {Q : Val→Env→Prop} (h : We a ρ fun x ρ1=>Wg1 g (pk ρ1 x) fun v=>Q v.toVal ρ1) : We (e1 g a) ρ Q:=by
 obtain ⟨x,ρ1,h1,d,v,h2,h3,q⟩:=h
 exact ⟨_,_,by unfold _d.e1; rw [h1]; dsimp only; rw [h2]; dsimp only; rw [h3],q⟩
theorem We.e2 {g : Dat→Dat→Option RV} {a b : FE} {ρ : Env} {Q : Val→Env→Prop} (h : We a ρ fun x ρ1=>We b ρ1 fun y ρ2=>Wg2 g (pk ρ2 x) (pk ρ2 y) fun v=>Q v.toVal ρ2) : We (e2 g a b) ρ Q:=by
 refine bc fun ζ=>?_
 obtain ⟨x,ρ1,h1,y,ρ2,h2,d,e,v,h3,h4,h5,q⟩:=h
 apply ζ;clear ζ
 exact ⟨_,_,by unfold _d.e2; rw [h1]; dsimp only; rw [h2]; dsimp only; rw [h3]; dsimp only; rw [h4]; dsimp only; rw [h5],q⟩
theorem Was.nil {ρ : Env} {Q : List Val→Env→Prop} (q : Q [] ρ) : Was [] ρ Q:=⟨_,_,rfl,q⟩
theorem Was.cons {a : FE} {r : List FE} {ρ : Env} {Q : List Val→Env→Prop} (h : We a ρ fun x ρ1=>Was r ρ1 fun xs ρ2=>Q (x :: xs) ρ2) : Was (a :: r) ρ Q:=by
 obtain ⟨x,ρ1,h1,xs,ρ2,h2,q⟩:=h
 exact ⟨_,_,by unfold eAs; rw [h1]; dsimp only; rw [h2],q⟩
theorem We.B {g : List Dat→Option RV} {as : List FE} {ρ : Env} {Q : Val→Env→Prop} (h : Was as ρ fun xs ρ1=>WB g (pks ρ1 xs) fun v=>Q v.toVal ρ1) : We (eB g as) ρ Q:=by
 obtain ⟨x,ρ1,h1,d,v,h2,h3,q⟩:=h
 exact ⟨_,_,by unfold eB; rw [h1]; dsimp only; rw [h2]; dsimp only; rw [h3],q⟩
theorem We.T {as : List FE} {ρ : Env} {Q : Val→Env→Prop} (h : Was as ρ fun xs ρ1=>WT (tks ρ1 xs) fun ds ρ2=>Q (.val (.tup ds)) ρ2) : We (eTup as) ρ Q:=by
 obtain ⟨x,ρ1,h1,ds,ρ2,h2,h3,q⟩:=h
 exact ⟨_,_,by unfold eTup; rw [h1]; dsimp only; rw [h2]; dsimp only; rw [if_pos h3],q⟩
theorem We.L {as : List FE} {ρ : Env} {Q : Val→Env→Prop} (h : Was as ρ fun xs ρ1=>WT (tks ρ1 xs) fun ds ρ2=>Q (.new (.lst ds)) ρ2) : We (eLst as) ρ Q:=by
 obtain ⟨x,ρ1,h1,ds,ρ2,h2,h3,q⟩:=h
 exact ⟨_,_,by unfold eLst; rw [h1]; dsimp only; rw [h2]; dsimp only; rw [if_pos h3],q⟩
theorem WT.mk {ρ : Env} {xs : List Val} {ds : List Dat} {ρ2 ρ3 : Env} {K : List Dat→Env→Prop} (k : K ds ρ3) (h : tks ρ xs = some (ds,ρ2)) (hn : ρ2 = ρ3) (hl : ds.length≤SZ) : WT (tks ρ xs) K:=⟨_,_,hn ▸ h,hl,k⟩
theorem We.F {f : List Dat→Option RV} {as : List FE} {ρ : Env} {Q : Val→Env→Prop} (h : Was as ρ fun xs ρ1=>WF f ρ1 xs Q) : We (eF f as) ρ Q:=by
 obtain ⟨x,ρ1,h1,ds,v,h2,h3,h4⟩:=h
 by_cases hb : isBox v.dat = true
 ·rw [if_pos hb] at h4
  obtain ⟨ds',ρ2,h5,q⟩:=h4
  exact ⟨_,_,by unfold eF; rw [h1]; dsimp only; rw [h2]; dsimp only; rw [h3]; dsimp only; rw [if_pos hb,h5],q⟩
 ·rw [if_neg hb] at h4
  exact ⟨_,_,by unfold eF; rw [h1]; dsimp only; rw [h2]; dsimp only; rw [h3]; dsimp only; rw [if_neg hb],h4⟩
theorem WF.box {f : List Dat→Option RV} {ρ ρ2 ρ3 : Env} {xs : List Val} {ds ds' : List Dat} {v : RV} {Q : Val→Env→Prop} (h2 : f ds = some v) (q : Q v.toVal ρ3) (h1 : pks ρ xs = some ds) (h3 : isBox v.dat = true) (h4 : tks ρ xs = some (ds',ρ2)) (hn : ρ2 = ρ3) : WF f ρ xs Q :=
 ⟨_,_,h1,h2,by rw [if_pos h3]; exact ⟨_,_,h4,hn ▸ q⟩⟩
theorem WF.val {f : List Dat→Option RV} {ρ : Env} {xs : List Val} {ds : List Dat} {v : RV} {Q : Val→Env→Prop} (h2 : f ds = some v) (q : Q v.toVal ρ) (h1 : pks ρ xs = some ds) (h3 : isBox v.dat = false) : WF f ρ xs Q :=
 ⟨_,_,h1,h2,by rw [if_neg (by rw [h3]; decide)]; exact q⟩
theorem We.If {t : FT} {a b : FE} {ρ : Env} {Q : Val→Env→Prop} (h : Wt t ρ fun c ρ1=>Wif c (We a ρ1 Q) (We b ρ1 Q)) : We (eIf t a b) ρ Q:=by
 obtain ⟨c,ρ1,h1,h2,h3⟩:=h
 cases c with
 | true=>obtain ⟨v,ρ2,h4,q⟩:=h2 rfl; exact ⟨_,_,by unfold eIf; rw [h1]; exact h4,q⟩
 | false=>obtain ⟨v,ρ2,h4,q⟩:=h3 rfl; exact ⟨_,_,by unfold eIf; rw [h1]; exact h4,q⟩
noncomputable def Wb (v : Val) (K : Bool→Prop) : Prop:=∃ c,v = .val (.bl c)∧K c
theorem Wb.mk {c : Bool} {K : Bool→Prop} (k : K c) : Wb (.val (.bl c)) K:=⟨c,rfl,k⟩
theorem We.And {a b : FE} {ρ : Env} {Q : Val→Env→Prop} (h : We a ρ fun v ρ1=>Wb v fun c=>Wif c (We b ρ1 Q) (Q (.val (.bl false)) ρ1)) : We (eAnd a b) ρ Q:=by
 obtain ⟨v,ρ1,h1,c,rfl,h2,h3⟩:=h
 cases c with
 | true=>obtain ⟨v,ρ2,h4,q⟩:=h2 rfl; exact ⟨_,_,by unfold eAnd; rw [h1]; exact h4,q⟩
 | false=>exact ⟨_,_,by unfold eAnd; rw [h1],h3 rfl⟩
theorem Wt.V {a : FE} {ρ : Env} {Q : Bool→Env→Prop} (h : We a ρ fun v ρ1=>Wb v fun c=>Q c ρ1) : Wt (tV a) ρ Q:=by
 obtain ⟨v,ρ1,h1,c,rfl,h2⟩:=h
 exact ⟨_,_,by unfold tV; rw [h1],h2⟩
theorem Wt.Not {t : FT} {ρ : Env} {Q : Bool→Env→Prop} (h : Wt t ρ fun c ρ1=>Q (!c) ρ1) : Wt (tNot t) ρ Q:=by
 obtain ⟨v,ρ1,h1,h2⟩:=h
 exact ⟨_,_,by unfold tNot; rw [h1],h2⟩
theorem Wt.And {t u : FT} {ρ : Env} {Q : Bool→Env→Prop} (h : Wt t ρ fun c ρ1=>Wif c (Wt u ρ1 Q) (Q false ρ1)) : Wt (tAnd t u) ρ Q:=by
 obtain ⟨c,ρ1,h1,h2,h3⟩:=h
 cases c with
 | true=>obtain ⟨v,ρ2,h4,q⟩:=h2 rfl; exact ⟨_,_,by unfold tAnd; rw [h1]; exact h4,q⟩
 | false=>exact ⟨_,_,by unfold tAnd; rw [h1],h3 rfl⟩
theorem Wt.Or {t u : FT} {ρ : Env} {Q : Bool→Env→Prop} (h : Wt t ρ fun c ρ1=>Wif c (Q true ρ1) (Wt u ρ1 Q)) : Wt (tOr t u) ρ Q:=by
 obtain ⟨c,ρ1,h1,h2,h3⟩:=h
 cases c with
 | false=>obtain ⟨v,ρ2,h4,q⟩:=h3 rfl; exact ⟨_,_,by unfold tOr; rw [h1]; exact h4,q⟩
 | true=>exact ⟨_,_,by unfold tOr; rw [h1],h2 rfl⟩
theorem Wt.T {ρ : Env} {Q : Bool→Env→Prop} (q : Q true ρ) : Wt tTrue ρ Q:=⟨_,_,rfl,q⟩
theorem Wk.val {ρ : Env} {d : Dat} {K : Dat→Env→Prop} (k : K d ρ) : Wk ρ (.val d) K:=⟨_,_,rfl,k⟩
theorem Wk.new {ρ : Env} {d : Dat} {K : Dat→Env→Prop} (k : K d ρ) : Wk ρ (.new d) K:=⟨_,_,rfl,k⟩
noncomputable def seqD : Dat→Option (List Dat)
 | .lst ds=>some ds
 | .tup ds=>some ds
 | _=>none
theorem Wi.S {a : FE} {ρ : Env} {Q : List Dat→Env→Prop} (h : We a ρ fun x ρ1=>Wk ρ1 x fun d ρ2=>∃ ds,seqD d = some ds∧Q ds ρ2) : Wi (iS a) ρ Q:=by
 obtain ⟨x,ρ1,h1,d,ρ2,h2,ds,hd,q⟩:=h
 cases d with
 | lst xs=>cases hd; exact ⟨_,_,by unfold iS; rw [h1]; dsimp only; rw [h2],q⟩
 | tup xs=>cases hd; exact ⟨_,_,by unfold iS; rw [h1]; dsimp only; rw [h2],q⟩
 | _=>cases hd
noncomputable def Wint (v : Val) (K : Int→Prop) : Prop:=∃ i,v = .val (.int i)∧K i
theorem Wint.mk {i : Int} {K : Int→Prop} (k : K i) : Wint (.val (.int i)) K:=⟨i,rfl,k⟩
theorem Wi.R1 {a : FE} {ρ : Env} {Q : List Dat→Env→Prop} (h : We a ρ fun v ρ1=>Wint v fun j=>Q (ups 0 j.toNat) ρ1∧j≤BIG∧-BIG≤j) : Wi (iR1 a) ρ Q:=by
 obtain ⟨v,ρ1,h1,j,rfl,q,h2⟩:=h
 exact ⟨_,_,by unfold iR1; rw [h1]; dsimp only; rw [if_pos h2],q⟩
theorem Wi.R2 {a b : FE} {ρ : Env} {Q : List Dat→Env→Prop} (h : We a ρ fun v ρ1=>Wint v fun i=>We b ρ1 fun w ρ2=>Wint w fun j=>Q (ups i (j - i).toNat) ρ2∧j≤BIG∧-BIG≤j∧i≤BIG∧-BIG≤i) : Wi (iR2 a b) ρ Q:=by
 refine bc fun ζ=>?_
 obtain ⟨v,ρ1,h1,i,rfl,w,ρ2,h2,j,rfl,q,h3⟩:=h
 apply ζ;clear ζ
 exact ⟨_,_,by unfold iR2; rw [h1]; dsimp only; rw [h2]; dsimp only; rw [if_pos h3],q⟩
theorem Wi.Rev {a : FE} {ρ : Env} {Q : List Dat→Env→Prop} (h : We a ρ fun x ρ1=>Wk ρ1 x fun d ρ2=>∃ ds,d = .lst ds∧Q ds.reverse ρ2) : Wi (iRev a) ρ Q:=by
 obtain ⟨x,ρ1,h1,d,ρ2,h2,ds,rfl,q⟩:=h
 exact ⟨_,_,by unfold iRev; rw [h1]; dsimp only; rw [h2],q⟩
theorem Wi.En {a : FE} {ρ : Env} {Q : List Dat→Env→Prop} (h : We a ρ fun x ρ1=>Wk ρ1 x fun d ρ2=>∃ ds,d = .lst ds∧Q (enumD 0 ds) ρ2) : Wi (iEn a) ρ Q:=by
 obtain ⟨x,ρ1,h1,d,ρ2,h2,ds,rfl,q⟩:=h
 exact ⟨_,_,by unfold iEn; rw [h1]; dsimp only; rw [h2],q⟩
theorem Wp.none {ρ : Env} {K : Option Int→Env→Prop} (k : K none ρ) : Wp none ρ K:=⟨_,_,rfl,k⟩
theorem Wp.some {f : FE} {ρ : Env} {K : Option Int→Env→Prop} (h : We f ρ fun v ρ1=>Wint v fun i=>K (some i) ρ1) : Wp (some f) ρ K:=by
 obtain ⟨v,ρ1,h1,i,rfl,k⟩:=h
 exact ⟨_,_,by unfold part; dsimp only; rw [h1],k⟩
noncomputable def Wsl (o : Option Dat) (l h : Option Int) (K : Dat→Prop) : Prop:=∃ xs,o = some (.lst xs)∧K (.lst (cut xs l h))
theorem Wsl.mk {xs : List Dat} {o : Option Dat} {l h : Option Int} {K : Dat→Prop} (k : K (.lst (cut xs l h))) (ho : o = some (.lst xs)) : Wsl o l h K:=⟨xs,ho,k⟩
noncomputable def cutA {α : Type} (xs : List α) (lo hi : Option Int) : List α:=(xs.drop (sIx xs.length 0 lo)).take (sIx xs.length xs.length hi - sIx xs.length 0 lo)
theorem cut_A {α : Type} (enc : α→Dat) (xs : List α) (lo hi : Option Int) : cut (xs.map enc) lo hi = (cutA xs lo hi).map enc:=by
 unfold cut cutA
 rw [List.length_map,← List.map_drop,← List.map_take]
theorem cutA_len {α : Type} (xs : List α) (lo hi : Option Int) : (cutA xs lo hi).length≤xs.length:=by
 unfold cutA
 rw [List.length_take,List.length_drop]; lia
theorem Wsl.A {α : Type} {enc : α→Dat} {xs : List α} {o : Option Dat} {l h : Option Int} {K : Dat→Prop} (k : K (.lst ((cutA xs l h).map enc))) (ho : o = some (.lst (xs.map enc))) : Wsl o l h K:=⟨_,ho,by rw [cut_A]; exact k⟩
theorem We.Sl {a : FE} {lo hi : Option FE} {ρ : Env} {Q : Val→Env→Prop} (h : We a ρ fun x ρ1=>Wp lo ρ1 fun l ρ2=>Wp hi ρ2 fun h ρ3=>Wsl (pk ρ3 x) l h fun d=>Q (.new d) ρ3) : We (eSl a lo hi) ρ Q:=by
 refine bc fun ζ=>?_
 obtain ⟨x,ρ1,h1,l,ρ2,h2,hh,ρ3,h3,xs,h4,q⟩:=h
 apply ζ;clear ζ
 exact ⟨_,_,by unfold eSl; rw [h1]; dsimp only; rw [h2]; dsimp only; rw [h3]; dsimp only; rw [h4],q⟩
theorem We.SlT {a : FE} {lo hi : Option FE} {ρ : Env} {Q : Val→Env→Prop} (h : We a ρ fun x ρ1=>Wp lo ρ1 fun l ρ2=>Wp hi ρ2 fun h ρ3=>∃ xs,pk ρ3 x = some (.tup xs)∧¬ (sIx xs.length 0 l = 0∧sIx xs.length xs.length h = xs.length)∧Q (.val (.tup (cut xs l h))) ρ3) : We (eSlT a lo hi) ρ Q:=by
 refine bc fun ζ=>?_
 obtain ⟨x,ρ1,h1,l,ρ2,h2,hh,ρ3,h3,xs,h4,h5,q⟩:=h
 apply ζ;clear ζ
 exact ⟨_,_,by unfold eSlT; rw [h1]; dsimp only; rw [h2]; dsimp only; rw [h3]; dsimp only; rw [h4]; dsimp only; rw [if_neg h5],q⟩
theorem Ws.nx {ρ : Env} {N : Env→Prop} {R : RV→Env→Prop} {B C : Env→Prop} (n : N ρ) : Ws sNx ρ N R B C:=⟨_,rfl,n⟩
theorem Ws.seq {s u : FS} {ρ : Env} {N : Env→Prop} {R : RV→Env→Prop} {B C : Env→Prop} (h : Ws s ρ (fun ρ1=>Ws u ρ1 N R B C) R B C) : Ws (sSeq s u) ρ N R B C:=by
 refine bc fun ζ=>?_
 obtain ⟨o,h1,h2⟩:=h
 apply ζ;clear ζ
 cases o with
 | nx ρ1=>obtain ⟨o,h3,h4⟩:=h2; exact ⟨o,by unfold sSeq; rw [h1]; exact h3,h4⟩
 | ret r ρ1=>exact ⟨.ret r ρ1,by unfold sSeq; rw [h1],h2⟩
 | bk ρ1=>exact ⟨.bk ρ1,by unfold sSeq; rw [h1],h2⟩
 | ct ρ1=>exact ⟨.ct ρ1,by unfold sSeq; rw [h1],h2⟩
noncomputable def WA (i : Nat) (v : Val) (ρ : Env) (N : Env→Prop) : Prop:=match v with
 | .new d=>N (ρ.set i (.ow d))
 | x=>Wk ρ x fun d ρ2=>N (ρ2.set i (.sh d))
theorem Ws.A {i : Nat} {e : FE} {ρ : Env} {N : Env→Prop} {R : RV→Env→Prop} {B C : Env→Prop} (h : We e ρ fun v ρ1=>WA i v ρ1 N) (hi : i≠0) : Ws (sA i e) ρ N R B C:=by
 obtain ⟨v,ρ1,h1,h2⟩:=h
 cases v with
 | new d=>exact ⟨.nx _,by unfold sA; rw [if_neg hi,h1],h2⟩
 | val d=>obtain ⟨d',ρ2,h3,h4⟩:=h2; exact ⟨.nx _,by unfold sA; rw [if_neg hi,h1]; dsimp only; rw [h3],h4⟩
 | slot j=>obtain ⟨d',ρ2,h3,h4⟩:=h2; exact ⟨.nx _,by unfold sA; rw [if_neg hi,h1]; dsimp only; rw [h3],h4⟩
theorem WA.new {i : Nat} {d : Dat} {ρ ρ2 : Env} {N : Env→Prop} (n : N ρ2) (hs : ρ.set i (.ow d) = ρ2) : WA i (.new d) ρ N:=by unfold WA; dsimp only; rw [hs]; exact n
theorem WA.val {i : Nat} {d : Dat} {ρ ρ2 : Env} {N : Env→Prop} (n : N ρ2) (hs : ρ.set i (.sh d) = ρ2) : WA i (.val d) ρ N:=⟨_,_,rfl,by show N _; rw [hs]; exact n⟩
theorem Ws.U {is : List Nat} {e : FE} {ρ : Env} {N : Env→Prop} {R : RV→Env→Prop} {B C : Env→Prop} (h : We e ρ fun x ρ1=>Wk ρ1 x fun d ρ2=>∃ ds ρ3,d = .tup ds∧sets is ds ρ2 = some ρ3∧N ρ3) : Ws (sU is e) ρ N R B C:=by
 refine bc fun ζ=>?_
 obtain ⟨x,ρ1,h1,d,ρ2,h2,ds,ρ3,rfl,h3,n⟩:=h
 apply ζ;clear ζ
 exact ⟨.nx _,by unfold sU; rw [h1]; dsimp only; rw [h2]; dsimp only; rw [h3],n⟩
theorem Ws.E {e : FE} {ρ : Env} {N : Env→Prop} {R : RV→Env→Prop} {B C : Env→Prop} (h : We e ρ fun _ ρ1=>N ρ1) : Ws (sE e) ρ N R B C:=by
 obtain ⟨x,ρ1,h1,n⟩:=h
 exact ⟨.nx _,by unfold sE; rw [h1],n⟩
noncomputable def WR (v : Val) (ρ : Env) (R : RV→Env→Prop) : Prop:=match v with
 | .new d=>R (.new d) ρ
 | .val d=>R (.val d) ρ
 | .slot i=>(∃ d,ρ[i]? = some (.ow d)∧R (.new d) (ρ.set i .un))
theorem Ws.R {e : FE} {ρ : Env} {N : Env→Prop} {R : RV→Env→Prop} {B C : Env→Prop} (h : We e ρ fun v ρ1=>WR v ρ1 R) : Ws (sR e) ρ N R B C:=by
 obtain ⟨v,ρ1,h1,h2⟩:=h
 cases v with
 | new d=>exact ⟨.ret _ _,by unfold sR; rw [h1],h2⟩
 | val d=>exact ⟨.ret _ _,by unfold sR; rw [h1],h2⟩
 | slot i=>obtain ⟨d,h3,h4⟩:=h2; exact ⟨.ret _ _,by unfold sR; rw [h1]; dsimp only; rw [h3],h4⟩
theorem WR.new {d : Dat} {ρ : Env} {R : RV→Env→Prop} (r : R (.new d) ρ) : WR (.new d) ρ R:=r
theorem WR.val {d : Dat} {ρ : Env} {R : RV→Env→Prop} (r : R (.val d) ρ) : WR (.val d) ρ R:=r
theorem WR.slot {d : Dat} {ρ : Env} {i : Nat} {R : RV→Env→Prop} (r : R (.new d) (ρ.set i .un)) (h : ρ[i]? = some (.ow d)) : WR (.slot i) ρ R:=⟨d,h,r⟩
theorem Ws.If {t : FT} {a b : FS} {ρ : Env} {N : Env→Prop} {R : RV→Env→Prop} {B C : Env→Prop} (h : Wt t ρ fun c ρ1=>Wif c (Ws a ρ1 N R B C) (Ws b ρ1 N R B C)) : Ws (sIf t a b) ρ N R B C:=by
 obtain ⟨c,ρ1,h1,h2,h3⟩:=h
 cases c with
 | true=>obtain ⟨o,h4,q⟩:=h2 rfl; exact ⟨_,by unfold sIf; rw [h1]; exact h4,q⟩
 | false=>obtain ⟨o,h4,q⟩:=h3 rfl; exact ⟨_,by unfold sIf; rw [h1]; exact h4,q⟩
theorem Ws.App {i : Nat} {e : FE} {ρ : Env} {N : Env→Prop} {R : RV→Env→Prop} {B C : Env→Prop} {ds0 : List Dat} (h : We e ρ fun x ρ1=>Wk ρ1 x fun d ρ2=>∃ ds ρ3,ρ2[i]? = some (.ow (.lst ds))∧ρ2.set i (.ow (.lst (ds ++ [d]))) = ρ3∧N ρ3∧ds.length < SZ) (h0 : ρ[i]? = some (.ow (.lst ds0))) : Ws (sApp i e) ρ N R B C:=by
 refine bc fun ζ=>?_
 obtain ⟨x,ρ1,h1,d,ρ2,h2,ds,ρ3,h3,h5,n,h4⟩:=h
 apply ζ;clear ζ
 exact ⟨.nx _,by unfold sApp; rw [h0]; dsimp only; rw [h1]; dsimp only; rw [h2]; dsimp only; rw [h3]; dsimp only; rw [if_pos h4,h5],n⟩
theorem app_go {i : Nat} {d : Dat} {ds : List Dat} {ρ2 ρ3 : Env} {N : Env→Prop} (n : N ρ3) (h : ρ2[i]? = some (.ow (.lst ds))) (hs : ρ2.set i (.ow (.lst (ds ++ [d]))) = ρ3) (hl : ds.length < SZ) : ∃ ds ρ3,ρ2[i]? = some (.ow (.lst ds))∧ρ2.set i (.ow (.lst (ds ++ [d]))) = ρ3∧N ρ3∧ds.length < SZ:=⟨_,_,h,hs,n,hl⟩
theorem Ws.Set {i : Nat} {j e : FE} {ρ : Env} {N : Env→Prop} {R : RV→Env→Prop} {B C : Env→Prop} (h : We e ρ fun x ρ1=>Wk ρ1 x fun d ρ2=>(∃ d0,ρ2[i]? = some (.ow d0))∧We j ρ2 fun y ρ3=>Wint y fun k=>∃ ds m ρ4,ρ3[i]? = some (.ow (.lst ds))∧ixN ds.length k = some m∧ρ3.set i (.ow (.lst (ds.set m d))) = ρ4∧N ρ4) : Ws (sSet i j e) ρ N R B C:=by
 refine bc fun ζ=>?_
 obtain ⟨x,ρ1,h1,d,ρ2,h2,⟨d0,h0⟩,y,ρ3,h3,k,rfl,ds,m,ρ4,h4,h5,h6,n⟩:=h
 apply ζ;clear ζ
 exact ⟨.nx _,by unfold sSet; rw [h1]; dsimp only; rw [h2]; dsimp only; rw [h0]; dsimp only; rw [h3]; dsimp only; rw [h4]; dsimp only; rw [h5]; dsimp only; rw [h6],n⟩
theorem Ws.For {it : FI} {bd : FB} {body : FS} {ρ : Env} {N : Env→Prop} {R : RV→Env→Prop} {B C : Env→Prop} (h : Wi it ρ fun ds ρ1=>Ws (forD bd body ds) ρ1 N R B C) : Ws (sFor it bd body) ρ N R B C:=by
 obtain ⟨ds,ρ1,h1,o,h2,h3⟩:=h
 exact ⟨o,by unfold sFor; rw [h1]; exact h2,h3⟩
theorem Ws.inv {α : Type} (enc : α→Dat) (bd : FB) (body : FS) (xs : List α) (ρ : Env) (N : Env→Prop) (R : RV→Env→Prop) (B C : Env→Prop) (I : List α→List α→Env→Prop)
  (h0 : I [] xs ρ) (hs : ∀ p x q ρ,xs = p ++ x :: q→I p (x :: q) ρ→∃ ρ1,bd (enc x) ρ = some ρ1∧Ws body ρ1 (fun ρ2=>I (p ++ [x]) q ρ2) R N (fun ρ2=>I (p ++ [x]) q ρ2)) (he : ∀ ρ,I xs [] ρ→N ρ) : Ws (forD bd body (xs.map enc)) ρ N R B C:=by
 have go : ∀ (q p : List α) (ρ : Env),xs = p ++ q→I p q ρ→Ws (forD bd body (q.map enc)) ρ N R B C:=fun q=>by
  induction q with
  | nil=>intro p ρ e i; rw [List.append_nil] at e; exact ⟨.nx _,rfl,he ρ (e ▸ i)⟩
  | cons x q ih =>
   intro p ρ e i
   obtain ⟨ρ1,h1,o,h2,h3⟩:=hs p x q ρ e i
   have e' : xs = (p ++ [x]) ++ q:=by rw [List.append_assoc]; exact e
   cases o with
   | nx ρ2=>obtain ⟨o,h4,h5⟩:=ih _ _ e' h3; exact ⟨o,by rw [List.map_cons,forD,h1]; dsimp only; rw [h2]; exact h4,h5⟩
   | ct ρ2=>obtain ⟨o,h4,h5⟩:=ih _ _ e' h3; exact ⟨o,by rw [List.map_cons,forD,h1]; dsimp only; rw [h2]; exact h4,h5⟩
   | bk ρ2=>exact ⟨.nx _,by rw [List.map_cons,forD,h1]; dsimp only; rw [h2],h3⟩
   | ret r ρ2=>exact ⟨.ret _ _,by rw [List.map_cons,forD,h1]; dsimp only; rw [h2],h3⟩
 exact go xs [] ρ rfl h0
theorem Wr.fn {n m : Nat} {body : FS} {ds : List Dat} {ρ : Env} {P : RV→Prop} (b : Ws body ρ (fun _=>P (.val .non)) (fun r _=>P r) (fun _=>False) (fun _=>False)) (hρ : ds.map Cell.sh ++ List.replicate m .un = ρ) (h : ds.length = n) : Wr (fn n m body ds) P:=by
 refine bc fun ζ=>?_
 obtain ⟨o,h1,h2⟩:=b
 apply ζ;clear ζ
 cases o with
 | nx ρ1=>exact ⟨_,by unfold _d.fn; rw [if_pos h,hρ,h1],h2⟩
 | ret r ρ1=>exact ⟨_,by unfold _d.fn; rw [if_pos h,hρ,h1],h2⟩
 | bk ρ1=>exact h2.elim
 | ct ρ1=>exact h2.elim
theorem Wr.eq {o : Option RV} {r : RV} (h : Wr o fun x=>x = r) : o = some r:=by obtain ⟨x,h1,rfl⟩:=h; exact h1
theorem compW {α : Type} (enc : α→Dat) (p : α→Bool) (v : α→Dat) (bd : FB) (t : FT) (el : FE) (mk : Cell→Env) (hb : ∀ d c,bd d (mk c) = some (mk (.sh d))) : ∀ (xs : List α) (c : Cell) (acc : List Dat),
  (∀ x∈xs,t (mk (.sh (enc x))) = some (p x,mk (.sh (enc x))))→(∀ x∈xs,p x = true→We el (mk (.sh (enc x))) fun w ρ'=>Wk ρ' w fun d ρ''=>d = v x∧ρ'' = mk (.sh (enc x))) →
  ∃ c',compD bd t el (xs.map enc) (mk c) acc = some (acc ++ (xs.filter p).map v,mk c')
 | [],c,acc,_,_=>⟨c,by simp [compD]⟩
 | x :: xs,c,acc,ht,he=>by
  rw [List.map_cons,compD,hb]
  dsimp only
  rw [ht x List.mem_cons_self]
  have ht':=fun y hy=>ht y (List.mem_cons_of_mem _ hy)
  have he':=fun y hy=>he y (List.mem_cons_of_mem _ hy)
  by_cases h : p x = true
  ·refine bc fun ζ=>?_
   obtain ⟨w,ρ',h1,d,ρ'',h2,rfl,rfl⟩:=he x List.mem_cons_self h
   apply ζ;clear ζ
   rw [h]
   dsimp only
   rw [h1]
   dsimp only
   rw [h2]
   obtain ⟨c',e⟩:=compW enc p v bd t el mk hb xs (.sh (enc x)) (acc ++ [v x]) ht' he'
   exact ⟨c',by dsimp only; rw [e,List.filter_cons_of_pos h]; simp⟩
  ·rw [Bool.not_eq_true] at h
   rw [h]
   obtain ⟨c',e⟩:=compW enc p v bd t el mk hb xs (.sh (enc x)) acc ht' he'
   exact ⟨c',by dsimp only; rw [e,List.filter_cons_of_neg (by rw [h]; decide)]⟩
theorem Wt.get {t : FT} {ρ : Env} {c : Bool} (h : Wt t ρ fun c' ρ'=>c' = c∧ρ' = ρ) : t ρ = some (c,ρ):=by
 obtain ⟨_,_,h1,rfl,rfl⟩:=h; exact h1
theorem We.Comp {α : Type} (enc : α→Dat) (xs : List α) (p : α→Bool) (v : α→Dat) {it : FI} {k : Nat} {t : FT} {el : FE} {ρ ρ1 : Env} {Q : Val→Env→Prop}
  (q : Q (.new (.lst ((xs.filter p).map v))) ρ1) (hit : it ρ = some (xs.map enc,ρ1)) (hk : ρ1.length = k) (hk0 : k≠0) (hl : xs.length≤SZ)
  (ht : ∀ x∈xs,Wt t (ρ1 ++ [.sh (enc x)]) fun c ρ'=>c = p x∧ρ' = ρ1 ++ [.sh (enc x)])
  (he : ∀ x∈xs,p x = true→We el (ρ1 ++ [.sh (enc x)]) fun w ρ'=>Wk ρ' w fun d ρ''=>d = v x∧ρ'' = ρ1 ++ [.sh (enc x)]) : We (eComp it 1 (bN k) t el) ρ Q:=by
 have bd : ∀ (d : Dat) (c : Cell),bN k d (ρ1 ++ [c]) = some (ρ1 ++ [.sh d]):=fun d c=>by
  unfold bN
  rw [if_neg hk0,List.set_append_right _ _ (by lia)]
  simp [hk]
 obtain ⟨c',e⟩:=compW enc p v (bN k) t el (fun c=>ρ1 ++ [c]) bd xs .un [] (fun x hx=>Wt.get (ht x hx)) he
 refine ⟨_,_,?_,q⟩
 unfold eComp
 rw [hit]
 dsimp only
 rw [if_pos (by rw [List.length_map]; exact hl)]
 show (match compD _ _ _ _ (ρ1 ++ [.un]) [] with | none=>none | some (ys,ρ2)=>some (Val.new (.lst ys),ρ2.take ρ1.length)) = _
 rw [e]
 dsimp only
 rw [List.nil_append,List.take_left]
theorem We.CompS {α : Type} (enc : α→Dat) (xs : List α) (p : α→Bool) (v : α→Dat) {i : Nat} {k : Nat} {t : FT} {el : FE} {ρ : Env} {Q : Val→Env→Prop} {d : Dat}
  (q : Q (.new (.lst ((xs.filter p).map v))) ρ) (hi : ρ[i]? = some (.sh d)) (hd : seqD d = some (xs.map enc)) (hk : ρ.length = k) (hk0 : k≠0) (hl : xs.length≤SZ)
  (ht : ∀ x∈xs,Wt t (ρ ++ [.sh (enc x)]) fun c ρ'=>c = p x∧ρ' = ρ ++ [.sh (enc x)])
  (he : ∀ x∈xs,p x = true→We el (ρ ++ [.sh (enc x)]) fun w ρ'=>Wk ρ' w fun d ρ''=>d = v x∧ρ'' = ρ ++ [.sh (enc x)]) : We (eCompM i 1 (bN k) t el) ρ Q:=by
 have hit : iS (eV i) ρ = some (xs.map enc,ρ):=by
  unfold iS eV
  rw [hi]
  cases d with
  | lst ys=>cases hd; rfl
  | tup ys=>cases hd; rfl
  | _=>cases hd
 obtain ⟨a,ρ',h1,h2⟩:=We.Comp enc xs p v (Q:=Q) q hit hk hk0 hl ht he
 refine ⟨a,ρ',?_,h2⟩
 unfold eCompM
 rw [hi]
 exact h1
theorem We.CompO {α : Type} (enc : α→Dat) (xs : List α) (p : α→Bool) (v : α→Dat) {i : Nat} {k : Nat} {t : FT} {el : FE} {ρ ρ1 : Env} {Q : Val→Env→Prop}
  (q : Q (.new (.lst ((xs.filter p).map v))) ρ) (hi : ρ[i]? = some (.ow (.lst (xs.map enc)))) (h1 : ρ.set i .un = ρ1) (hk : ρ.length = k) (hk0 : k≠0) (hl : xs.length≤SZ)
  (ht : ∀ x∈xs,Wt t (ρ1 ++ [.sh (enc x)]) fun c ρ'=>c = p x∧ρ' = ρ1 ++ [.sh (enc x)])
  (he : ∀ x∈xs,p x = true→We el (ρ1 ++ [.sh (enc x)]) fun w ρ'=>Wk ρ' w fun d ρ''=>d = v x∧ρ'' = ρ1 ++ [.sh (enc x)]) : We (eCompM i 1 (bN k) t el) ρ Q:=by
 have hlen : ρ1.length = ρ.length:=by rw [← h1,List.length_set]
 have hil : i < ρ.length:=(List.getElem?_eq_some_iff.mp hi).1
 have bd : ∀ (d : Dat) (c : Cell),bN k d (ρ1 ++ [c]) = some (ρ1 ++ [.sh d]):=fun d c=>by
  unfold bN
  rw [if_neg hk0,List.set_append_right _ _ (by lia)]
  simp [hk,hlen]
 obtain ⟨c',e⟩:=compW enc p v (bN k) t el (fun c=>ρ1 ++ [c]) bd xs .un [] (fun x hx=>Wt.get (ht x hx)) he
 refine ⟨_,_,?_,q⟩
 unfold eCompM
 rw [hi]
 dsimp only
 rw [if_pos (by rw [List.length_map]; exact hl),h1]
 show (match compD _ _ _ _ (ρ1 ++ [.un]) [] with | none=>none | some (ys,ρ2)=>some (Val.new (.lst ys),(ρ2.take ρ.length).set i (.ow (.lst (xs.map enc))))) = _
 rw [e]
 dsimp only
 rw [List.nil_append,← hlen,List.take_left,← h1,List.set_set]
 congr 2
 apply List.ext_getElem?
 intro j
 by_cases h : i = j
 ·subst h; rw [List.getElem?_set_self hil,hi]
 ·rw [List.getElem?_set_ne h]
theorem We.Map {α β : Type} (enc : α→Dat) (xs : List α) (f : α→β) (enc2 : β→Dat) {it : FI} {k : Nat} {el : FE} {ρ ρ1 : Env} {Q : Val→Env→Prop}
  (q : Q (.new (.lst ((xs.map f).map enc2))) ρ1) (hit : it ρ = some (xs.map enc,ρ1)) (hk : ρ1.length = k) (hk0 : k≠0) (hl : xs.length≤SZ)
  (he : ∀ x∈xs,We el (ρ1 ++ [.sh (enc x)]) fun w ρ'=>Wk ρ' w fun d ρ''=>d = enc2 (f x)∧ρ'' = ρ1 ++ [.sh (enc x)]) : We (eComp it 1 (bN k) tTrue el) ρ Q :=
 We.Comp enc xs (fun _=>true) (fun x=>enc2 (f x)) (by rw [List.filter_eq_self.mpr (fun _ _=>rfl)]; rw [List.map_map] at q; exact q) hit hk hk0 hl (fun _ _=>Wt.T ⟨rfl,rfl⟩) fun x hx _=>he x hx
theorem We.MapS {α β : Type} (enc : α→Dat) (xs : List α) (f : α→β) (enc2 : β→Dat) {i : Nat} {k : Nat} {el : FE} {ρ : Env} {Q : Val→Env→Prop} {d : Dat}
  (q : Q (.new (.lst ((xs.map f).map enc2))) ρ) (hi : ρ[i]? = some (.sh d)) (hd : seqD d = some (xs.map enc)) (hk : ρ.length = k) (hk0 : k≠0) (hl : xs.length≤SZ)
  (he : ∀ x∈xs,We el (ρ ++ [.sh (enc x)]) fun w ρ'=>Wk ρ' w fun d ρ''=>d = enc2 (f x)∧ρ'' = ρ ++ [.sh (enc x)]) : We (eCompM i 1 (bN k) tTrue el) ρ Q :=
 We.CompS enc xs (fun _=>true) (fun x=>enc2 (f x)) (by rw [List.filter_eq_self.mpr (fun _ _=>rfl)]; rw [List.map_map] at q; exact q) hi hd hk hk0 hl (fun _ _=>Wt.T ⟨rfl,rfl⟩) fun x hx _=>he x hx
theorem We.MapO {α β : Type} (enc : α→Dat) (xs : List α) (f : α→β) (enc2 : β→Dat) {i : Nat} {k : Nat} {el : FE} {ρ ρ1 : Env} {Q : Val→Env→Prop}
  (q : Q (.new (.lst ((xs.map f).map enc2))) ρ) (hi : ρ[i]? = some (.ow (.lst (xs.map enc)))) (h1 : ρ.set i .un = ρ1) (hk : ρ.length = k) (hk0 : k≠0) (hl : xs.length≤SZ)
  (he : ∀ x∈xs,We el (ρ1 ++ [.sh (enc x)]) fun w ρ'=>Wk ρ' w fun d ρ''=>d = enc2 (f x)∧ρ'' = ρ1 ++ [.sh (enc x)]) : We (eCompM i 1 (bN k) tTrue el) ρ Q :=
 We.CompO enc xs (fun _=>true) (fun x=>enc2 (f x)) (by rw [List.filter_eq_self.mpr (fun _ _=>rfl)]; rw [List.map_map] at q; exact q) hi h1 hk hk0 hl (fun _ _=>Wt.T ⟨rfl,rfl⟩) fun x hx _=>he x hx
theorem We.SelS {α β : Type} (enc : α→Dat) (xs : List α) (p : α→Bool) (f : α→β) (enc2 : β→Dat) {i : Nat} {k : Nat} {t : FT} {el : FE} {ρ : Env} {Q : Val→Env→Prop} {d : Dat}
  (q : Q (.new (.lst (((xs.filter p).map f).map enc2))) ρ) (hi : ρ[i]? = some (.sh d)) (hd : seqD d = some (xs.map enc)) (hk : ρ.length = k) (hk0 : k≠0) (hl : xs.length≤SZ)
  (ht : ∀ x∈xs,Wt t (ρ ++ [.sh (enc x)]) fun c ρ'=>c = p x∧ρ' = ρ ++ [.sh (enc x)])
  (he : ∀ x∈xs,p x = true→We el (ρ ++ [.sh (enc x)]) fun w ρ'=>Wk ρ' w fun d ρ''=>d = enc2 (f x)∧ρ'' = ρ ++ [.sh (enc x)]) : We (eCompM i 1 (bN k) t el) ρ Q :=
 We.CompS enc xs p (fun x=>enc2 (f x)) (by rw [List.map_map] at q; exact q) hi hd hk hk0 hl ht he
theorem gEq_int (i j : Int) : gEq (.int i) (.int j) = vB (decide (i = j)):=by
 have : (i == j) = decide (i = j):=by by_cases h : i = j <;> simp [h]
 show vB (i == j) = _
 rw [this]
theorem gNe_int (i j : Int) : gNe (.int i) (.int j) = vB (!decide (i = j)):=by
 have : (i == j) = decide (i = j):=by by_cases h : i = j <;> simp [h]
 show vB (!(i == j)) = _
 rw [this]
theorem Wg2.eq {i j : Int} {o p : Option Dat} {K : RV→Prop} (k : K (.val (.bl (decide (i = j))))) (ho : o = some (.int i)) (hp : p = some (.int j)) : Wg2 gEq o p K:=⟨_,_,_,ho,hp,gEq_int i j,k⟩
theorem Wg2.ne {i j : Int} {o p : Option Dat} {K : RV→Prop} (k : K (.val (.bl (!decide (i = j))))) (ho : o = some (.int i)) (hp : p = some (.int j)) : Wg2 gNe o p K:=⟨_,_,_,ho,hp,gNe_int i j,k⟩
theorem Wg2.neb {i j : Bool} {o p : Option Dat} {K : RV→Prop} (k : K (.val (.bl (!(i == j))))) (ho : o = some (.bl i)) (hp : p = some (.bl j)) : Wg2 gNe o p K:=⟨_,_,_,ho,hp,rfl,k⟩
theorem Wg2.isnotb {i j : Bool} {o p : Option Dat} {K : RV→Prop} (k : K (.val (.bl (i != j)))) (ho : o = some (.bl i)) (hp : p = some (.bl j)) : Wg2 gIsNot2 o p K:=⟨_,_,_,ho,hp,rfl,k⟩
theorem Wg2.lt {i j : Int} {o p : Option Dat} {K : RV→Prop} (k : K (.val (.bl (decide (i < j))))) (ho : o = some (.int i)) (hp : p = some (.int j)) : Wg2 gLt o p K:=⟨_,_,_,ho,hp,rfl,k⟩
theorem Wg2.le {i j : Int} {o p : Option Dat} {K : RV→Prop} (k : K (.val (.bl (decide (i≤j))))) (ho : o = some (.int i)) (hp : p = some (.int j)) : Wg2 gLe o p K:=⟨_,_,_,ho,hp,rfl,k⟩
theorem Wg2.gt {i j : Int} {o p : Option Dat} {K : RV→Prop} (k : K (.val (.bl (decide (j < i))))) (ho : o = some (.int i)) (hp : p = some (.int j)) : Wg2 gGt o p K:=⟨_,_,_,ho,hp,rfl,k⟩
theorem Wg2.ge {i j : Int} {o p : Option Dat} {K : RV→Prop} (k : K (.val (.bl (decide (j≤i))))) (ho : o = some (.int i)) (hp : p = some (.int j)) : Wg2 gGe o p K:=⟨_,_,_,ho,hp,rfl,k⟩
theorem Wg2.add {i j : Int} {o p : Option Dat} {K : RV→Prop} (k : K (.val (.int (i + j)))) (ho : o = some (.int i)) (hp : p = some (.int j)) : Wg2 gAdd o p K:=⟨_,_,_,ho,hp,rfl,k⟩
theorem Wg2.addL {xs ys : List Dat} {o p : Option Dat} {K : RV→Prop} (k : K (.new (.lst (xs ++ ys)))) (ho : o = some (.lst xs)) (hp : p = some (.lst ys)) (h : xs.length + ys.length≤SZ) : Wg2 gAdd o p K:=⟨_,_,_,ho,hp,by unfold gAdd; dsimp only; rw [if_pos h],k⟩
theorem Wg2.sub {i j : Int} {o p : Option Dat} {K : RV→Prop} (k : K (.val (.int (i - j)))) (ho : o = some (.int i)) (hp : p = some (.int j)) : Wg2 gSub o p K:=⟨_,_,_,ho,hp,rfl,k⟩
theorem Wg2.mul {i j : Int} {o p : Option Dat} {K : RV→Prop} (k : K (.val (.int (i * j)))) (ho : o = some (.int i)) (hp : p = some (.int j)) (h : (-B64 < i∧i < B64)∨(-B64 < j∧j < B64)) : Wg2 gMul o p K:=⟨_,_,_,ho,hp,by unfold gMul; dsimp only; rw [if_pos h],k⟩
theorem Wg2.div {i j : Int} {o p : Option Dat} {K : RV→Prop} (k : K (.val (.int (i / j)))) (ho : o = some (.int i)) (hp : p = some (.int j)) (h : 0 < j∧j < B200) : Wg2 gDiv o p K:=⟨_,_,_,ho,hp,by unfold gDiv; dsimp only; rw [if_pos h],k⟩
theorem Wg2.mod {i j : Int} {o p : Option Dat} {K : RV→Prop} (k : K (.val (.int (i % j)))) (ho : o = some (.int i)) (hp : p = some (.int j)) (h : 0 < j) : Wg2 gMod o p K:=⟨_,_,_,ho,hp,by unfold gMod; dsimp only; rw [if_pos h],k⟩
theorem Wg2.pow {i j z : Int} {o p : Option Dat} {K : RV→Prop} (k : K (.val (.int z))) (ho : o = some (.int i)) (hp : p = some (.int j)) (h : 0≤j∧j≤1000000∧i.natAbs < 1000000) (hz : i ^ j.toNat = z) : Wg2 gPow o p K:=⟨_,_,_,ho,hp,by unfold gPow; dsimp only; rw [if_pos h,hz],k⟩
theorem Wg2.ix {d e : Dat} {v : Dat} {o p : Option Dat} {K : RV→Prop} (k : K (.val v)) (ho : o = some d) (hp : p = some e) (h : gIx d e = some (.val v)) : Wg2 gIx o p K:=⟨_,_,_,ho,hp,h,k⟩
theorem atI_map {α : Type} (enc : α→Dat) (xs : List α) (i : Int) (h0 : 0≤i) (h1 : i < xs.length) : atI (xs.map enc) i = some (enc (xs[i.toNat]'(by lia))):=by
 unfold atI ixN
 rw [List.length_map,if_pos h0,if_pos h1]
 show (xs.map enc)[i.toNat]? = _
 rw [List.getElem?_map,List.getElem?_eq_getElem (by lia)]
 rfl
theorem Wg2.ixL {α : Type} {enc : α→Dat} {xs : List α} {i : Int} {o p : Option Dat} {K : RV→Prop} (h0 : 0≤i) (h1 : i < xs.length) (k : K (.val (enc (xs[i.toNat]'(by lia))))) (ho : o = some (.lst (xs.map enc))) (hp : p = some (.int i)) : Wg2 gIx o p K :=
 ⟨_,_,_,ho,hp,by unfold gIx; dsimp only; rw [atI_map enc xs i h0 h1]; rfl,k⟩
theorem inD_int (i : Int) (xs : List Int) : inD (.int i) (xs.map Dat.int) = decide (i∈xs):=by
 induction xs with
 | nil=>rfl
 | cons x xs ih =>
  have ih' : (xs.map Dat.int).any (fun y=>eqD y (.int i)) = decide (i∈xs):=ih
  unfold inD
  rw [List.map_cons,List.any_cons,ih']
  show ((x == i) || _) = _
  by_cases h : x = i
  ·simp [h]
  ·have h' : ¬ i = x:=fun z=>h z.symm
   simp [h,h']
theorem okInts (xs : List Int) : (xs.map Dat.int).all (okD 7) = true:=by
 rw [List.all_eq_true]
 intro d hd
 refine bc fun ζ=>?_
 obtain ⟨x,_,rfl⟩:=List.mem_map.mp hd
 apply ζ;clear ζ
 rfl
theorem Wg2.ninL {i : Int} {xs : List Int} {o p : Option Dat} {K : RV→Prop} (k : K (.val (.bl (!decide (i∈xs))))) (ho : o = some (.int i)) (hp : p = some (.lst (xs.map Dat.int))) : Wg2 gNotIn o p K :=
 ⟨_,_,_,ho,hp,by unfold gNotIn; dsimp only; rw [show okD 8 (.int i) = true from rfl,okInts,inD_int]; rfl,k⟩
theorem Wg2.inT {i : Int} {xs : List Int} {o p : Option Dat} {K : RV→Prop} (k : K (.val (.bl (decide (i∈xs))))) (ho : o = some (.int i)) (hp : p = some (.tup (xs.map Dat.int))) : Wg2 gIn o p K :=
 ⟨_,_,_,ho,hp,by unfold gIn; dsimp only; rw [show okD 8 (.int i) = true from rfl,okInts,inD_int]; rfl,k⟩
theorem WB.len {xs : List Dat} {o : Option (List Dat)} {K : RV→Prop} (k : K (.val (.int xs.length))) (ho : o = some [.lst xs]) : WB gLen o K:=⟨_,_,ho,rfl,k⟩
theorem WB.lenT {xs : List Dat} {o : Option (List Dat)} {K : RV→Prop} (k : K (.val (.int xs.length))) (ho : o = some [.tup xs]) : WB gLen o K:=⟨_,_,ho,rfl,k⟩
theorem WB.min2 {i j : Int} {o : Option (List Dat)} {K : RV→Prop} (k : K (.val (.int (if j < i then j else i)))) (ho : o = some [.int i,.int j]) : WB gMin2 o K:=⟨_,_,ho,rfl,k⟩
theorem WB.max2 {i j : Int} {o : Option (List Dat)} {K : RV→Prop} (k : K (.val (.int (if j > i then j else i)))) (ho : o = some [.int i,.int j]) : WB gMax2 o K:=⟨_,_,ho,rfl,k⟩
theorem WB.list {xs : List Dat} {o : Option (List Dat)} {K : RV→Prop} (k : K (.new (.lst xs))) (ho : o = some [.lst xs]) : WB gList o K:=⟨_,_,ho,rfl,k⟩
theorem WB.int {b : Bool} {o : Option (List Dat)} {K : RV→Prop} (k : K (.val (.int (b2i b)))) (ho : o = some [.bl b]) : WB gInt o K:=⟨_,_,ho,rfl,k⟩
theorem Wg1.mk {g : Dat→Option RV} {d : Dat} {v : RV} {o : Option Dat} {K : RV→Prop} (k : K v) (ho : o = some d) (h : g d = some v) : Wg1 g o K:=⟨_,_,ho,h,k⟩
theorem seqL_go {xs : List Dat} {Q : List Dat→Prop} (q : Q xs) : ∃ ds,seqD (.lst xs) = some ds∧Q ds:=⟨_,rfl,q⟩
theorem okMap {α : Type} (enc : α→Dat) (xs : List α) (h : ∀ x,okD 7 (enc x) = true) : okD 8 (.lst (xs.map enc)) = true:=by
 unfold okD
 rw [List.all_eq_true]
 intro d hd
 refine bc fun ζ=>?_
 obtain ⟨x,_,rfl⟩:=List.mem_map.mp hd
 exact ζ (h x)
theorem WB.lenI {α : Type} {enc : α→Dat} {xs : List α} {o : Option (List Dat)} {K : RV→Prop} (k : K (.val (.int xs.length))) (ho : o = some [.lst (xs.map enc)]) : WB gLen o K:=⟨_,_,ho,by unfold gLen; dsimp only; rw [List.length_map],k⟩
theorem Wr.get {o : Option RV} {P : RV→Prop} (h : Wr o P) : ∃ v,o = some v∧P v:=h
theorem Ws.mono {s : FS} {ρ : Env} {N N' : Env→Prop} {R : RV→Env→Prop} {B C : Env→Prop} (h : Ws s ρ N' R B C) (k : ∀ ρ',N' ρ'→N ρ') : Ws s ρ N R B C:=by
 refine bc fun ζ=>?_
 obtain ⟨o,h1,h2⟩:=h
 apply ζ;clear ζ
 cases o with
 | nx ρ1=>exact ⟨.nx ρ1,h1,k _ h2⟩
 | ret r ρ1=>exact ⟨.ret r ρ1,h1,h2⟩
 | bk ρ1=>exact ⟨.bk ρ1,h1,h2⟩
 | ct ρ1=>exact ⟨.ct ρ1,h1,h2⟩
theorem own_go {ρ : Env} {i : Nat} {d : Dat} {W : Prop} (h : ρ[i]? = some (.ow d)) (w : W) : (∃ d0,ρ[i]? = some (.ow d0))∧W:=⟨⟨d,h⟩,w⟩
theorem bind_go {bd : FB} {d : Dat} {ρ ρ1 ρ2 : Env} {W : Env→Prop} (h : bd d ρ = some ρ1) (hn : ρ1 = ρ2) (w : W ρ2) : ∃ ρ1,bd d ρ = some ρ1∧W ρ1:=⟨ρ1,h,hn ▸ w⟩
theorem compG {α : Type} (enc : α→Dat) (p : α→Bool) (v : α→Dat) (bd : FB) (t : FT) (el : FE) (e0 : Env) (env : α→Env) (h0 : ∀ x,bd (enc x) e0 = some (env x)) (h1 : ∀ x y,bd (enc x) (env y) = some (env x)) : ∀ (xs : List α) (acc : List Dat) (e : Env),(e = e0∨∃ y,e = env y) →
  (∀ x∈xs,t (env x) = some (p x,env x))→(∀ x∈xs,p x = true→We el (env x) fun w ρ'=>Wk ρ' w fun d ρ''=>d = v x∧ρ'' = env x) →
  ∃ e',(e' = e0∨∃ y,e' = env y)∧compD bd t el (xs.map enc) e acc = some (acc ++ (xs.filter p).map v,e')
 | [],acc,e,he,_,_=>⟨e,he,by simp [compD]⟩
 | x :: xs,acc,e,he,ht,hel=>by
  have hb : bd (enc x) e = some (env x):=by
   rcases he with rfl | ⟨y,rfl⟩
   ·exact h0 x
   ·exact h1 x y
  rw [List.map_cons,compD,hb]
  dsimp only
  rw [ht x List.mem_cons_self]
  have ht':=fun y hy=>ht y (List.mem_cons_of_mem _ hy)
  have he':=fun y hy=>hel y (List.mem_cons_of_mem _ hy)
  by_cases h : p x = true
  ·refine bc fun ζ=>?_
   obtain ⟨w,ρ',g1,d,ρ'',g2,rfl,rfl⟩:=hel x List.mem_cons_self h
   apply ζ;clear ζ
   rw [h]
   dsimp only
   rw [g1]
   dsimp only
   rw [g2]
   refine bc fun ζ=>?_
   obtain ⟨e',q,z⟩:=compG enc p v bd t el e0 env h0 h1 xs (acc ++ [v x]) _ (.inr ⟨x,rfl⟩) ht' he'
   apply ζ;clear ζ
   exact ⟨e',q,by dsimp only; rw [z,List.filter_cons_of_pos h]; simp⟩
  ·rw [Bool.not_eq_true] at h
   rw [h]
   refine bc fun ζ=>?_
   obtain ⟨e',q,z⟩:=compG enc p v bd t el e0 env h0 h1 xs acc _ (.inr ⟨x,rfl⟩) ht' he'
   apply ζ;clear ζ
   exact ⟨e',q,by dsimp only; rw [z,List.filter_cons_of_neg (by rw [h]; decide)]⟩
theorem We.CompG {α β : Type} (enc : α→Dat) (xs : List α) (p : α→Bool) (f : α→β) (enc2 : β→Dat) (env : α→Env) {it : FI} {own : Nat} {bd : FB} {t : FT} {el : FE} {ρ ρ1 : Env} {Q : Val→Env→Prop}
  (q : Q (.new (.lst (((xs.filter p).map f).map enc2))) ρ1) (hit : it ρ = some (xs.map enc,ρ1)) (h0 : ∀ x,bd (enc x) (ρ1 ++ List.replicate own .un) = some (env x)) (h1 : ∀ x y,bd (enc x) (env y) = some (env x)) (h2 : ∀ x,(env x).take ρ1.length = ρ1) (hl : xs.length≤SZ)
  (ht : ∀ x∈xs,Wt t (env x) fun c ρ'=>c = p x∧ρ' = env x)
  (he : ∀ x∈xs,p x = true→We el (env x) fun w ρ'=>Wk ρ' w fun d ρ''=>d = enc2 (f x)∧ρ'' = env x) : We (eComp it own bd t el) ρ Q:=by
 refine bc fun ζ=>?_
 obtain ⟨e',q',e⟩:=compG enc p (fun x=>enc2 (f x)) bd t el _ env h0 h1 xs [] _ (.inl rfl) (fun x hx=>Wt.get (ht x hx)) he
 apply ζ;clear ζ
 refine ⟨_,_,?_,q⟩
 unfold eComp
 rw [hit]
 dsimp only
 rw [if_pos (by rw [List.length_map]; exact hl),e]
 dsimp only
 rw [List.nil_append,List.map_map]
 have : e'.take ρ1.length = ρ1:=by
  rcases q' with rfl | ⟨y,rfl⟩
  ·exact List.take_left
  ·exact h2 y
 rw [this]
 rfl
theorem We.SelS3 {α β : Type} (enc : α→Dat) (xs : List α) (p : α→Bool) (f : α→β) (enc2 : β→Dat) (d1 d2 d3 : α→Dat) (henc : ∀ x,enc x = .tup [d1 x,d2 x,d3 x]) {i k : Nat} {t : FT} {el : FE} {ρ : Env} {Q : Val→Env→Prop} {d : Dat}
  (q : Q (.new (.lst (((xs.filter p).map f).map enc2))) ρ) (hi : ρ[i]? = some (.sh d)) (hd : seqD d = some (xs.map enc)) (hk : ρ.length = k) (hk0 : k≠0) (hl : xs.length≤SZ)
  (ht : ∀ x∈xs,Wt t (ρ ++ [.sh (d1 x),.sh (d2 x),.sh (d3 x)]) fun c ρ'=>c = p x∧ρ' = ρ ++ [.sh (d1 x),.sh (d2 x),.sh (d3 x)])
  (he : ∀ x∈xs,p x = true→We el (ρ ++ [.sh (d1 x),.sh (d2 x),.sh (d3 x)]) fun w ρ'=>Wk ρ' w fun d ρ''=>d = enc2 (f x)∧ρ'' = ρ ++ [.sh (d1 x),.sh (d2 x),.sh (d3 x)]) : We (eCompM i 3 (bT [k,k + 1,k + 2]) t el) ρ Q:=by
 have hit : iS (eV i) ρ = some (xs.map enc,ρ):=by
  unfold iS eV
  rw [hi]
  cases d with
  | lst ys=>cases hd; rfl
  | tup ys=>cases hd; rfl
  | _=>cases hd
 have b : ∀ (x : α) (c1 c2 c3 : Cell),bT [k,k + 1,k + 2] (enc x) (ρ ++ [c1,c2,c3]) = some (ρ ++ [.sh (d1 x),.sh (d2 x),.sh (d3 x)]):=fun x c1 c2 c3=>by
  rw [henc]
  show sets [k,k + 1,k + 2] [d1 x,d2 x,d3 x] _ = _
  rw [sets,if_neg hk0,sets,if_neg (by lia),sets,if_neg (by lia),sets]
  rw [List.set_append_right _ _ (by lia),List.set_append_right _ _ (by lia),List.set_append_right _ _ (by lia)]
  subst hk
  rw [Nat.sub_self,show ρ.length + 1 - ρ.length = 1 by lia,show ρ.length + 2 - ρ.length = 2 by lia]
  rfl
 obtain ⟨a,ρ',g1,g2⟩:=We.CompG enc xs p f enc2 (fun x=>(ρ ++ [Cell.sh (d1 x),Cell.sh (d2 x),Cell.sh (d3 x)] : Env)) (own:=3) (bd:=bT [k,k + 1,k + 2]) (Q:=Q) q hit (fun x=>b x .un .un .un) (fun x y=>b x (.sh (d1 y)) (.sh (d2 y)) (.sh (d3 y))) (fun x=>List.take_left) hl ht he
 refine ⟨a,ρ',?_,g2⟩
 unfold eCompM
 rw [hi]
 exact g1
theorem intsD_map' (ns : List Int) : intsD (ns.map Dat.int) = some ns:=by
 induction ns with
 | nil=>rfl
 | cons m ms ih=>rw [List.map_cons,intsD,ih]; rfl
theorem gNe_ints (N M : List Int) : gNe (.lst (N.map Dat.int)) (.lst (M.map Dat.int)) = vB (!decide (N = M)):=by
 have ok : ∀ ns : List Int,okD 8 (.lst (ns.map Dat.int)) = true:=fun ns=>okMap Dat.int ns fun _=>rfl
 have eq : ∀ N M : List Int,eqDs (N.map Dat.int) (M.map Dat.int) = decide (N = M):=fun N=>by
  induction N with
  | nil=>intro M; cases M <;> rfl
  | cons n N ih =>
   intro M
   cases M with
   | nil=>rfl
   | cons m M =>
    rw [List.map_cons,List.map_cons,eqDs,ih M]
    show ((n == m) && _) = _
    rw [Bool.eq_iff_iff]
    simp
 unfold gNe
 rw [ok,ok]
 show vB (!eqDs _ _) = _
 rw [eq]
theorem Wg2.neI {N M : List Int} {o p : Option Dat} {K : RV→Prop} (k : K (.val (.bl (!decide (N = M))))) (ho : o = some (.lst (N.map Dat.int))) (hp : p = some (.lst (M.map Dat.int))) : Wg2 gNe o p K:=⟨_,_,_,ho,hp,gNe_ints N M,k⟩
theorem bools_map {α : Type} (p : α→Bool) (xs : List α) : bools (xs.map fun x=>Dat.bl (p x)) = some (xs.map p):=by
 induction xs with
 | nil=>rfl
 | cons x xs ih=>rw [List.map_cons,bools,ih]; rfl
theorem WB.all {α : Type} (p : α→Bool) {xs : List α} {o : Option (List Dat)} {K : RV→Prop} (k : K (.val (.bl (xs.all p)))) (ho : o = some [.lst (xs.map fun x=>Dat.bl (p x))]) : WB gAll o K:=⟨_,_,ho,by
 unfold gAll
 dsimp only
 rw [bools_map]
 have : (xs.map p).all id = xs.all p:=by rw [List.all_map]; rfl
 dsimp only
 rw [this],k⟩
theorem WB.tuR1 {j : Int} {o : Option (List Dat)} {K : RV→Prop} (k : K (.val (.tup (ups 0 j.toNat)))) (ho : o = some [.int j]) (h : j≤1000000∧-1000000≤j) : WB gTuR1 o K:=⟨_,_,ho,by unfold gTuR1; dsimp only; rw [if_pos h],k⟩
theorem WB.liR1 {j : Int} {o : Option (List Dat)} {K : RV→Prop} (k : K (.new (.lst (ups 0 j.toNat)))) (ho : o = some [.int j]) (h : j≤1000000∧-1000000≤j) : WB gLiR1 o K:=⟨_,_,ho,by unfold gLiR1; dsimp only; rw [if_pos h],k⟩
theorem Ws.cut {s u : FS} {ρ : Env} {N : Env→Prop} {R : RV→Env→Prop} {B C : Env→Prop} (J : Env→Prop) (h1 : Ws s ρ J R B C) (h2 : ∀ ρ',J ρ'→Ws u ρ' N R B C) : Ws (sSeq s u) ρ N R B C:=Ws.seq (Ws.mono h1 h2)
noncomputable def WrM (o : Option (RV×Dat)) (P : RV→Dat→Prop) : Prop:=∃ z d,o = some (z,d)∧P z d
theorem WrM.fn {n m : Nat} {body : FS} {d : Dat} {r : List Dat} {ρ : Env} {P : RV→Dat→Prop} (b : Ws body ρ (fun ρ'=>∃ d',ρ'[0]? = some (.ow d')∧P (.val .non) d') (fun z ρ'=>∃ d',ρ'[0]? = some (.ow d')∧P z d') (fun _=>False) (fun _=>False)) (hρ : Cell.ow d :: (r.map Cell.sh ++ List.replicate m .un) = ρ) (h : (d :: r).length = n) : WrM (fnM n m body (d :: r)) P:=by
 refine bc fun ζ=>?_
 obtain ⟨o,h1,h2⟩:=b
 apply ζ;clear ζ
 cases o with
 | nx ρ1=>obtain ⟨d',h3,h4⟩:=h2; exact ⟨_,_,by unfold fnM; rw [if_pos h]; dsimp only; rw [hρ,h1]; dsimp only; rw [h3],h4⟩
 | ret z ρ1=>obtain ⟨d',h3,h4⟩:=h2; exact ⟨_,_,by unfold fnM; rw [if_pos h]; dsimp only; rw [hρ,h1]; dsimp only; rw [h3],h4⟩
 | bk ρ1=>exact h2.elim
 | ct ρ1=>exact h2.elim
noncomputable def WFm (f : List Dat→Option (RV×Dat)) (j : Nat) (ρ1 : Env) (xs : List Val) (Q : Val→Env→Prop) : Prop :=
 ∃ d1 ds ρ2 d v d',ρ1[j]? = some (.ow d1)∧tks ρ1 xs = some (ds,ρ2)∧ρ2[j]? = some (.ow d)∧f (d :: ds) = some (v,d')∧(if (flat v.dat && plainL d') = true then Q v.toVal (ρ1.set j (.ow d')) else Q v.toVal (ρ2.set j (.ow d')))
theorem We.Fm {f : List Dat→Option (RV×Dat)} {j : Nat} {as : List FE} {ρ : Env} {d0 : Dat} {Q : Val→Env→Prop} (h : Was as ρ fun xs ρ1=>WFm f j ρ1 xs Q) (h0 : ρ[j]? = some (.ow d0)) : We (eFm f j as) ρ Q:=by
 refine bc fun ζ=>?_
 obtain ⟨xs,ρ1,h1,d1,ds,ρ2,d,v,d',h2,h3,h4,h5,q⟩:=h
 apply ζ;clear ζ
 by_cases c : (flat v.dat && plainL d') = true
 ·rw [if_pos c] at q
  exact ⟨_,_,by unfold eFm; rw [h0]; dsimp only; rw [h1]; dsimp only; rw [h2]; dsimp only; rw [h3]; dsimp only; rw [h4]; dsimp only; rw [h5]; dsimp only; rw [if_pos c],q⟩
 ·rw [if_neg c] at q
  exact ⟨_,_,by unfold eFm; rw [h0]; dsimp only; rw [h1]; dsimp only; rw [h2]; dsimp only; rw [h3]; dsimp only; rw [h4]; dsimp only; rw [h5]; dsimp only; rw [if_neg c],q⟩
theorem WFm.any {f : List Dat→Option (RV×Dat)} {j : Nat} {ρ1 ρ3 : Env} {xs : List Val} {d d' : Dat} {ds : List Dat} {v : RV} {Q : Val→Env→Prop} (h5 : f (d :: ds) = some (v,d')) (q : Q v.toVal ρ3) (h2 : ρ1[j]? = some (.ow d)) (h3 : tks ρ1 xs = some (ds,ρ1)) (hn : ρ1.set j (.ow d') = ρ3) : WFm f j ρ1 xs Q :=
 ⟨_,_,_,_,_,_,h2,h3,h2,h5,by rw [hn]; split <;> exact q⟩
theorem Wi.get {it : FI} {ρ ρ1 : Env} {ds : List Dat} (h : Wi it ρ fun x y=>x = ds∧y = ρ1) : it ρ = some (ds,ρ1):=by
 obtain ⟨_,_,h1,rfl,rfl⟩:=h; exact h1
theorem Wi.Rs {a b c : FE} {ρ : Env} {i j k : Int} {Q : List Dat→Env→Prop} (ha : a ρ = some (.val (.int i),ρ)) (hb : b ρ = some (.val (.int j),ρ)) (hc : c ρ = some (.val (.int k),ρ)) (hk : (0 < k∧k≤1000)∧j≤BIG∧-BIG≤j∧i≤BIG∧-BIG≤i) (q : Q (stepsD i k (stepsN i j k)) ρ) : Wi (iRs a b c) ρ Q:=⟨_,_,by
 unfold iRs
 rw [ha]
 dsimp only
 rw [hb]
 dsimp only
 rw [hc]
 dsimp only
 rw [if_pos hk],q⟩
theorem We.get {e : FE} {ρ ρ' : Env} {v : Val} (h : We e ρ fun x y=>x = v∧y = ρ') : e ρ = some (v,ρ'):=by
 obtain ⟨_,_,h1,rfl,rfl⟩:=h; exact h1
theorem We.Fn {f : List Dat→Option (RV×Dat)} {e0 : FE} {as : List FE} {ρ : Env} {Q : Val→Env→Prop} (h : Was (e0 :: as) ρ fun xs ρ1=>∃ d ys ds v d',xs = .new d :: ys∧valsOf ys = some ds∧f (d :: ds) = some (v,d')∧Q v.toVal ρ1) : We (eFn f e0 as) ρ Q:=by
 refine bc fun ζ=>?_
 obtain ⟨xs,ρ1,h1,d,ys,ds,v,d',rfl,h2,h3,q⟩:=h
 apply ζ;clear ζ
 refine ⟨_,_,?_,q⟩
 unfold eFn
 rw [h1]
 dsimp only
 rw [h2]
 dsimp only
 rw [h3]
section
variable {N : Env→Prop} {R : RV→Env→Prop} {B C : Env→Prop} {ρ : Env} {p : Dp}
end
section
variable {ρ : Env} {P : Dp→Prop}
end
section
variable {N : Env→Dp→Prop} {R : Dat→Env→Prop} {ρ ρ' : Env} {p : Dp}
end
section
variable {N : Env→Prop} {R : RV→Env→Prop} {B C : Env→Prop} {ρ : Env} {p : Dp}
end
section
variable {N : Env→Dp→Prop} {R : Dat→Env→Prop} {ρ ρ' : Env} {p : Dp}
end
section
variable {ρ : Env} {P : Dp→Prop} {Q : Dp→Env→Prop}
end
end _d
namespace P
open _d
noncomputable def f_z0 : List Dat→Option RV:=fn 1 0
  (sR (eAnd (e1 (gIsi isI) (eV 0)) (eNot (e1 (gIsi isB) (eV 0)))))
noncomputable def f_z1 : List Dat→Option RV:=fn 3 0
  (sR (eAnd (eF f_z0 [(eV 0)]) (eChain gLe gLe (eV 1) (eV 0) (eV 2))))
noncomputable def f_z2 : List Dat→Option RV:=fn 1 0
  (sR (eF f_z1 [(eV 0),(eC (.int 1)),(eC (.int 10))]))
noncomputable def f_z3 : List Dat→Option RV:=fn 2 0
  (sR (eF f_z1 [(eV 1),(eC (.int 0)),(e2 gSub (eV 0) (eC (.int 1)))]))
noncomputable def f_z4 : List Dat→Option RV:=fn 1 0
  (sR (eF f_z1 [(eV 0),(eC (.int 1)),(eC (.int 6))]))
noncomputable def f_z5 : List Dat→Option RV:=fn 1 0
  (sR (eF f_z1 [(eV 0),(eC (.int 0)),(e2 gPow (eC (.int 10)) (eC (.int 30)))]))
noncomputable def f_z6 : List Dat→Option RV:=fn 2 0
  (sSeq (sIf (tOr (tNot (tV (e1 (gIsi isT) (eV 1)))) (tV (e2 gNe (eB gLen [(eV 1)]) (eC (.int 3))))) (sR (eC (.bl false))) sNx)
  (sR (eAnd (eF f_z5 [(e2 gIx (eV 1) (eC (.int 0)))]) (eAnd (eF f_z3 [(eV 0),(e2 gIx (eV 1) (eC (.int 1)))]) (eF f_z3 [(eV 0),(e2 gIx (eV 1) (eC (.int 2)))])))))
noncomputable def f_z7 : List Dat→Option RV:=fn 2 0
  (sR (eAnd (eF f_z6 [(eV 0),(eV 1)]) (e2 gLe (e2 gIx (eV 1) (eC (.int 1))) (e2 gIx (eV 1) (eC (.int 2))))))
noncomputable def f_z8 : List Dat→Option RV:=fn 1 0
  (sR (eB gAll [(eComp (iR2 (eC (.int 1)) (eB gLen [(eV 0)])) 1 (bN 1) tTrue (e2 gLt (e2 gIx (eV 0) (e2 gSub (eV 1) (eC (.int 1)))) (e2 gIx (eV 0) (eV 1))))]))
noncomputable def f_z9 : List Dat→Option RV:=fn 1 0
  (sIf (tNot (tV (eF f_z2 [(eV 0)]))) (fun _=>none) sNx)
noncomputable def f_z10 : List Dat→Option RV:=fn 1 0
  (sIf (tNot (tV (eF f_z4 [(eV 0)]))) (fun _=>none) sNx)
noncomputable def f_z11 : List Dat→Option RV:=fn 2 0
  (sR (eCompM 0 3 (bT [2,3,4]) (tV (e2 gNe (e2 gIn (eV 3) (eV 1)) (e2 gIn (eV 4) (eV 1)))) (eV 2)))
noncomputable def f_z12 : List Dat→Option RV:=fn 3 0
  (sR (eCompM 0 1 (bN 3) tTrue (eIf (tV (e2 gEq (eV 3) (e2 gIx (eV 0) (eV 2)))) (e2 gIx (eV 0) (eV 1)) (eV 3))))
noncomputable def b0_z13 : FS :=
  (sIf (tV (e2 gNe (e2 gIx (eV 4) (eV 1)) (e2 gIx (eV 4) (eV 2)))) (sR (e2 gAdd (eV 3) (eC (.int 1)))) sNx)
noncomputable def f_z13 : List Dat→Option RV:=fn 3 2
  (sSeq (sFor (iEn (eV 0)) (bT [3,4])
  b0_z13)
  (sR (eC (.int 0))))
noncomputable def b0_z14 : FS :=
  (sSeq (sA 8 (eF f_z13 [(eV 3),(eV 6),(eV 7)]))
  (sSeq (sIf (tV (e2 gGt (eV 8) (eC (.int 0)))) (sSet 3 (e2 gSub (eV 8) (eC (.int 1))) (eF f_z12 [(e2 gIx (eV 3) (e2 gSub (eV 8) (eC (.int 1)))),(eV 6),(eV 7)])) sNx)
  (sApp 4 (eV 8))))
noncomputable def f_z14 : List Dat→Option RV:=fn 3 6
  (sSeq (sE (eF f_z10 [(eV 2)]))
  (sSeq (sA 3 (eComp (iR1 (eV 2)) 1 (bN 9) tTrue (eB gLiR1 [(eV 0)])))
  (sSeq (sA 4 (eLst []))
  (sSeq (sFor (iRev (eV 1)) (bT [5,6,7])
  b0_z14)
  (sR (e1 gLiRev (eV 4)))))))
noncomputable def f_z15 : List Dat→Option RV:=fn 1 0
  (sR (eTup [(e2 gIx (eV 0) (eC (.int 0))),(eB gMin2 [(e2 gIx (eV 0) (eC (.int 1))),(e2 gIx (eV 0) (eC (.int 2)))]),(eB gMax2 [(e2 gIx (eV 0) (eC (.int 1))),(e2 gIx (eV 0) (eC (.int 2)))])]))
noncomputable def b0_z16 : FS :=
  (sIf (tV (e2 gEq (e2 gIx (e2 gIx (eV 0) (e2 gSub (eV 1) (eC (.int 1)))) (eC (.int 0))) (e2 gIx (e2 gIx (eV 0) (eV 1)) (eC (.int 0))))) (fun _=>none) sNx)
noncomputable def f_z16 : List Dat→Option RV:=fn 1 1
  (sFor (iR2 (eC (.int 1)) (eB gLen [(eV 0)])) (bN 1)
  b0_z16)
noncomputable def f_z17 : List Dat→Option RV:=fn 2 1
  (sSeq (sE (eF f_z9 [(eV 0)]))
  (sSeq (sIf (tOr (tNot (tV (e1 (gIsi isL) (eV 1)))) (tNot (tV (eB gAll [(eCompM 1 1 (bN 3) tTrue (eF f_z6 [(eV 0),(eV 3)]))])))) (fun _=>none) sNx)
  (sSeq (sA 2 (e1 gSortSetT (eCompM 1 1 (bN 3) tTrue (eF f_z15 [(eV 3)]))))
  (sSeq (sIf (tV (e2 gGt (eB gLen [(eV 2)]) (eC (.int 60)))) (fun _=>none) sNx)
  (sSeq (sE (eF f_z16 [(eV 2)]))
  (sR (eV 2)))))))
noncomputable def f_z18 : List Dat→Option RV:=fn 2 0
  (sSeq (sIf (tOr (tNot (tV (eF f_z2 [(eV 0)]))) (tOr (tNot (tV (e1 (gIsi isL) (eV 1)))) (tV (e2 gGt (eB gLen [(eV 1)]) (eC (.int 60)))))) (sR (eC (.bl false))) sNx)
  (sSeq (sIf (tNot (tV (eB gAll [(eCompM 1 1 (bN 2) tTrue (eF f_z7 [(eV 0),(eV 2)]))]))) (sR (eC (.bl false))) sNx)
  (sR (eF f_z8 [(eCompM 1 1 (bN 2) tTrue (e2 gIx (eV 2) (eC (.int 0))))]))))
noncomputable def f_z19 : List Dat→Option RV:=fn 1 0
  (sSeq (sIf (tOr (tNot (tV (e1 (gIsi isT) (eV 0)))) (tV (e2 gNe (eB gLen [(eV 0)]) (eC (.int 3))))) (sR (eC (.bl false))) sNx)
  (sSeq (sIf (tOr (tNot (tV (eF f_z4 [(e2 gIx (eV 0) (eC (.int 1)))]))) (tNot (tV (eF f_z18 [(e2 gIx (eV 0) (eC (.int 0))),(e2 gIx (eV 0) (eC (.int 2)))])))) (sR (eC (.bl false))) sNx)
  (sR (e2 gNotIn (eC (.int 0)) (eF f_z14 [(e2 gIx (eV 0) (eC (.int 0))),(e2 gIx (eV 0) (eC (.int 2))),(e2 gIx (eV 0) (eC (.int 1)))])))))
noncomputable def f_z20 : List Dat→Option RV:=fn 3 1
  (sSeq (sA 3 (eF f_z14 [(eV 0),(eV 1),(eV 2)]))
  (sR (eTup [(eV 0),(eV 2),(eComp (iZip (eV 1) (eV 3)) 2 (bT [4,5]) (tV (e2 gGt (eV 5) (eC (.int 0)))) (eV 4))])))
noncomputable def b0_z21 : FS :=
  (sSeq (sA 3 (e2 gMod (e2 gAdd (e2 gAdd (e2 gMul (eV 3) (eC (.int 48271))) (e2 gMul (eC (.int 7919)) (eV 5))) (eC (.int 3))) (eC (.int 2147483629))))
  (sSeq (sA 3 (e2 gMod (e2 gMul (eV 3) (eV 3)) (eC (.int 2147483587))))
  (sA 4 (e2 gAdd (e2 gMul (eV 4) (eC (.int 2147483587))) (e2 gMod (e2 gAdd (e2 gMul (eV 3) (eC (.int 69621))) (eV 1)) (eC (.int 2147483587)))))))
noncomputable def f_z21 : List Dat→Option RV:=fn 2 4
  (sSeq (sA 2 (eC (.int 0)))
  (sSeq (sIf (tV (e2 gLt (eV 1) (eB gLen [(eV 0)]))) (sA 2 (e2 gIx (eV 0) (eV 1))) sNx)
  (sSeq (sIf (tV (e2 gGe (eV 2) (e2 gPow (eC (.int 10)) (eC (.int 18))))) (sR (eLst [(e2 gMod (eV 2) (e2 gMulB (e2 gMulB (e2 gMulB (e2 gMulB (e2 gPow (eC (.int 10)) (eC (.int 60))) (e2 gPow (eC (.int 10)) (eC (.int 60)))) (e2 gPow (eC (.int 10)) (eC (.int 60)))) (e2 gPow (eC (.int 10)) (eC (.int 60)))) (e2 gPow (eC (.int 10)) (eC (.int 60)))))])) sNx)
  (sSeq (sA 3 (e2 gMod (e2 gAdd (e2 gAdd (e2 gAdd (eV 2) (e2 gMul (e2 gMul (eC (.int 104729)) (eV 1)) (eV 1))) (e2 gMul (eC (.int 7)) (eV 1))) (eC (.int 11))) (eC (.int 2147483647))))
  (sSeq (sA 4 (eC (.int 0)))
  (sSeq (sFor (iR1 (eC (.int 40))) (bN 5)
  b0_z21)
  (sR (eLst [(eV 4)]))))))))
noncomputable def f_z22 : List Dat→Option (RV×Dat):=fnM 2 1
  (sSeq (sA 2 (e2 gMod (e2 gIx (eV 0) (eC (.int 0))) (eV 1)))
  (sSeq (sSet 0 (eC (.int 0)) (e2 gDiv (e2 gIx (eV 0) (eC (.int 0))) (eV 1)))
  (sR (eV 2))))
noncomputable def f_z23 : List Dat→Option (RV×Dat):=fnM 1 0
  (sR (e2 gIx (eLst [(eC (.int 1)),(eC (.int 2)),(eC (.int 3)),(eC (.int 4)),(eC (.int 5)),(eC (.int 6)),(eC (.int 4)),(eC (.int 10))]) (eFm f_z22 0 [(eC (.int 8))])))
noncomputable def b0_z24 : FS :=
  (sSeq (sA 11 (eFm f_z22 0 [(eV 1)]))
  (sSeq (sA 12 (eFm f_z22 0 [(eV 1)]))
  (sSeq (sIf (tV (e2 gEq (eV 7) (eC (.int 1)))) (sA 12 (e2 gMod (e2 gAdd (eV 11) (eC (.int 1))) (eV 1))) sNx)
  (sSeq (sIf (tV (e2 gEq (eV 7) (eC (.int 2)))) (sA 12 (e2 gMod (e2 gMod (e2 gAdd (e2 gAdd (eV 11) (e2 gMod (eV 12) (eC (.int 2)))) (eC (.int 1))) (eB gMin2 [(eV 1),(eC (.int 3))])) (eV 1))) sNx)
  (sSeq (sApp 9 (eTup [(eV 8),(eB gMin2 [(eV 11),(eV 12)]),(eB gMax2 [(eV 11),(eV 12)])]))
  (sA 8 (e2 gAdd (e2 gAdd (eV 8) (eC (.int 1))) (e2 gMul (eFm f_z22 0 [(eV 5)]) (eV 6)))))))))
noncomputable def f_z24 : List Dat→Option (RV×Dat):=fnM 3 10
  (sSeq (sA 3 (eFm f_z22 0 [(e2 gAdd (eV 2) (eC (.int 1)))]))
  (sSeq (sA 4 (eFm f_z22 0 [(eC (.int 4))]))
  (sSeq (sA 5 (e2 gIx (eLst [(eC (.int 1)),(eC (.int 3)),(e2 gPow (eC (.int 10)) (eC (.int 6))),(eC (.int 1000))]) (eV 4)))
  (sSeq (sA 6 (e2 gIx (eLst [(eC (.int 1)),(e2 gPow (eC (.int 10)) (eC (.int 25)))]) (eB gInt [(e2 gEq (eV 4) (eC (.int 3)))])))
  (sSeq (sA 7 (eFm f_z22 0 [(eC (.int 4))]))
  (sSeq (sA 8 (e2 gMul (eFm f_z22 0 [(eV 5)]) (eV 6)))
  (sSeq (sA 9 (eLst []))
  (sSeq (sFor (iR1 (eV 3)) (bN 10)
  b0_z24)
  (sR (eV 9))))))))))
noncomputable def f_z25 : List Dat→Option RV:=fn 2 0
  (sR (eCompM 0 1 (bN 2) (tV (e2 gGe (e2 gIx (eV 2) (eC (.int 0))) (eV 1))) (eV 2)))
noncomputable def f_z26 : List Dat→Option RV:=fn 2 0
  (sR (eCompM 0 1 (bN 2) (tV (e2 gNe (e2 gIn (e2 gIx (eV 2) (eC (.int 1))) (eV 1)) (e2 gIn (e2 gIx (eV 2) (eC (.int 2))) (eV 1)))) (e2 gIx (eV 2) (eC (.int 0)))))
noncomputable def b0_z27 : FS :=
  (sA 1 (e2 gAdd (eV 1) (eCompM 1 1 (bN 3) tTrue (e2 gCatU (eV 3) (eTup [(eV 2)])))))
noncomputable def f_z27 : List Dat→Option RV:=fn 1 2
  (sSeq (sA 1 (eLst [(eTup [])]))
  (sSeq (sFor (iR2 (eC (.int 1)) (eV 0)) (bN 2)
  b0_z27)
  (sR (eSl (eV 1) (some (eC (.int 1))) none))))
noncomputable def b0_z28 : FS :=
  (sSeq (sU [5,6,7] (ePopAt 2 (eFm f_z22 0 [(eB gLen [(eV 2)])])))
  (sSeq (sIf (tV (e2 gEq (eFm f_z22 0 [(eC (.int 2))]) (eC (.int 1)))) (sPar 6 7 [(eV 7),(eV 6)]) sNx)
  (sSeq (sApp 3 (eTup [(eV 5),(eV 6),(eV 7)]))
  (sIf (tV (e2 gEq (eFm f_z22 0 [(eC (.int 6))]) (eC (.int 1)))) (sApp 3 (eTup [(eV 5),(eV 7),(eV 6)])) sNx))))
noncomputable def f_z28 : List Dat→Option (RV×Dat):=fnM 2 6
  (sSeq (sA 2 (eB gList [(eV 1)]))
  (sSeq (sA 3 (eLst []))
  (sSeq (sFor (iR1 (eB gLen [(eV 1)])) (bN 4)
  b0_z28)
  (sR (eV 3)))))
noncomputable def b0_z29 : FS :=
  (sSeq (sA 8 (eF f_z26 [(eV 5),(eV 7)]))
  (sSeq (sA 9 (eF f_z11 [(eV 6),(eV 7)]))
  (sSeq (sIf (tV (e2 gNe (eV 9) (eF f_z26 [(eV 6),(eV 7)]))) (sR (eC (.bl false))) sNx)
  (sIf (tOr (tAnd (tV (e2 gLt (eB gLen [(eV 8)]) (eV 1))) (tV (e2 gNe (eV 9) (eV 8)))) (tAnd (tV (e2 gGe (eB gLen [(eV 8)]) (eV 1))) (tV (e2 gLt (eB gLen [(eV 9)]) (eV 1))))) (sR (eC (.bl false))) sNx))))
noncomputable def f_z29 : List Dat→Option RV:=fn 5 5
  (sSeq (sA 5 (eF f_z25 [(eV 2),(eV 4)]))
  (sSeq (sA 6 (eF f_z25 [(eV 3),(eV 4)]))
  (sSeq (sFor (iS (e2 gAdd (e2 gAdd (eLst [(eTup [])]) (eF f_z27 [(eV 0)])) (eLst [(eB gTuR1 [(eV 0)]),(eTup [(eC (.int 0))])]))) (bN 7)
  b0_z29)
  (sR (eC (.bl true))))))
noncomputable def b0_z30 : FS :=
  (sIf (tNot (tV (eF f_z29 [(eV 3),(eV 4),(eV 5),(e2 gIx (eV 7) (eC (.int 2))),(eV 8)]))) (sR (eC (.bl false))) sNx)
noncomputable def b1_z30 : FS :=
  (sSeq (sA 2 (eF f_z21 [(eV 0),(eV 1)]))
  (sSeq (sA 3 (eFm f_z23 2 []))
  (sSeq (sA 4 (e2 gAdd (eC (.int 1)) (eFm f_z22 2 [(eC (.int 6))])))
  (sSeq (sA 5 (eFn f_z24 (eF f_z21 [(eV 0),(e2 gAdd (eV 1) (eC (.int 1)))]) [(eV 3),(e2 gIx (eLst [(eC (.int 30)),(eC (.int 7))]) (eB gInt [(e2 gGt (eV 3) (eC (.int 6)))]))]))
  (sSeq (sA 6 (eShare 5 (eF f_z17 [(eV 3),(eFn f_z28 (eF f_z21 [(eV 0),(e2 gAdd (eV 1) (eC (.int 2)))]) [(eV 5)])])))
  (sSeq (sA 7 (eF f_z20 [(eV 3),(eV 6),(eV 4)]))
  (sSeq (sIf (tOr (tV (e2 gNe (eV 6) (eV 5))) (tOr (tV (e2 gIsNot2 (eF f_z19 [(eV 7)]) (eC (.bl true)))) (tOr (tV (e2 gNe (eSlT (eV 7) none (some (eC (.int 2)))) (eTup [(eV 3),(eV 4)]))) (tV (e2 gGt (eB gLen [(e2 gIx (eV 7) (eC (.int 2)))]) (e2 gMul (eV 4) (e2 gSub (eV 3) (eC (.int 1))))))))) (sR (eC (.bl false))) sNx)
  (sSeq (sIf (tV (e2 gNe (eCompM 5 1 (bN 9) (tV (e2 gIn (eV 9) (e2 gIx (eV 7) (eC (.int 2))))) (eV 9)) (e2 gIx (eV 7) (eC (.int 2))))) (sR (eC (.bl false))) sNx)
  (sFor (iS (e2 gAdd (e2 gAdd (eLst [(eC (.int 0))]) (eCompM 5 1 (bN 9) tTrue (e2 gIx (eV 9) (eC (.int 0))))) (eComp (iS (eSl (eV 5) (some (e1 gNeg (eC (.int 1)))) none)) 1 (bN 9) tTrue (e2 gAdd (e2 gIx (eV 9) (eC (.int 0))) (eC (.int 1)))))) (bN 8)
  b0_z30)))))))))
noncomputable def f_z30 : List Dat→Option RV:=fn 1 8
  (sSeq (sFor (iRs (eC (.int 0)) (eB gMax2 [(eC (.int 1)),(eB gMin2 [(eB gLen [(eV 0)]),(eC (.int 9))])]) (eC (.int 3))) (bN 1)
  b1_z30)
  (sR (eC (.bl true))))
structure Tie where
 m : Int
 a : Int
 b : Int
noncomputable def tieD (t : Tie) : Dat:=.tup [.int t.m,.int t.a,.int t.b]
noncomputable def recD (r : List Tie) : Dat:=.lst (r.map tieD)
theorem emod_in (x n : Int) (h : 1≤n) : 0≤x % n∧x % n < n:=⟨Int.emod_nonneg x (by lia),Int.emod_lt_of_pos x (by lia)⟩
noncomputable def at' (ns : List Int) (i : Int) : Int:=ns.getD i.toNat 0
theorem atI_map (ns : List Int) (i : Int) (h0 : 0≤i) (h1 : i < ns.length) : atI (ns.map Dat.int) i = some (.int (at' ns i)):=by
 unfold atI ixN at'
 rw [if_pos h0,if_pos (by simpa using h1)]
 have hi : i.toNat < ns.length:=by lia
 show (ns.map Dat.int)[i.toNat]? = _
 rw [List.getElem?_map,List.getElem?_eq_getElem hi,List.getD_eq_getElem?_getD,List.getElem?_eq_getElem hi]
 rfl
theorem ix_map (ns : List Int) (i : Int) (h0 : 0≤i) (h1 : i < ns.length) : gIx (.lst (ns.map Dat.int)) (.int i) = some (.val (.int (at' ns i))):=by
 show (atI (ns.map Dat.int) i).map RV.val = _
 rw [atI_map ns i h0 h1]
 rfl
noncomputable def Good (n : Int) : Int→List Tie→Prop
 | _,[]=>True
 | lo,t :: r=>lo≤t.m∧0≤t.a∧t.a≤t.b∧t.b < n∧Good n (t.m + 1) r
noncomputable def mgf (f : Int→Int) (a b : Int) : Int→Int:=fun x=>if f x = f b then f a else f x
inductive Con (ts : List Tie) : Int→Int→Prop
 | refl (x : Int) : Con ts x x
 | tie (t : Tie) : t∈ts→Con ts t.a t.b
 | symm {x y : Int} : Con ts x y→Con ts y x
 | trans {x y z : Int} : Con ts x y→Con ts y z→Con ts x z
theorem Con.mono {ts us : List Tie} (h : ∀ t∈ts,t∈us) {x y : Int} (c : Con ts x y) : Con us x y:=by
 induction c with
 | refl x=>exact .refl x
 | tie t m=>exact .tie t (h t m)
 | symm _ ih=>exact .symm ih
 | trans _ _ i1 i2=>exact .trans i1 i2
noncomputable def Tells (f : Int→Int) (ts : List Tie) : Prop:=∀ x y,f x = f y↔Con ts x y
theorem Con.nil {x y : Int} (c : Con [] x y) : x = y:=by
 induction c with
 | refl x=>rfl
 | tie t m=>cases m
 | symm _ ih=>exact ih.symm
 | trans _ _ i1 i2=>exact i1.trans i2
theorem tells_nil : Tells (fun x=>x) []:=fun x y=>⟨fun h=>by cases h; exact .refl _,fun c=>c.nil⟩
theorem tells_mgf {f : Int→Int} {ts : List Tie} (h : Tells f ts) (t : Tie) (a b : Int) (hab : (a = t.a∧b = t.b)∨(a = t.b∧b = t.a)) : Tells (mgf f a b) (t :: ts):=by
 have up : ∀ {x y},f x = f y→Con (t :: ts) x y:=fun e=>Con.mono (fun u m=>List.mem_cons_of_mem _ m) ((h _ _).mp e)
 have ab : Con (t :: ts) a b:=by
  rcases hab with ⟨rfl,rfl⟩ | ⟨rfl,rfl⟩
  ·exact .tie t List.mem_cons_self
  ·exact .symm (.tie t List.mem_cons_self)
 intro x y
 unfold mgf
 constructor
 ·intro e
  by_cases hx : f x = f b
  ·rw [if_pos hx] at e
   by_cases hy : f y = f b
   ·exact up (hx.trans hy.symm)
   ·rw [if_neg hy] at e
    exact .trans (up hx) (.trans (.symm ab) (up e))
  ·rw [if_neg hx] at e
   by_cases hy : f y = f b
   ·rw [if_pos hy] at e
    exact .trans (up e) (.trans ab (.symm (up hy)))
   ·rw [if_neg hy] at e
    exact up e
 ·intro c
  have key : ∀ {x y : Int},Con (t :: ts) x y→(if f x = f b then f a else f x) = (if f y = f b then f a else f y):=fun c=>by
   induction c with
   | refl x=>rfl
   | tie u m =>
    rcases List.mem_cons.mp m with rfl | m
    ·rcases hab with ⟨rfl,rfl⟩ | ⟨rfl,rfl⟩
     ·rw [if_pos (rfl : f u.b = f u.b)]
      split
      ·rfl
      ·rfl
     ·rw [if_pos (rfl : f u.a = f u.a)]
      split
      ·rfl
      ·rfl
    ·have e:=(h u.a u.b).mpr (.tie u m)
     rw [e]
   | symm _ ih=>exact ih.symm
   | trans _ _ i1 i2=>exact i1.trans i2
  exact key c
noncomputable def lay (r : List Tie) (ms : List Int) (j : Int) : List Tie:=((r.zip ms).filter fun p=>decide (p.2 = j)).map (·.1)
theorem lay_cons (t : Tie) (m : Int) (r : List Tie) (ms : List Int) (j : Int) : lay (t :: r) (m :: ms) j = if m = j then t :: lay r ms j else lay r ms j:=by
 unfold lay
 rw [List.zip_cons_cons,List.filter_cons]
 by_cases h : m = j <;> simp [h]
noncomputable def IsNum (k : Int) (r : List Tie) (ms : List Int) (t : Tie) (m : Int) : Prop :=
 (m = 0∧∀ j,1≤j→j≤k→Con (lay r ms j) t.a t.b)∨(1≤m∧m≤k∧¬ Con (lay r ms m) t.a t.b∧∀ j,1≤j→j < m→Con (lay r ms j) t.a t.b)
noncomputable def AllNum (k : Int) : List Tie→List Int→Prop
 | [],[]=>True
 | t :: r,m :: ms=>AllNum k r ms∧IsNum k r ms t m
 | _,_=>False
theorem IsNum.uniq {k : Int} {r : List Tie} {ms : List Int} {t : Tie} {m m' : Int} (h : IsNum k r ms t m) (h' : IsNum k r ms t m') : m = m':=by
 rcases h with ⟨rfl,h⟩ | ⟨h1,h2,h3,h4⟩
 ·rcases h' with ⟨rfl,_⟩ | ⟨g1,g2,g3,_⟩
  ·rfl
  ·exact absurd (h m' g1 g2) g3
 ·rcases h' with ⟨rfl,h'⟩ | ⟨g1,g2,g3,g4⟩
  ·exact absurd (h' m h1 h2) h3
  ·rcases Int.lt_trichotomy m m' with q | q | q
   ·exact absurd (g4 m h1 q) h3
   ·exact q
   ·exact absurd (h4 m' g1 q) g3
theorem AllNum.len {k : Int} : ∀ {r : List Tie} {ms : List Int},AllNum k r ms→ms.length = r.length
 | [],[],_=>rfl
 | _ :: r,_ :: ms,h=>by simp [AllNum.len h.1]
 | [],_ :: _,h=>h.elim
 | _ :: _,[],h=>h.elim
theorem AllNum.uniq {k : Int} : ∀ {r : List Tie} {ms ms' : List Int},AllNum k r ms→AllNum k r ms'→ms = ms'
 | [],[],[],_,_=>rfl
 | _ :: r,m :: ms,m' :: ms',h,h'=>by
  have e:=AllNum.uniq h.1 h'.1
  subst e
  rw [h.2.uniq h'.2]
 | [],_ :: _,_,h,_=>h.elim
 | [],[],_ :: _,_,h=>h.elim
 | _ :: _,[],_,h,_=>h.elim
 | _ :: _,_ :: _,[],_,h=>h.elim
noncomputable def lab (n : Nat) (f : Int→Int) : Dat:=.lst ((List.range n).map fun (i : Nat)=>Dat.int (f i))
theorem lab_ix (n : Nat) (f : Int→Int) (x : Int) (h0 : 0≤x) (h1 : x < n) : gIx (lab n f) (.int x) = some (.val (.int (f x))):=by
 unfold lab gIx atI ixN
 have hx : x.toNat < n:=by lia
 have hc : ((x.toNat : Nat) : Int) = x:=by lia
 simp only [List.length_map,List.length_range,h0,h1,if_true]
 simp [List.getElem?_range hx,hc]
theorem lab_id (n : Nat) : Dat.lst (ups 0 n) = lab n fun x=>x:=by
 unfold ups lab
 simp
theorem lab_map (n : Nat) (f : Int→Int) : lab n f = .lst (((List.range n).map fun (i : Nat)=>f i).map Dat.int):=by
 unfold lab
 rw [List.map_map]
 rfl
theorem merged_ok (n : Nat) (hn : n≤10) (f : Int→Int) (a b : Int) (a0 : 0≤a) (a1 : a < n) (b0 : 0≤b) (b1 : b < n) : f_z12 [lab n f,.int a,.int b] = some (.new (lab n (mgf f a b))):=by
 apply Wr.eq
 unfold f_z12
 (refine _d.Wr.fn ?_ rfl rfl; dsimp only [List.map,List.replicate,List.cons_append,List.nil_append])
 refine Ws.R (We.MapS (fun i : Nat=>Dat.int (f i)) (List.range n) (fun i : Nat=>mgf f a b i) Dat.int (d:=lab n f) ?_ rfl rfl rfl (by decide) (by rw [List.length_range]; unfold SZ; lia) fun i _=>?_)
 ·rw [← lab_map]; rfl
 ·refine We.If (Wt.V (We.e2 (We.v rfl (We.e2 (We.v rfl (We.v rfl (Wg2.ix ?_ rfl rfl (lab_ix n f b b0 b1))))))))
  refine Wg2.eq (Wb.mk ⟨fun g=>?_,fun g=>?_⟩) rfl rfl
  ·refine We.e2 (We.v rfl (We.v rfl (Wg2.ix (Wk.val ⟨?_,rfl⟩) rfl rfl (lab_ix n f a a0 a1))))
   unfold mgf; rw [if_pos (of_decide_eq_true g)]
  ·refine We.v rfl (Wk.val ⟨?_,rfl⟩)
   unfold mgf; rw [if_neg (of_decide_eq_false g)]
theorem enum_gen {α : Type} (enc : α→Dat) (d : α) : ∀ (k : Nat) (l : List α),enumD k (l.map enc) = (List.range l.length).map fun i=>.tup [.int ((k + i : Nat) : Int),enc (l.getD i d)]
 | k,[]=>rfl
 | k,x :: l=>by
  rw [List.map_cons,enumD,enum_gen enc d (k + 1) l,List.length_cons,List.range_succ_eq_map,List.map_cons,List.map_map]
  congr 1
  apply List.map_congr_left
  intro i _
  show _ = Dat.tup [.int ((k + (i + 1) : Nat) : Int),enc ((x :: l).getD (i + 1) d)]
  rw [show k + 1 + i = k + (i + 1) by lia]
  rfl
theorem range_at {n k : Nat} {p q : List Nat} (e : List.range n = p ++ k :: q) : k = p.length∧k < n:=by
 have h1 : (List.range n)[p.length]? = some k:=by rw [e,List.getElem?_append_right (Nat.le_refl _),Nat.sub_self]; rfl
 have h2 : p.length < n:=by
  have : (List.range n).length = p.length + (q.length + 1):=by rw [e]; simp
  rw [List.length_range] at this; lia
 rw [List.getElem?_range h2] at h1
 injection h1 with h1
 lia
noncomputable def LeastN (gs : List (Int→Int)) (a b : Int) (i : Nat) (num : Int) : Prop :=
 (num = 0∧∀ (j : Nat) f,j < i→gs[j]? = some f→f a = f b)∨∃ (j : Nat) (f : Int→Int),j < i∧gs[j]? = some f∧f a≠f b∧(∀ (j' : Nat) f',j' < j→gs[j']? = some f'→f' a = f' b)∧num = (j : Int) + 1
theorem least_ok (n : Nat) (gs : List (Int→Int)) (a b : Int) (a0 : 0≤a) (a1 : a < n) (b0 : 0≤b) (b1 : b < n) : ∃ num : Int,f_z13 [.lst (gs.map (lab n)),.int a,.int b] = some (.val (.int num))∧LeastN gs a b gs.length num:=by
 suffices hh : Wr (f_z13 [.lst (gs.map (lab n)),.int a,.int b]) fun v=>∃ num : Int,v = .val (.int num)∧LeastN gs a b gs.length num by
  obtain ⟨v,h1,num,rfl,h2⟩:=hh
  exact ⟨num,h1,h2⟩
 unfold f_z13
 (refine _d.Wr.fn ?_ rfl rfl; dsimp only [List.map,List.replicate,List.cons_append,List.nil_append])
 refine Ws.seq (Ws.For (Wi.En (We.v rfl (Wk.val ⟨_,rfl,?_⟩))))
 rw [enum_gen (lab n) fun x=>x]
 refine Ws.inv (fun i : Nat=>Dat.tup [.int ((0 + i : Nat) : Int),lab n (gs.getD i fun x=>x)]) _ _ (List.range gs.length) _ _ _ _ _ (fun p q ρ=>∃ c3 c4 : Cell,ρ = [.sh (.lst (gs.map (lab n))),.sh (.int a),.sh (.int b),c3,c4]∧∀ (j : Nat) f,j < p.length→gs[j]? = some f→f a = f b) ⟨_,_,rfl,fun j f hj=>by simp at hj⟩ ?_ ?_
 ·rintro p i q ρ e ⟨c3,c4,rfl,low⟩
  obtain ⟨ip,il⟩:=range_at e
  have hf : gs[i]? = some (gs.getD i fun x=>x):=by rw [List.getD_eq_getElem?_getD,List.getElem?_eq_getElem il]; rfl
  generalize (gs.getD i fun x=>x) = f at hf
  refine _d.bind_go rfl (by first | (dsimp only [List.set]; first | done | rfl) | rfl) ?_
  unfold b0_z13
  refine Ws.If (Wt.V (We.e2 (We.e2 (We.v rfl (We.v rfl (Wg2.ix ?_ rfl rfl (lab_ix n f a a0 a1)))))))
  refine We.e2 (We.v rfl (We.v rfl (Wg2.ix ?_ rfl rfl (lab_ix n f b b0 b1))))
  refine Wg2.ne (Wb.mk ?_) rfl rfl
  by_cases h : f a = f b
  ·refine Wif.no (by simp [h]) (Ws.nx ⟨_,_,rfl,fun j g hj hg=>?_⟩)
   rw [List.length_append,List.length_singleton] at hj
   by_cases q : j = i
   ·subst q; rw [hf] at hg; cases hg; exact h
   ·exact low j g (by lia) hg
  ·refine Wif.yes (by simp [h]) (Ws.R (We.e2 (We.v rfl (We.c (Wg2.add ?_ rfl rfl)))))
   exact ⟨_,rfl,.inr ⟨i,f,il,hf,h,fun j g hj=>low j g (by lia),by lia⟩⟩
 ·rintro ρ ⟨c3,c4,rfl,low⟩
  rw [List.length_range] at low
  exact Ws.R (We.c ⟨0,rfl,.inl ⟨rfl,low⟩⟩)
noncomputable def Ends (n : Int) (r : List Tie) : Prop:=∀ t∈r,0≤t.a∧t.a < n∧0≤t.b∧t.b < n
noncomputable def InvG (k : Nat) (gs : List (Int→Int)) (r : List Tie) (ms : List Int) : Prop:=gs.length = k∧∀ (j : Nat) f,gs[j]? = some f→Tells f (lay r ms ((j : Int) + 1))
theorem map_set (n : Nat) (gs : List (Int→Int)) (i : Nat) (f : Int→Int) : (gs.map (lab n)).set i (lab n f) = (gs.set i f).map (lab n):=by rw [List.map_set]
noncomputable def Least (o : Bool) (gs gs' : List (Int→Int)) (a b : Int) (i : Nat) (num : Int) : Prop :=
 (num = 0∧gs' = gs∧∀ (j : Nat) f,j < i→gs[j]? = some f→f a = f b)∨∃ (j : Nat) (f : Int→Int),j < i∧gs[j]? = some f∧f a≠f b∧(∀ (j' : Nat) f',j' < j→gs[j']? = some f'→f' a = f' b)∧num = (j : Int) + 1∧gs' = gs.set j (mgf f (if o then a else b) (if o then b else a))
theorem Least.num {k : Nat} {o : Bool} {gs gs' : List (Int→Int)} {r : List Tie} {ms : List Int} (h : InvG k gs r ms) (t : Tie) {num : Int} (l : Least o gs gs' t.a t.b k num) : IsNum k r ms t num∧InvG k gs' (t :: r) (num :: ms):=by
 obtain ⟨hl,ht⟩:=h
 rcases l with ⟨rfl,rfl,h2⟩ | ⟨j,f,jk,h1,h3,h4,rfl,rfl⟩
 ·refine ⟨.inl ⟨rfl,fun j j1 j2=>?_⟩,hl,fun i g hg=>?_⟩
  ·have hj : (j - 1).toNat < gs'.length:=by lia
   have:=(ht (j - 1).toNat _ (List.getElem?_eq_getElem hj) t.a t.b).mp (h2 _ _ (by lia) (List.getElem?_eq_getElem hj))
   rw [show (((j - 1).toNat : Nat) : Int) + 1 = j by lia] at this
   exact this
  ·rw [lay_cons,if_neg (by lia)]
   exact ht i g hg
 ·have hj : j < gs.length:=(List.getElem?_eq_some_iff.mp h1).1
  refine ⟨.inr ⟨by lia,by lia,fun c=>h3 ((ht j f h1 t.a t.b).mpr c),fun i i1 i2=>?_⟩,by rw [List.length_set]; exact hl,fun i g hg=>?_⟩
  ·have hi : (i - 1).toNat < gs.length:=by lia
   have:=(ht (i - 1).toNat _ (List.getElem?_eq_getElem hi) t.a t.b).mp (h4 (i - 1).toNat _ (by lia) (List.getElem?_eq_getElem hi))
   rw [show (((i - 1).toNat : Nat) : Int) + 1 = i by lia] at this
   exact this
  ·rw [lay_cons]
   by_cases q : j = i
   ·subst q
    rw [List.getElem?_set_self hj] at hg
    cases hg
    rw [if_pos rfl]
    cases o
    ·exact tells_mgf (ht j f h1) t t.b t.a (.inr ⟨rfl,rfl⟩)
    ·exact tells_mgf (ht j f h1) t t.a t.b (.inl ⟨rfl,rfl⟩)
   ·rw [List.getElem?_set_ne q] at hg
    rw [if_neg (by lia)]
    exact ht i g hg
theorem gs_ix (n : Nat) (gs : List (Int→Int)) {i : Nat} {f : Int→Int} (h : gs[i]? = some f) : gIx (.lst (gs.map (lab n))) (.int (0 + (i : Nat))) = some (.val (lab n f)):=by
 have hi:=(List.getElem?_eq_some_iff.mp h).1
 rw [Int.zero_add]
 show (atI (gs.map (lab n)) i).map RV.val = _
 rw [_d.atI_map (lab n) gs (i : Nat) (by lia) (by lia)]
 have : gs[((i : Nat) : Int).toNat]'(by lia) = f:=by
  have:=List.getElem?_eq_some_iff.mp h
  simpa using this.2
 rw [this]; rfl
theorem inv0 (k : Nat) : InvG k ((List.range k).map fun _=>(fun x : Int=>x)) [] []:=⟨by simp,fun j f hf=>by
 rw [List.getElem?_map] at hf
 cases h : (List.range k)[j]? with
 | none=>rw [h] at hf; cases hf
 | some x=>rw [h] at hf; cases hf; exact tells_nil⟩
theorem whole_ok (i : Int) : f_z0 [.int i] = some (.val (.bl true)):=by
 apply Wr.eq
 unfold f_z0
 (refine _d.Wr.fn ?_ rfl rfl; dsimp only [List.map,List.replicate,List.cons_append,List.nil_append])
 refine Ws.R (We.And (We.e1 (We.v rfl (Wg1.mk (v:=.val (.bl true)) (Wb.mk (Wif.t ?_)) rfl rfl))))
 exact ⟨_,_,rfl,rfl⟩
theorem within_ok (i lo hi : Int) (h1 : lo≤i) (h2 : i≤hi) : f_z1 [.int i,.int lo,.int hi] = some (.val (.bl true)):=by
 apply Wr.eq
 unfold f_z1
 (refine _d.Wr.fn ?_ rfl rfl; dsimp only [List.map,List.replicate,List.cons_append,List.nil_append])
 refine Ws.R (We.And (We.F (Was.cons (We.v rfl (Was.nil (WF.val (whole_ok i) (Wb.mk (Wif.t ?_)) rfl rfl))))))
 have e1 : gLe (.int lo) (.int i) = some (.val (.bl true)):=by show vB (decide (lo≤i)) = _; rw [decide_eq_true h1]
 have e2 : gLe (.int i) (.int hi) = some (.val (.bl true)):=by show vB (decide (i≤hi)) = _; rw [decide_eq_true h2]
 have e : eChain gLe gLe (eV 1) (eV 0) (eV 2) [.sh (.int i),.sh (.int lo),.sh (.int hi)] = some (.val (.bl true),[.sh (.int i),.sh (.int lo),.sh (.int hi)]):=by
  unfold eChain
  simp only [eV,List.getElem?_cons_zero,List.getElem?_cons_succ,pk,e1,e2,RV.toVal]
 exact ⟨_,_,e,rfl⟩
theorem layers_ok (k : Int) (h1 : 1≤k) (h6 : k≤6) : f_z10 [.int k] = some (.val .non):=by
 have e : f_z4 [.int k] = some (.val (.bl true)):=by
  apply Wr.eq
  unfold f_z4
  (refine _d.Wr.fn ?_ rfl rfl; dsimp only [List.map,List.replicate,List.cons_append,List.nil_append])
  exact Ws.R (We.F (Was.cons (We.v rfl (Was.cons (We.c (Was.cons (We.c (Was.nil (WF.val (within_ok k 1 6 h1 h6) rfl rfl rfl)))))))))
 apply Wr.eq
 unfold f_z10
 (refine _d.Wr.fn ?_ rfl rfl; dsimp only [List.map,List.replicate,List.cons_append,List.nil_append])
 exact Ws.If (Wt.Not (Wt.V (We.F (Was.cons (We.v rfl (Was.nil (WF.val e (Wb.mk (Wif.f (Ws.nx rfl))) rfl rfl)))))))
theorem Ws.k {s : FS} {ρ : Env} {Q B C : Env→Prop} {R : RV→Env→Prop} (h : ∀ K : Env→Prop,(∀ ρ,Q ρ→K ρ)→Ws s ρ K R B C) : Ws s ρ Q R B C:=h Q fun _ h=>h
theorem layered_ok (n k : Nat) (hn : n≤10) (hk1 : 1≤k) (hk6 : k≤6) (r : List Tie) (hr : Ends n r) (hl : r.length≤1000) : ∃ ms : List Int,f_z14 [.int n,recD r,.int k] = some (.new (.lst (ms.map Dat.int)))∧AllNum k r ms:=by
 suffices hh : Wr (f_z14 [.int (n : Nat),recD r,.int (k : Nat)]) fun v=>∃ ms : List Int,v = .new (.lst (ms.map Dat.int))∧AllNum k r ms by
  refine bc fun ζ=>?_
  obtain ⟨v,h1,ms,rfl,h2⟩:=hh
  exact ζ (⟨ms,h1,h2⟩)
 unfold f_z14
 (refine _d.Wr.fn ?_ rfl rfl; dsimp only [List.map,List.replicate,List.cons_append,List.nil_append])
 refine Ws.seq (Ws.E (We.F (Was.cons (We.v rfl (Was.nil (WF.val (layers_ok k (by lia) (by lia)) ?_ rfl rfl))))))
 refine Ws.seq (Ws.A (We.Map (fun i : Nat=>Dat.int (0 + (i : Nat))) (List.range k) (fun _=>(fun x : Int=>x)) (lab n) (ρ1:=[.sh (.int (n : Nat)),.sh (recD r),.sh (.int (k : Nat)),.un,.un,.un,.un,.un,.un]) ?_ ?_ rfl (by decide) (by rw [List.length_range]; unfold SZ; lia) fun i _=>?_) (by decide))
 rotate_left
 ·apply Wi.get
  refine Wi.R1 (We.v rfl (Wint.mk ⟨⟨?_,rfl⟩,by unfold BIG; lia,by unfold BIG; lia⟩))
  rw [Int.toNat_natCast]; rfl
 ·refine We.B (Was.cons (We.v rfl (Was.nil (WB.liR1 ?_ rfl (by lia)))))
  rw [Int.toNat_natCast,lab_id]
  exact Wk.new ⟨rfl,rfl⟩
 refine WA.new ?_ (by first | (dsimp only [List.set]; first | done | rfl) | rfl)
 refine Ws.seq (Ws.A (We.L (Was.nil (WT.mk ?_ rfl rfl (by decide)))) (by decide))
 refine WA.new ?_ (by first | (dsimp only [List.set]; first | done | rfl) | rfl)
 refine Ws.seq (Ws.For (Wi.Rev (We.v rfl (Wk.val ⟨_,rfl,?_⟩))))
 rw [← List.map_reverse]
 refine Ws.inv tieD _ _ r.reverse _ _ _ _ _ (fun p q ρ=>∃ (gs : List (Int→Int)) (ms : List Int) (c5 c6 c7 c8 : Cell),ρ = [.sh (.int (n : Nat)),.sh (recD r),.sh (.int (k : Nat)),.ow (.lst (gs.map (lab n))),.ow (.lst (ms.reverse.map Dat.int)),c5,c6,c7,c8]∧InvG k gs p.reverse ms∧AllNum k p.reverse ms) ⟨(List.range k).map fun _=>(fun x : Int=>x),[],.un,.un,.un,.un,rfl,inv0 k,trivial⟩ ?_ ?_
 ·intro p t q ρ e zP5
  refine bc fun ζ=>?_
  obtain ⟨gs,ms,c5,c6,c7,c8,rfl,I,A⟩:=zP5
  apply ζ;clear ζ
  have ht : t∈r:=List.mem_reverse.mp (by rw [e]; simp)
  refine bc fun ζ=>?_
  obtain ⟨t0,t1,t2,t3⟩:=hr t ht
  have lp : ms.length≤1000:=by
   have a:=A.len
   have : r.reverse.length = p.length + (q.length + 1):=by rw [e]; simp
   rw [List.length_reverse] at a this
   lia
  obtain ⟨num,en,ln⟩:=least_ok n gs t.a t.b t0 t1 t2 t3
  apply ζ;clear ζ
  rw [I.1] at ln
  refine _d.bind_go rfl (by first | (dsimp only [List.set]; first | done | rfl) | rfl) ?_
  unfold b0_z14
  refine Ws.seq (Ws.A (We.F (Was.cons (We.w rfl (Was.cons (We.v rfl (Was.cons (We.v rfl (Was.nil (WF.val en (WA.val ?_ (by first | (dsimp only [List.set]; first | done | rfl) | rfl)) rfl rfl))))))))) (by decide))
  refine Ws.cut (fun ρ=>∃ gs',ρ = [.sh (.int (n : Nat)),.sh (recD r),.sh (.int (k : Nat)),.ow (.lst (gs'.map (lab n))),.ow (.lst (ms.reverse.map Dat.int)),.sh (.int t.m),.sh (.int t.a),.sh (.int t.b),.sh (.int num)]∧Least true gs gs' t.a t.b k num) ?_ ?_
  ·refine Ws.If (Wt.V (We.e2 (We.v rfl (We.c (Wg2.gt (Wb.mk ?_) rfl rfl)))))
   rcases ln with ⟨rfl,low⟩ | ⟨j,f,jk,hf,ne,low,rfl⟩
   ·exact Wif.no rfl (Ws.nx ⟨gs,rfl,.inl ⟨rfl,rfl,low⟩⟩)
   ·have gi : gIx (.lst (gs.map (lab n))) (.int ((j : Int) + 1 - 1)) = some (.val (lab n f)):=by
     have:=gs_ix n gs hf
     rw [show (j : Int) + 1 - 1 = 0 + (j : Nat) by lia]
     exact this
    refine Wif.yes (decide_eq_true (by lia)) ?_
    refine Ws.Set (We.F (Was.cons (We.e2 (We.w rfl (We.e2 (We.v rfl (We.c (Wg2.sub (Wg2.ix ?_ rfl rfl gi) rfl rfl))))))))
    refine Was.cons (We.v rfl (Was.cons (We.v rfl (Was.nil (WF.box (merged_ok n hn f t.a t.b t0 t1 t2 t3) ?_ rfl rfl rfl (by first | (dsimp only [List.set]; first | done | rfl) | rfl))))))
    refine Wk.new ⟨⟨_,rfl⟩,We.e2 (We.v rfl (We.c (Wg2.sub (Wint.mk ⟨gs.map (lab n),j,_,rfl,?_,rfl,?_⟩) rfl rfl)))⟩
    ·have hj : j < gs.length:=(List.getElem?_eq_some_iff.mp hf).1
     rw [List.length_map]
     unfold ixN
     rw [if_pos (by lia),if_pos (by lia)]
     congr 1
     lia
    ·exact ⟨gs.set j (mgf f t.a t.b),by rw [← map_set]; rfl,.inr ⟨j,f,jk,hf,ne,low,rfl,rfl⟩⟩
  ·intro ρ zP1
   refine bc fun ζ=>?_
   obtain ⟨gs',rfl,L⟩:=zP1
   obtain ⟨h1,h2⟩:=L.num I t
   apply ζ;clear ζ
   refine Ws.App (We.v rfl (Wk.val (app_go ?_ rfl (by first | (dsimp only [List.set]; first | done | rfl) | rfl) (by rw [List.length_map,List.length_reverse]; unfold SZ; lia)))) rfl
   refine ⟨gs',num :: ms,.sh (.int t.m),.sh (.int t.a),.sh (.int t.b),.sh (.int num),by rw [List.reverse_cons,List.map_append]; rfl,?_⟩
   rw [List.reverse_append]
   exact ⟨h2,A,h1⟩
 ·intro ρ zP1
  refine bc fun ζ=>?_
  obtain ⟨gs,ms,c5,c6,c7,c8,rfl,I,A⟩:=zP1
  apply ζ;clear ζ
  rw [List.reverse_reverse] at A
  refine Ws.R (We.e1 (We.w rfl (Wg1.mk (v:=.new (.lst (ms.map Dat.int))) ?_ rfl ?_)))
  ·exact ⟨ms,rfl,A⟩
  ·unfold gLiRev
   dsimp only
   rw [← List.map_reverse,List.reverse_reverse]
theorem Good.lo {n : Int} : ∀ {r : List Tie} {lo : Int},Good n lo r→∀ t∈r,lo≤t.m
 | [],_,_,t,h=>by cases h
 | x :: r,lo,g,t,h=>by
  rcases List.mem_cons.mp h with rfl | h
  ·exact g.1
  ·have:=Good.lo g.2.2.2.2 t h; have:=g.1; lia
theorem Good.mem {n : Int} : ∀ {r : List Tie} {lo : Int},Good n lo r→∀ t∈r,0≤t.a∧t.a≤t.b∧t.b < n
 | [],_,_,t,h=>by cases h
 | x :: r,lo,g,t,h=>by
  rcases List.mem_cons.mp h with rfl | h
  ·exact ⟨g.2.1,g.2.2.1,g.2.2.2.1⟩
  ·exact Good.mem g.2.2.2.2 t h
theorem ix_go {ns : List Int} {i : Int} {o p : Option Dat} {K : RV→Prop} (h0 : 0≤i) (h1 : i < ns.length) (k : K (.val (.int (at' ns i)))) (ho : o = some (.lst (ns.map Dat.int))) (hp : p = some (.int i)) : Wg2 gIx o p K:=⟨_,_,_,ho,hp,ix_map ns i h0 h1,k⟩
theorem Wg2.mulB {i j : Int} {o p : Option Dat} {K : RV→Prop} (k : K (.val (.int (i * j)))) (ho : o = some (.int i)) (hp : p = some (.int j)) (h : i.natAbs.log2 < 1000000∧j.natAbs.log2 < 1000000) : Wg2 gMulB o p K:=⟨_,_,_,ho,hp,by unfold gMulB; dsimp only; rw [if_pos h],k⟩
noncomputable def poolD (x : Int) : Dat:=.lst [.int x]
noncomputable abbrev Z60 : Int:=1000000000000000000000000000000000000000000000000000000000000
theorem pool_ok (ns : List Int) (k : Int) (h0 : 0≤k) (h1 : k < 1000) : ∃ x,f_z21 [.lst (ns.map Dat.int),.int k] = some (.new (poolD x)):=by
 suffices h : Wr (f_z21 [.lst (ns.map Dat.int),.int k]) fun v=>∃ x,v = .new (poolD x) by
  obtain ⟨v,h1,c,rfl⟩:=h
  exact ⟨c,h1⟩
 unfold f_z21
 (refine _d.Wr.fn ?_ rfl rfl; dsimp only [List.map,List.replicate,List.cons_append,List.nil_append])
 refine Ws.seq (Ws.A (We.c (WA.val ?_ (by first | (dsimp only [List.set]; first | done | rfl) | rfl))) (by decide))
 refine Ws.cut (fun ρ=>∃ c : Int,ρ = [.sh (.lst (ns.map Dat.int)),.sh (.int k),.sh (.int c),.un,.un,.un]) ?_ ?_
 ·refine _d.Ws.If ?_;refine _d.Wt.V ?_;refine _d.We.e2 ?_;apply _d.We.v;rfl;refine _d.We.B ?_;refine _d.Was.cons ?_;apply _d.We.v;rfl;refine _d.Was.nil ?_;refine _d.WB.lenI (enc:=_d.Dat.int) ?_ rfl;refine _d.Wg2.lt ?_ rfl rfl;refine _d.Wb.mk ?_
  refine ⟨fun h=>?_,fun h=>?_⟩
  ·have h:=of_decide_eq_true h
   refine _d.Ws.A ?_ (by decide);refine _d.We.e2 ?_;apply _d.We.v;rfl;apply _d.We.v;rfl
   refine ix_go h0 (by simpa using h) ?_ rfl rfl
   ((refine _d.WA.val ?_ (by first | (dsimp only [List.set]; first | done | rfl) | rfl)))
   exact ⟨_,rfl⟩
  ·refine _d.Ws.nx ?_
   exact ⟨_,rfl⟩
 rintro ρ ⟨c,rfl⟩
 refine Ws.seq (Ws.If (Wt.V (We.e2 (We.v rfl (We.e2 (We.c (We.c (Wg2.pow (z:=1000000000000000000) ?_ rfl rfl (by decide) (by decide)))))))))
 refine Wg2.ge (Wb.mk ?_) rfl rfl
 have p60 : ∀ {K : RV→Prop} {o p : Option Dat},K (.val (.int Z60))→o = some (.int 10)→p = some (.int 60)→Wg2 gPow o p K:=fun k ho hp=>Wg2.pow (z:=Z60) k ho hp (by decide) (by decide +kernel)
 refine ⟨fun h=>?_,fun h=>?_⟩
 ·refine Ws.R (We.L (Was.cons (We.e2 (We.v rfl ?_))))
  refine We.e2 (We.e2 (We.e2 (We.e2 (We.e2 (We.c (We.c (p60 ?_ rfl rfl)))))))
  refine We.e2 (We.c (We.c (p60 ?_ rfl rfl)))
  refine Wg2.mulB ?_ rfl rfl (by decide +kernel)
  refine We.e2 (We.c (We.c (p60 ?_ rfl rfl)))
  refine Wg2.mulB ?_ rfl rfl (by decide +kernel)
  refine We.e2 (We.c (We.c (p60 ?_ rfl rfl)))
  refine Wg2.mulB ?_ rfl rfl (by decide +kernel)
  refine We.e2 (We.c (We.c (p60 ?_ rfl rfl)))
  refine Wg2.mulB ?_ rfl rfl (by decide +kernel)
  refine Wg2.mod ?_ rfl rfl (by decide +kernel)
  refine Was.nil (WT.mk ?_ rfl rfl (by exact Nat.le_of_ble_eq_true rfl))
  exact ⟨_,rfl⟩
 ·refine Ws.nx ?_
  refine Ws.cut (fun ρ=>∃ x : Int,(0≤x∧x < 2147483647)∧ρ = [.sh (.lst (ns.map Dat.int)),.sh (.int k),.sh (.int c),.sh (.int x),.un,.un]) ?_ ?_
  ·((with_reducible refine _d.Ws.A ?_ (by decide)); (with_reducible refine _d.We.e2 ?_); (with_reducible refine _d.We.e2 ?_); (with_reducible refine _d.We.e2 ?_); (with_reducible refine _d.We.e2 ?_); ((with_reducible apply _d.We.v); (focus rfl)); (with_reducible refine _d.We.e2 ?_); (with_reducible refine _d.We.e2 ?_); (with_reducible refine _d.We.c ?_); ((with_reducible apply _d.We.v); (focus rfl)); (refine _d.Wg2.mul ?_ rfl rfl (by first | exact Or.inl (by decide) | exact Or.inr (by decide))); ((with_reducible apply _d.We.v); (focus rfl)); (refine _d.Wg2.mul ?_ rfl rfl ?_); (refine _d.Wg2.add ?_ rfl rfl); (with_reducible refine _d.We.e2 ?_); (with_reducible refine _d.We.c ?_); ((with_reducible apply _d.We.v); (focus rfl)); (refine _d.Wg2.mul ?_ rfl rfl (by first | exact Or.inl (by decide) | exact Or.inr (by decide))); (refine _d.Wg2.add ?_ rfl rfl); (with_reducible refine _d.We.c ?_); (refine _d.Wg2.add ?_ rfl rfl); (with_reducible refine _d.We.c ?_); (refine _d.Wg2.mod ?_ rfl rfl (by decide)); (refine _d.WA.val ?_ (by first | (dsimp only [List.set]; first | done | rfl) | rfl)))
   ·exact ⟨_,emod_in _ _ (by decide),rfl⟩
   ·exact .inr (by unfold B64; lia)
  rintro ρ ⟨x,hx,rfl⟩
  refine Ws.seq (Ws.A (We.c (WA.val ?_ (by first | (dsimp only [List.set]; first | done | rfl) | rfl))) (by decide))
  refine Ws.seq (Ws.For (Wi.R1 (We.c (Wint.mk ⟨?_,by decide,by decide⟩))))
  refine Ws.inv (fun i : Nat=>Dat.int (0 + (i : Nat))) _ _ (List.range 40) _ _ _ _ _ (fun p q ρ=>∃ (x f : Int) (c5 : Cell),(0≤x∧x < 2147483647)∧ρ = [.sh (.lst (ns.map Dat.int)),.sh (.int k),.sh (.int c),.sh (.int x),.sh (.int f),c5]) ⟨_,_,_,hx,rfl⟩ ?_ ?_
  ·rintro p i q ρ e ⟨x,f,c5,hx,rfl⟩
   refine _d.bind_go rfl (by first | (dsimp only [List.set]; first | done | rfl) | rfl) ?_
   unfold b0_z21
   refine Ws.cut (fun ρ=>∃ y : Int,(0≤y∧y < 2147483647)∧ρ = [.sh (.lst (ns.map Dat.int)),.sh (.int k),.sh (.int c),.sh (.int y),.sh (.int f),.sh (.int (0 + (i : Nat)))]) ?_ ?_
   ·((with_reducible refine _d.Ws.A ?_ (by decide)); (with_reducible refine _d.We.e2 ?_); (with_reducible refine _d.We.e2 ?_); (with_reducible refine _d.We.e2 ?_); (with_reducible refine _d.We.e2 ?_); ((with_reducible apply _d.We.v); (focus rfl)); (with_reducible refine _d.We.c ?_); (refine _d.Wg2.mul ?_ rfl rfl (by first | exact Or.inl (by decide) | exact Or.inr (by decide))); (with_reducible refine _d.We.e2 ?_); (with_reducible refine _d.We.c ?_); ((with_reducible apply _d.We.v); (focus rfl)); (refine _d.Wg2.mul ?_ rfl rfl (by first | exact Or.inl (by decide) | exact Or.inr (by decide))); (refine _d.Wg2.add ?_ rfl rfl); (with_reducible refine _d.We.c ?_); (refine _d.Wg2.add ?_ rfl rfl); (with_reducible refine _d.We.c ?_); (refine _d.Wg2.mod ?_ rfl rfl (by decide)); (refine _d.WA.val ?_ (by first | (dsimp only [List.set]; first | done | rfl) | rfl)))
    exact ⟨_,by have:=emod_in (x * 48271 + 7919 * (0 + ((i : Nat) : Int)) + 3) 2147483629 (by decide); lia,rfl⟩
   rintro ρ ⟨y,hy,rfl⟩
   refine Ws.cut (fun ρ=>∃ y : Int,(0≤y∧y < 2147483647)∧ρ = [.sh (.lst (ns.map Dat.int)),.sh (.int k),.sh (.int c),.sh (.int y),.sh (.int f),.sh (.int (0 + (i : Nat)))]) ?_ ?_
   ·((with_reducible refine _d.Ws.A ?_ (by decide)); (with_reducible refine _d.We.e2 ?_); (with_reducible refine _d.We.e2 ?_); ((with_reducible apply _d.We.v); (focus rfl)); ((with_reducible apply _d.We.v); (focus rfl)); (refine _d.Wg2.mul ?_ rfl rfl ?_); (with_reducible refine _d.We.c ?_); (refine _d.Wg2.mod ?_ rfl rfl (by decide)); (refine _d.WA.val ?_ (by first | (dsimp only [List.set]; first | done | rfl) | rfl)))
    ·exact ⟨_,by have:=emod_in (y * y) 2147483587 (by decide); lia,rfl⟩
    ·exact .inl (by unfold B64; lia)
   rintro ρ ⟨z,hz,rfl⟩
   ((with_reducible refine _d.Ws.A ?_ (by decide)); (with_reducible refine _d.We.e2 ?_); (with_reducible refine _d.We.e2 ?_); ((with_reducible apply _d.We.v); (focus rfl)); (with_reducible refine _d.We.c ?_); (refine _d.Wg2.mul ?_ rfl rfl (by first | exact Or.inl (by decide) | exact Or.inr (by decide))); (with_reducible refine _d.We.e2 ?_); (with_reducible refine _d.We.e2 ?_); (with_reducible refine _d.We.e2 ?_); ((with_reducible apply _d.We.v); (focus rfl)); (with_reducible refine _d.We.c ?_); (refine _d.Wg2.mul ?_ rfl rfl (by first | exact Or.inl (by decide) | exact Or.inr (by decide))); ((with_reducible apply _d.We.v); (focus rfl)); (refine _d.Wg2.add ?_ rfl rfl); (with_reducible refine _d.We.c ?_); (refine _d.Wg2.mod ?_ rfl rfl (by decide)); (refine _d.Wg2.add ?_ rfl rfl); (refine _d.WA.val ?_ (by first | (dsimp only [List.set]; first | done | rfl) | rfl)))
   exact ⟨_,_,_,hz,rfl⟩
  ·rintro ρ ⟨x,f,c5,hx,rfl⟩
   ((with_reducible refine _d.Ws.R ?_); (with_reducible refine _d.We.L ?_); (with_reducible refine _d.Was.cons ?_); ((with_reducible apply _d.We.v); (focus rfl)); (with_reducible refine _d.Was.nil ?_); (refine _d.WT.mk ?_ rfl (by first | (dsimp only [List.set]; first | done | rfl) | rfl) (by exact Nat.le_of_ble_eq_true rfl)); (refine _d.WR.new ?_))
   exact ⟨_,rfl⟩
theorem take_ok (x m : Int) (h0 : 0 < m) (h1 : m < B200) : f_z22 [poolD x,.int m] = some (.val (.int (x % m)),poolD (x / m)):=by
 suffices h : WrM (f_z22 [poolD x,.int m]) fun v d=>v = .val (.int (x % m))∧d = poolD (x / m) by
  obtain ⟨v,d,h1,rfl,rfl⟩:=h
  exact h1
 unfold f_z22
 refine WrM.fn ?_ rfl rfl
 dsimp only [List.map,List.replicate,List.cons_append,List.nil_append]
 unfold poolD
 ((with_reducible refine _d.Ws.seq ?_); (with_reducible refine _d.Ws.A ?_ (by decide)); (with_reducible refine _d.We.e2 ?_); (with_reducible refine _d.We.e2 ?_); ((with_reducible apply _d.We.w); (focus rfl)); (with_reducible refine _d.We.c ?_); (refine _d.Wg2.ix ?_ rfl rfl rfl); ((with_reducible apply _d.We.v); (focus rfl)); (refine _d.Wg2.mod ?_ rfl rfl ?_); (refine _d.WA.val ?_ (by first | (dsimp only [List.set]; first | done | rfl) | rfl)); (with_reducible refine _d.Ws.seq ?_))
 ·refine Ws.Set ?_
  refine _d.We.e2 ?_;refine _d.We.e2 ?_;apply _d.We.w;rfl;refine _d.We.c ?_;refine _d.Wg2.ix ?_ rfl rfl rfl;apply _d.We.v;rfl;refine _d.Wg2.div ?_ rfl rfl ?_;refine _d.Wk.val ?_;refine _d.own_go rfl ?_;refine _d.We.c ?_;refine _d.Wint.mk ?_
  ·refine ⟨_,0,_,rfl,rfl,rfl,?_⟩
   refine _d.Ws.R ?_;apply _d.We.v;rfl;refine _d.WR.val ?_
   exact ⟨_,rfl,rfl,rfl⟩
  ·exact ⟨h0,h1⟩
 ·exact h0
noncomputable def Wtk (j : Nat) (m : Int) (ρ1 : Env) (Q : Val→Env→Prop) : Prop:=∃ x ρ3,Q (.val (.int (x % m))) ρ3∧ρ1[j]? = some (.ow (poolD x))∧ρ1.set j (.ow (poolD (x / m))) = ρ3∧0 < m∧m < B200
theorem take_go {j : Nat} {x m : Int} {ρ1 ρ3 : Env} {Q : Val→Env→Prop} (q : Q (.val (.int (x % m))) ρ3) (h2 : ρ1[j]? = some (.ow (poolD x))) (hn : ρ1.set j (.ow (poolD (x / m))) = ρ3) (h0 : 0 < m) (h1 : m < B200) : Wtk j m ρ1 Q:=⟨_,_,q,h2,hn,h0,h1⟩
theorem We.take {j : Nat} {a : FE} {ρ : Env} {d0 : Dat} {Q : Val→Env→Prop} (h : We a ρ fun v ρ1=>Wint v fun m=>Wtk j m ρ1 Q) (h0 : ρ[j]? = some (.ow d0)) : We (eFm f_z22 j [a]) ρ Q:=by
 refine We.Fm (Was.cons ?_) h0
 refine bc fun ζ=>?_
 obtain ⟨v,ρ1,e1,m,rfl,x,ρ3,q,e2,e3,m0,m1⟩:=h
 exact ζ (⟨_,_,e1,Was.nil (WFm.any (take_ok x m m0 m1) q e2 rfl e3)⟩)
theorem We.drw {j : Nat} {a : FE} {ρ : Env} {x m : Int} {Q : Val→Env→Prop} (ha : a ρ = some (.val (.int m),ρ)) (h0 : 0 < m) (h1 : m < B200) (hj : ρ[j]? = some (.ow (poolD x))) (k : ∀ t x' : Int,0≤t→t < m→∀ ρ3,ρ.set j (.ow (poolD x')) = ρ3→Q (.val (.int t)) ρ3) : We (eFm f_z22 j [a]) ρ Q :=
 We.take ⟨_,_,ha,m,rfl,take_go (k _ _ (emod_in x m (by lia)).1 (emod_in x m (by lia)).2 _ rfl) hj rfl h0 h1⟩ hj
theorem Good.snoc {n : Int} : ∀ {r : List Tie} {lo hi : Int} {t : Tie},Good n lo r→(∀ u∈r,u.m < hi)→lo≤hi→hi = t.m→0≤t.a→t.a≤t.b→t.b < n→Good n lo (r ++ [t])
 | [],_,_,_,_,_,h,e,h1,h2,h3=>⟨by lia,h1,h2,h3,trivial⟩
 | u :: r,lo,hi,t,h,hu,hl,e,h1,h2,h3=>by
  obtain ⟨k1,k2,k3,k4,k5⟩:=h
  exact ⟨k1,k2,k3,k4,Good.snoc k5 (fun v hv=>hu v (List.mem_cons_of_mem _ hv)) (by have:=hu u List.mem_cons_self; lia) e h1 h2 h3⟩
theorem many_ok (x : Int) : ∃ (n x' : Int),f_z23 [poolD x] = some (.val (.int n),poolD x')∧1≤n∧n≤10:=by
 suffices h : WrM (f_z23 [poolD x]) fun v d=>∃ n x' : Int,v = .val (.int n)∧d = poolD x'∧1≤n∧n≤10 by
  refine bc fun ζ=>?_
  obtain ⟨v,d,h1,n,x',rfl,rfl,h2⟩:=h
  exact ζ (⟨n,x',h1,h2⟩)
 unfold f_z23
 refine WrM.fn ?_ rfl rfl
 dsimp only [List.map,List.replicate,List.cons_append,List.nil_append]
 refine Ws.R (We.e2 ?_)
 ((with_reducible refine _d.We.L ?_); (with_reducible refine _d.Was.cons ?_); (with_reducible refine _d.We.c ?_); (with_reducible refine _d.Was.cons ?_); (with_reducible refine _d.We.c ?_); (with_reducible refine _d.Was.cons ?_); (with_reducible refine _d.We.c ?_); (with_reducible refine _d.Was.cons ?_); (with_reducible refine _d.We.c ?_); (with_reducible refine _d.Was.cons ?_); (with_reducible refine _d.We.c ?_); (with_reducible refine _d.Was.cons ?_); (with_reducible refine _d.We.c ?_); (with_reducible refine _d.Was.cons ?_); (with_reducible refine _d.We.c ?_); (with_reducible refine _d.Was.cons ?_); (with_reducible refine _d.We.c ?_); (with_reducible refine _d.Was.nil ?_); (refine _d.WT.mk ?_ rfl (by first | (dsimp only [List.set]; first | done | rfl) | rfl) (by exact Nat.le_of_ble_eq_true rfl)))
 refine We.drw (m:=8) rfl (by decide) (by decide) rfl fun t x' h0 h1 ρ3 e=>?_
 subst e
 have : t = 0∨t = 1∨t = 2∨t = 3∨t = 4∨t = 5∨t = 6∨t = 7:=by lia
 rcases this with rfl | rfl | rfl | rfl | rfl | rfl | rfl | rfl <;>
 ·refine Wg2.ix ?_ rfl rfl rfl
  exact ⟨_,rfl,_,x',rfl,rfl,by decide,by decide⟩
theorem ix4 (a b c d : Int) (x : Int) (h0 : 0≤x) (h : x < 4) : gIx (.lst [.int a,.int b,.int c,.int d]) (.int x) = some (.val (.int (if x = 0 then a else if x = 1 then b else if x = 2 then c else d))):=by
 have : x = 0∨x = 1∨x = 2∨x = 3:=by lia
 rcases this with rfl | rfl | rfl | rfl <;> rfl
noncomputable abbrev Z28 : Int:=10000000000000000000000000000
noncomputable abbrev Z30 : Int:=1000000000000000000000000000000
noncomputable def RE (pool : Int) (n most many kind step times way moment : Int) (r : List Tie) (c10 c11 c12 : Cell) : Env :=
 [.ow (poolD pool),.sh (.int n),.sh (.int most),.sh (.int many),.sh (.int kind),.sh (.int step),.sh (.int times),.sh (.int way),.sh (.int moment),.ow (recD r),c10,c11,c12]
theorem min_max (a b : Int) : (if b < a then b else a)≤(if b > a then b else a):=by split <;> split <;> lia
theorem record_ok (x n most : Int) (n1 : 1≤n) (n10 : n≤10) (m0 : 0≤most) (m60 : most≤60) :
  ∃ (r : List Tie) (x' : Int),f_z24 [poolD x,.int n,.int most] = some (.new (recD r),poolD x')∧Good n 0 r∧(r.length : Int)≤most∧∀ t∈r,t.m≤Z30:=by
 suffices hh : WrM (f_z24 [poolD x,.int n,.int most]) fun v d=>∃ (r : List Tie) (x' : Int),v = .new (recD r)∧d = poolD x'∧Good n 0 r∧(r.length : Int)≤most∧∀ t∈r,t.m≤Z30 by
  refine bc fun ζ=>?_
  obtain ⟨v,d,h1,h,x',rfl,rfl,h2⟩:=hh
  exact ζ (⟨h,x',h1,h2⟩)
 suffices hK : ∀ K : RV→Dat→Prop,(∀ v d,(∃ (r : List Tie) (x' : Int),v = .new (recD r)∧d = poolD x'∧Good n 0 r∧(r.length : Int)≤most∧∀ t∈r,t.m≤Z30)→K v d)→WrM (f_z24 [poolD x,.int n,.int most]) K from hK _ fun _ _ h=>h
 intro K hK
 unfold f_z24
 refine WrM.fn ?_ rfl rfl
 dsimp only [List.map,List.replicate,List.cons_append,List.nil_append]
 refine Ws.seq (Ws.A ?_ (by decide))
 refine We.drw (m:=most + 1) rfl (by lia) (by unfold B200; lia) rfl fun many x1 h1 h2 ρ3 e=>?_
 subst e
 refine WA.val ?_ (by first | (dsimp only [List.set]; first | done | rfl) | rfl)
 refine Ws.seq (Ws.A ?_ (by decide))
 refine We.drw (m:=4) rfl (by decide) (by decide) rfl fun kind x2 k1 k2 ρ3 e=>?_
 subst e
 refine WA.val ?_ (by first | (dsimp only [List.set]; first | done | rfl) | rfl)
 refine Ws.cut (fun ρ=>∃ step : Int,(1≤step∧step≤1000000∧(kind = 3→step≤1000))∧ρ = [.ow (poolD x2),.sh (.int n),.sh (.int most),.sh (.int many),.sh (.int kind),.sh (.int step),.un,.un,.un,.un,.un,.un,.un]) ?_ ?_
 ·refine Ws.k fun K0 hK0=>?_
  refine Ws.A (We.e2 (We.L (Was.cons (We.c (Was.cons (We.c (Was.cons (We.e2 (We.c (We.c (Wg2.pow (z:=1000000) ?_ rfl rfl (by decide) (by decide)))))))))))) (by decide)
  refine Was.cons (We.c (Was.nil (WT.mk ?_ rfl rfl (by exact Nat.le_of_ble_eq_true rfl))))
  refine We.v rfl (Wg2.ix ?_ rfl rfl (ix4 1 3 1000000 1000 kind k1 k2))
  refine WA.val ?_ (by first | (dsimp only [List.set]; first | done | rfl) | rfl)
  refine hK0 _ ⟨_,?_,rfl⟩
  have : kind = 0∨kind = 1∨kind = 2∨kind = 3:=by lia
  rcases this with q | q | q | q <;> rw [q] <;> decide
 intro ρ zP1
 refine bc fun ζ=>?_
 obtain ⟨step,hs,rfl⟩:=zP1
 apply ζ;clear ζ
 refine Ws.cut (fun ρ=>∃ times : Int,(0≤times∧step * times≤Z28)∧ρ = [.ow (poolD x2),.sh (.int n),.sh (.int most),.sh (.int many),.sh (.int kind),.sh (.int step),.sh (.int times),.un,.un,.un,.un,.un,.un]) ?_ ?_
 ·refine Ws.k fun K1 hK1=>?_
  refine Ws.A (We.e2 (We.L (Was.cons (We.c (Was.cons (We.e2 (We.c (We.c (Wg2.pow (z:=10000000000000000000000000) ?_ rfl rfl (by decide) (by decide)))))))))) (by decide)
  refine Was.nil (WT.mk ?_ rfl rfl (by exact Nat.le_of_ble_eq_true rfl))
  refine We.B (Was.cons (We.e2 (We.v rfl (We.c (Wg2.eq ?_ rfl rfl)))))
  refine Was.nil (WB.int ?_ rfl)
  by_cases q : kind = 3
  ·rw [decide_eq_true q]
   refine Wg2.ix (v:=.int 10000000000000000000000000) ?_ rfl rfl rfl
   exact WA.val (hK1 _ ⟨10000000000000000000000000,⟨by decide,by have:=hs.2.2 q; unfold Z28; lia⟩,rfl⟩) (by first | (dsimp only [List.set]; first | done | rfl) | rfl)
  ·rw [decide_eq_false q]
   refine Wg2.ix (v:=.int 1) ?_ rfl rfl rfl
   exact WA.val (hK1 _ ⟨1,⟨by decide,by unfold Z28; lia⟩,rfl⟩) (by first | (dsimp only [List.set]; first | done | rfl) | rfl)
 intro ρ zP1
 refine bc fun ζ=>?_
 obtain ⟨times,⟨ht,hst⟩,rfl⟩:=zP1
 apply ζ;clear ζ
 have tb : ∀ t : Int,0≤t→t < step→t * times≤Z28:=fun t _ t2=>Int.le_trans (Int.mul_le_mul_of_nonneg_right (Int.le_of_lt t2) ht) hst
 refine Ws.seq (Ws.A ?_ (by decide))
 refine We.drw (m:=4) rfl (by decide) (by decide) rfl fun way x3 w1 w2 ρ3 e=>?_
 subst e
 refine WA.val ?_ (by first | (dsimp only [List.set]; first | done | rfl) | rfl)
 refine Ws.cut (fun ρ=>∃ x4 mo : Int,(0≤mo∧mo≤Z28)∧ρ = [.ow (poolD x4),.sh (.int n),.sh (.int most),.sh (.int many),.sh (.int kind),.sh (.int step),.sh (.int times),.sh (.int way),.sh (.int mo),.un,.un,.un,.un]) ?_ ?_
 ·refine Ws.k fun K2 hK2=>?_
  refine Ws.A (We.e2 ?_) (by decide)
  refine We.drw (m:=step) rfl (by lia) (by unfold B200; lia) rfl fun t x4 t1 t2 ρ3 e=>?_
  subst e
  refine We.v rfl (Wg2.mul ?_ rfl rfl (.inl (by unfold B64; lia)))
  exact WA.val (hK2 _ ⟨_,_,⟨Int.mul_nonneg t1 ht,tb t t1 t2⟩,rfl⟩) (by first | (dsimp only [List.set]; first | done | rfl) | rfl)
 intro ρ zP1
 refine bc fun ζ=>?_
 obtain ⟨x4,mo,hmo,rfl⟩:=zP1
 apply ζ;clear ζ
 refine Ws.seq (Ws.A (We.L (Was.nil (WT.mk ?_ rfl rfl (by decide)))) (by decide))
 refine WA.new ?_ (by first | (dsimp only [List.set]; first | done | rfl) | rfl)
 refine Ws.seq (Ws.For (Wi.R1 (We.v rfl (Wint.mk ⟨?_,by unfold BIG; lia⟩))))
 refine Ws.inv (fun i : Nat=>Dat.int (0 + (i : Nat))) _ _ (List.range many.toNat) _ _ _ _ _ (fun p q ρ=>∃ (x mo : Int) (r : List Tie) (c10 c11 c12 : Cell),ρ = RE x n most many kind step times way mo r c10 c11 c12∧Good n 0 r∧r.length = p.length∧(∀ u∈r,u.m < mo)∧0≤mo∧mo≤((p.length : Int) + 1) * (Z28 + 1))
  ⟨_,_,[],_,_,_,rfl,trivial,rfl,(fun u hu=>by cases hu),hmo.1,by have:=hmo.2; simp; lia⟩ ?_ ?_
 ·intro p i q ρ e zP5
  refine bc fun ζ=>?_
  obtain ⟨x,mo,r,c10,c11,c12,rfl,hg,hl,hu,hm,hM⟩:=zP5
  apply ζ;clear ζ
  have lp : p.length < 100:=by
   have : (List.range many.toNat).length = p.length + (q.length + 1):=by rw [e]; simp
   rw [List.length_range] at this; lia
  unfold RE
  refine _d.bind_go rfl (by first | (dsimp only [List.set]; first | done | rfl) | rfl) ?_
  unfold b0_z24
  refine Ws.k fun KL hKL=>?_
  refine Ws.seq (Ws.A ?_ (by decide))
  refine We.drw (m:=n) rfl (by lia) (by unfold B200; lia) rfl fun one y1 o1 o2 ρ3 e=>?_
  subst e
  refine WA.val ?_ (by first | (dsimp only [List.set]; first | done | rfl) | rfl)
  refine Ws.seq (Ws.A ?_ (by decide))
  refine We.drw (m:=n) rfl (by lia) (by unfold B200; lia) rfl fun oth y2 u1 u2 ρ3 e=>?_
  subst e
  refine WA.val ?_ (by first | (dsimp only [List.set]; first | done | rfl) | rfl)
  refine Ws.cut (fun ρ=>∃ o : Int,(0≤o∧o < n)∧ρ = RE y2 n most many kind step times way mo r (.sh (.int (0 + (i : Nat)))) (.sh (.int one)) (.sh (.int o))) ?_ ?_
  ·refine Ws.k fun K3 hK3=>?_
   refine Ws.If (Wt.V (We.e2 (We.v rfl (We.c (Wg2.eq (Wb.mk ?_) rfl rfl)))))
   refine Wif.dec (fun _=>?_) fun _=>?_
   ·refine Ws.A (We.e2 (We.e2 (We.v rfl (We.c (Wg2.add (We.v rfl (Wg2.mod ?_ rfl rfl (by lia))) rfl rfl))))) (by decide)
    exact WA.val (hK3 _ ⟨_,emod_in _ n n1,rfl⟩) (by first | (dsimp only [List.set]; first | done | rfl) | rfl)
   ·exact Ws.nx (hK3 _ ⟨oth,⟨u1,u2⟩,rfl⟩)
  intro ρ zP1
  refine bc fun ζ=>?_
  obtain ⟨o,⟨q1,q2⟩,rfl⟩:=zP1
  apply ζ;clear ζ
  refine Ws.cut (fun ρ=>∃ o : Int,(0≤o∧o < n)∧ρ = RE y2 n most many kind step times way mo r (.sh (.int (0 + (i : Nat)))) (.sh (.int one)) (.sh (.int o))) ?_ ?_
  ·refine Ws.k fun K4 hK4=>?_
   unfold RE
   refine Ws.If (Wt.V (We.e2 (We.v rfl (We.c (Wg2.eq (Wb.mk ?_) rfl rfl)))))
   refine Wif.dec (fun _=>?_) fun _=>?_
   ·refine Ws.A (We.e2 (We.e2 (We.e2 (We.e2 (We.v rfl (We.e2 (We.v rfl (We.c (Wg2.mod ?_ rfl rfl (by decide)))))))))) (by decide)
    refine Wg2.add ?_ rfl rfl
    refine We.c (Wg2.add ?_ rfl rfl)
    refine We.B (Was.cons (We.v rfl (Was.cons (We.c (Was.nil (WB.min2 ?_ rfl))))))
    refine Wg2.mod ?_ rfl rfl (by split <;> lia)
    refine We.v rfl (Wg2.mod ?_ rfl rfl (by lia))
    exact WA.val (hK4 _ ⟨_,emod_in _ n n1,rfl⟩) (by first | (dsimp only [List.set]; first | done | rfl) | rfl)
   ·exact Ws.nx (hK4 _ ⟨o,⟨q1,q2⟩,rfl⟩)
  intro ρ zP1
  refine bc fun ζ=>?_
  obtain ⟨o,⟨q1,q2⟩,rfl⟩:=zP1
  apply ζ;clear ζ
  unfold RE
  refine Ws.seq (Ws.App (We.T (Was.cons (We.v rfl (Was.cons (We.B (Was.cons (We.v rfl (Was.cons (We.v rfl (Was.nil (WB.min2 ?_ rfl))))))))))) rfl)
  refine Was.cons (We.B (Was.cons (We.v rfl (Was.cons (We.v rfl (Was.nil (WB.max2 ?_ rfl)))))))
  refine Was.nil (WT.mk ?_ rfl rfl (by exact Nat.le_of_ble_eq_true rfl))
  refine Wk.val (app_go ?_ rfl (by first | (dsimp only [List.set]; first | done | rfl) | rfl) (by rw [List.length_map]; unfold SZ; lia))
  refine Ws.A (We.e2 (We.e2 (We.v rfl (We.c (Wg2.add ?_ rfl rfl))))) (by decide)
  refine We.e2 ?_
  refine We.drw (m:=step) rfl (by lia) (by unfold B200; lia) rfl fun t x4 t1 t2 ρ3 e=>?_
  subst e
  refine We.v rfl (Wg2.mul ?_ rfl rfl (.inl (by unfold B64; lia)))
  refine Wg2.add ?_ rfl rfl
  refine WA.val ?_ (by first | (dsimp only [List.set]; first | done | rfl) | rfl)
  have tn:=Int.mul_nonneg t1 ht
  refine hKL _ ⟨x4,mo + 1 + t * times,r ++ [⟨mo,(if o < one then o else one),(if o > one then o else one)⟩],.sh (.int (0 + (i : Nat))),.sh (.int one),.sh (.int o),?_,?_,by simp [hl],?_,by lia,?_⟩
  ·unfold recD
   rw [List.map_append]
   rfl
  ·refine Good.snoc (hi:=mo) hg hu hm rfl ?_ (min_max one o) ?_
   ·show 0≤(if o < one then o else one); split <;> lia
   ·show (if o > one then o else one) < n; split <;> lia
  ·intro u hu'
   rcases List.mem_append.mp hu' with h | h
   ·have:=hu u h; lia
   ·rw [List.mem_singleton.mp h]; show mo < _; lia
  ·have:=tb t t1 t2
   rw [List.length_append,List.length_singleton]
   have e : (((p.length + 1 : Nat) : Int) + 1) * (Z28 + 1) = ((p.length : Int) + 1) * (Z28 + 1) + (Z28 + 1):=by
    rw [Int.natCast_add,Int.add_mul (((p.length : Int)) + ((1 : Nat) : Int)) 1,Int.one_mul]
    rfl
   rw [e]
   lia
 ·intro ρ zP1
  refine bc fun ζ=>?_
  obtain ⟨x,mo,r,c10,c11,c12,rfl,hg,hl,hu,hm,hM⟩:=zP1
  apply ζ;clear ζ
  unfold RE
  refine Ws.R (We.w rfl (WR.slot ?_ rfl))
  rw [List.length_range] at hM hl
  refine ⟨_,rfl,hK _ _ ⟨r,x,rfl,rfl,hg,?_,fun t ht=>?_⟩⟩
  ·rw [hl]
   lia
  ·have h1:=hu t ht
   have h2 : ((many.toNat : Int) + 1) * (Z28 + 1)≤61 * (Z28 + 1):=Int.mul_le_mul_of_nonneg_right (by lia) (by decide)
   have h3 : (61 : Int) * (Z28 + 1)≤Z30:=by decide
   lia
noncomputable def leastF (a b : Int) : Nat→List (Int→Int)→Int
 | _,[]=>0
 | i,f :: r=>if f a = f b then leastF a b (i + 1) r else (i : Int) + 1
theorem leastF_spec (a b : Int) : ∀ (gs : List (Int→Int)) (i : Nat),(leastF a b i gs = 0∧∀ f∈gs,f a = f b)∨(∃ j f,gs[j]? = some f∧leastF a b i gs = ((i + j : Nat) : Int) + 1∧f a≠f b∧∀ (j' : Nat) f',j' < j→gs[j']? = some f'→f' a = f' b)
 | [],i=>.inl ⟨rfl,fun f h=>by cases h⟩
 | f :: gs,i=>by
  by_cases h : f a = f b
  ·have e : leastF a b i (f :: gs) = leastF a b (i + 1) gs:=by simp [leastF,h]
   rw [e]
   rcases leastF_spec a b gs (i + 1) with ⟨h1,h2⟩ | ⟨j,g,h1,h2,h3,h4⟩
   ·refine .inl ⟨h1,fun g hg=>?_⟩
    rcases List.mem_cons.mp hg with rfl | hg
    ·exact h
    ·exact h2 g hg
   ·refine .inr ⟨j + 1,g,h1,by rw [h2]; lia,h3,fun j' f' hj hf=>?_⟩
    cases j' with
    | zero=>cases hf; exact h
    | succ j'=>exact h4 j' f' (by lia) hf
  ·exact .inr ⟨0,f,rfl,by simp [leastF,h],h,fun j' f' hj=>by lia⟩
noncomputable def stepG (gs : List (Int→Int)) (t : Tie) : List (Int→Int) :=
 if 0 < leastF t.a t.b 0 gs then gs.set (leastF t.a t.b 0 gs - 1).toNat (mgf (gs.getD (leastF t.a t.b 0 gs - 1).toNat fun x=>x) t.a t.b) else gs
theorem InvG.num {k : Nat} {gs : List (Int→Int)} {r : List Tie} {ms : List Int} (h : InvG k gs r ms) (t : Tie) : IsNum k r ms t (leastF t.a t.b 0 gs):=by
 obtain ⟨hl,ht⟩:=h
 rcases leastF_spec t.a t.b gs 0 with ⟨h1,h2⟩ | ⟨j,f,h1,h2,h3,h4⟩
 ·refine .inl ⟨h1,fun j j1 j2=>?_⟩
  have hj : (j - 1).toNat < gs.length:=by lia
  have:=(ht (j - 1).toNat _ (List.getElem?_eq_getElem hj) t.a t.b).mp (h2 _ (List.getElem_mem hj))
  rw [show (((j - 1).toNat : Nat) : Int) + 1 = j by lia] at this
  exact this
 ·have hj : j < gs.length:=(List.getElem?_eq_some_iff.mp h1).1
  rw [h2]
  refine .inr ⟨by lia,by lia,fun c=>h3 ((ht j f h1 t.a t.b).mpr (by rw [show ((0 + j : Nat) : Int) + 1 = (j : Int) + 1 by lia] at c; exact c)),fun i i1 i2=>?_⟩
  have hi : (i - 1).toNat < gs.length:=by lia
  have:=(ht (i - 1).toNat _ (List.getElem?_eq_getElem hi) t.a t.b).mp (h4 (i - 1).toNat _ (by lia) (List.getElem?_eq_getElem hi))
  rw [show (((i - 1).toNat : Nat) : Int) + 1 = i by lia] at this
  exact this
theorem InvG.step {k : Nat} {gs : List (Int→Int)} {r : List Tie} {ms : List Int} (h : InvG k gs r ms) (t : Tie) : InvG k (stepG gs t) (t :: r) (leastF t.a t.b 0 gs :: ms):=by
 obtain ⟨hl,ht⟩:=h
 unfold stepG
 rcases leastF_spec t.a t.b gs 0 with ⟨h1,h2⟩ | ⟨j,f,h1,h2,h3,h4⟩
 ·rw [h1]
  refine ⟨by simpa using hl,fun i g hg=>?_⟩
  rw [lay_cons,if_neg (by lia)]
  exact ht i g (by simpa using hg)
 ·have hj : j < gs.length:=(List.getElem?_eq_some_iff.mp h1).1
  have e : leastF t.a t.b 0 gs = (j : Int) + 1:=by rw [h2]; lia
  have e2 : ((j : Int) + 1 - 1).toNat = j:=by lia
  rw [e,if_pos (by lia),e2]
  have eg : (gs.getD j fun x=>x) = f:=by rw [List.getD_eq_getElem?_getD,h1]; rfl
  rw [eg]
  refine ⟨by rw [List.length_set]; exact hl,fun i g hg=>?_⟩
  rw [lay_cons]
  by_cases q : j = i
  ·subst q
   rw [List.getElem?_set_self hj] at hg
   cases hg
   rw [if_pos rfl]
   exact tells_mgf (ht j f h1) t t.a t.b (.inl ⟨rfl,rfl⟩)
  ·rw [List.getElem?_set_ne q] at hg
   rw [if_neg (by lia)]
   exact ht i g hg
theorem filter_lt {α : Type} (p q : α→Bool) : ∀ (l : List α),(∀ x∈l,q x = true→p x = true)→(∃ x∈l,p x = true∧q x = false)→(l.filter q).length + 1≤(l.filter p).length
 | [],_,⟨x,h,_⟩=>by cases h
 | y :: l,h,⟨x,hx,hp,hq⟩=>by
  have le : ∀ l : List α,(∀ x∈l,q x = true→p x = true)→(l.filter q).length≤(l.filter p).length:=by
   intro l
   induction l with
   | nil=>intro _; simp
   | cons z l ih =>
    intro hh
    have i2:=ih fun u hu=>hh u (List.mem_cons_of_mem _ hu)
    have hz:=hh z List.mem_cons_self
    rw [List.filter_cons,List.filter_cons]
    cases hqz : q z with
    | false=>cases p z <;> simp <;> lia
    | true=>rw [hz hqz]; simp; lia
  have tl : ∀ u∈l,q u = true→p u = true:=fun u hu=>h u (List.mem_cons_of_mem _ hu)
  rw [List.filter_cons,List.filter_cons]
  rcases List.mem_cons.mp hx with rfl | hx
  ·rw [hp,hq]
   have:=le l tl
   simp; lia
  ·have ih:=filter_lt p q l tl ⟨x,hx,hp,hq⟩
   cases hqy : q y with
   | false=>cases p y <;> simp <;> lia
   | true=>rw [h y List.mem_cons_self hqy]; simp; lia
noncomputable def first (f : Int→Int) (x : Nat) : Bool:=(List.range x).all fun y=>decide (f y≠f x)
theorem first_iff (f : Int→Int) (x : Nat) : first f x = true↔∀ y : Nat,y < x→f y≠f x:=by
 unfold first
 rw [List.all_eq_true]
 exact ⟨fun h y hy=>of_decide_eq_true (h y (List.mem_range.mpr hy)),fun h y hy=>decide_eq_true (h y (List.mem_range.mp hy))⟩
noncomputable def cls (n : Nat) (f : Int→Int) : Nat:=((List.range n).filter (first f)).length
theorem first_ex (f : Int→Int) : ∀ (m a : Nat),a≤m→∃ x : Nat,x≤a∧f x = f a∧first f x = true
 | 0,a,h=>⟨a,Nat.le_refl _,rfl,(first_iff f a).mpr fun y hy=>by lia⟩
 | m + 1,a,h=>by
  by_cases hf : first f a = true
  ·exact ⟨a,Nat.le_refl _,rfl,hf⟩
  ·have : ∃ y : Nat,y < a∧f y = f a:=Classical.byContradiction fun hc=>hf ((first_iff f a).mpr fun y hy e=>hc ⟨y,hy,e⟩)
   refine bc fun ζ=>?_
   obtain ⟨y,hy,e⟩:=this
   obtain ⟨x,h1,h2,h3⟩:=first_ex f m y (by lia)
   apply ζ;clear ζ
   exact ⟨x,by lia,h2.trans e,h3⟩
theorem cls_pos (n : Nat) (f : Int→Int) (hn : 1≤n) : 1≤cls n f:=by
 unfold cls
 have : (0 : Nat)∈(List.range n).filter (first f):=List.mem_filter.mpr ⟨List.mem_range.mpr (by lia),(first_iff f 0).mpr fun y hy=>by lia⟩
 exact List.length_pos_of_mem this
theorem cls_le (n : Nat) (f : Int→Int) : cls n f≤n:=by
 unfold cls
 have:=List.length_filter_le (first f) (List.range n)
 rw [List.length_range] at this
 exact this
theorem cls_mgf (n : Nat) (f : Int→Int) (a b : Int) (a0 : 0≤a) (a1 : a < n) (b0 : 0≤b) (b1 : b < n) (h : f a≠f b) : cls n (mgf f a b) + 1≤cls n f:=by
 have up : ∀ x y : Int,f x = f y→mgf f a b x = mgf f a b y:=fun x y e=>by unfold mgf; rw [e]
 have ab : mgf f a b a = mgf f a b b:=by unfold mgf; rw [if_neg h,if_pos rfl]
 have ca : ((a.toNat : Nat) : Int) = a:=by lia
 have cb : ((b.toNat : Nat) : Int) = b:=by lia
 refine bc fun ζ=>?_
 obtain ⟨x,x1,x2,x3⟩:=first_ex f a.toNat a.toNat (Nat.le_refl _)
 obtain ⟨y,y1,y2,y3⟩:=first_ex f b.toNat b.toNat (Nat.le_refl _)
 apply ζ;clear ζ
 rw [ca] at x2
 rw [cb] at y2
 have mxy : mgf f a b x = mgf f a b y:=((up _ _ x2).trans ab).trans (up _ _ y2).symm
 have ne : x≠y:=fun e=>by
  subst e
  exact h (x2.symm.trans y2)
 unfold cls
 refine filter_lt (first f) (first (mgf f a b)) (List.range n) (fun z _ hz=>(first_iff f z).mpr fun u hu e=>(first_iff _ z).mp hz u hu (up _ _ e)) ?_
 rcases Nat.lt_or_gt_of_ne ne with l | l
 ·refine ⟨y,List.mem_range.mpr (by lia),y3,?_⟩
  cases hq : first (mgf f a b) y with
  | false=>rfl
  | true=>exact absurd mxy ((first_iff _ y).mp hq x l)
 ·refine ⟨x,List.mem_range.mpr (by lia),x3,?_⟩
  cases hq : first (mgf f a b) x with
  | false=>rfl
  | true=>exact absurd mxy.symm ((first_iff _ x).mp hq y l)
noncomputable def tot (n : Nat) (gs : List (Int→Int)) : Nat:=(gs.map (cls n)).sum
theorem tot_set (n : Nat) : ∀ (gs : List (Int→Int)) (j : Nat) (f g : Int→Int),gs[j]? = some f→cls n g + 1≤cls n f→tot n (gs.set j g) + 1≤tot n gs
 | [],_,_,_,h,_=>by simp at h
 | e :: gs,0,f,g,h,hc=>by cases h; simp [tot]; lia
 | e :: gs,j + 1,f,g,h,hc=>by
  have:=tot_set n gs j f g h hc
  simp only [tot,List.set_cons_succ,List.map_cons,List.sum_cons] at this ⊢
  lia
theorem tot_ge (n : Nat) (hn : 1≤n) : ∀ gs : List (Int→Int),gs.length≤tot n gs
 | []=>Nat.zero_le _
 | g :: gs=>by
  have:=tot_ge n hn gs
  have:=cls_pos n g hn
  simp only [tot,List.map_cons,List.sum_cons,List.length_cons] at *
  lia
theorem tot_le (n : Nat) : ∀ gs : List (Int→Int),tot n gs≤gs.length * n
 | []=>by simp [tot]
 | g :: gs=>by
  have:=tot_le n gs
  have:=cls_le n g
  simp only [tot,List.map_cons,List.sum_cons,List.length_cons,Nat.succ_mul] at *
  lia
noncomputable def keep (r : List Tie) (ms : List Int) : List Tie:=((r.zip ms).filter fun p=>decide (0 < p.2)).map (·.1)
theorem keep_cons (t : Tie) (m : Int) (r : List Tie) (ms : List Int) : keep (t :: r) (m :: ms) = if 0 < m then t :: keep r ms else keep r ms:=by
 unfold keep
 rw [List.zip_cons_cons,List.filter_cons]
 by_cases h : 0 < m <;> simp [h]
theorem layers_ex (n k : Nat) : ∀ (r : List Tie) (ms : List Int),Ends n r→AllNum k r ms→∃ gs,InvG k gs r ms∧tot n gs + (keep r ms).length≤k * n
 | [],[],_,_=>⟨List.replicate k fun x=>x,⟨by simp,fun j f hf=>by
   have hm:=List.eq_of_mem_replicate (List.mem_of_getElem? hf)
   subst hm
   exact tells_nil⟩,by
   have:=tot_le n (List.replicate k fun x=>x)
   rw [List.length_replicate] at this
   simpa [keep] using this⟩
 | t :: r,m :: ms,he,ha=>by
  refine bc fun ζ=>?_
  obtain ⟨a0,a1,b0,b1⟩:=he t List.mem_cons_self
  obtain ⟨gs,hi,ht⟩:=layers_ex n k r ms (fun u hu=>he u (List.mem_cons_of_mem _ hu)) ha.1
  apply ζ;clear ζ
  have hm : m = leastF t.a t.b 0 gs:=ha.2.uniq (hi.num t)
  refine ⟨stepG gs t,by rw [hm]; exact hi.step t,?_⟩
  rw [keep_cons]
  unfold stepG
  rw [← hm]
  by_cases h0 : 0 < m
  ·rw [if_pos h0,if_pos h0]
   rcases leastF_spec t.a t.b gs 0 with ⟨h1,_⟩ | ⟨j,f,h1,h2,h3,_⟩
   ·lia
   ·have ej : (m - 1).toNat = j:=by lia
    rw [ej]
    have eg : (gs.getD j fun x=>x) = f:=by rw [List.getD_eq_getElem?_getD,h1]; rfl
    rw [eg]
    have:=tot_set n gs j f (mgf f t.a t.b) h1 (cls_mgf n f t.a t.b a0 a1 b0 b1 h3)
    rw [List.length_cons]
    lia
  ·rw [if_neg h0,if_neg h0]
   exact ht
 | [],_ :: _,_,h=>h.elim
 | _ :: _,[],_,h=>h.elim
theorem keep_few (n k : Nat) (hn : 1≤n) (r : List Tie) (ms : List Int) (he : Ends n r) (ha : AllNum k r ms) : ((keep r ms).length : Int)≤(k : Int) * ((n : Int) - 1):=by
 refine bc fun ζ=>?_
 obtain ⟨gs,hi,ht⟩:=layers_ex n k r ms he ha
 apply ζ;clear ζ
 have:=tot_ge n hn gs
 rw [hi.1] at this
 have e : (k : Int) * ((n : Int) - 1) = ((k * n : Nat) : Int) - k:=by
  rw [Int.mul_sub,Int.mul_one]
  push_cast
  rfl
 rw [e]
 lia
noncomputable def zE (x : Tie×Int) : Dat:=.tup [tieD x.1,.int x.2]
theorem zip_enc : ∀ (r : List Tie) (ms : List Int),zipD (r.map tieD) (ms.map Dat.int) = (r.zip ms).map zE
 | [],_=>by simp [zipD]
 | _ :: _,[]=>by simp [zipD]
 | t :: r,m :: ms=>by rw [List.map_cons,List.map_cons,zipD,zip_enc r ms,List.zip_cons_cons,List.map_cons]; rfl
theorem We.ZipF (r : List Tie) (ms : List Int) (p : Tie×Int→Bool) {it : FI} {k : Nat} {t : FT} {ρ ρ1 : Env} {Q : Val→Env→Prop} (q : Q (.new (recD (((r.zip ms).filter p).map (·.1)))) ρ1) (hit : it ρ = some (zipD (r.map tieD) (ms.map Dat.int),ρ1)) (hk : ρ1.length = k) (hk0 : k≠0) (hl : r.length≤SZ)
  (ht : ∀ x : Tie×Int,Wt t (ρ1 ++ [.sh (tieD x.1),.sh (.int x.2)]) fun c ρ'=>c = p x∧ρ' = ρ1 ++ [.sh (tieD x.1),.sh (.int x.2)]) : We (eComp it 2 (bT [k,k + 1]) t (eV k)) ρ Q:=by
 have b : ∀ (x : Tie×Int) (c1 c2 : Cell),bT [k,k + 1] (zE x) (ρ1 ++ [c1,c2]) = some (ρ1 ++ [.sh (tieD x.1),.sh (.int x.2)]):=fun x c1 c2=>by
  show sets [k,k + 1] [tieD x.1,.int x.2] _ = _
  rw [sets,if_neg hk0,sets,if_neg (by lia),sets]
  rw [List.set_append_right _ _ (by lia),List.set_append_right _ _ (by lia)]
  subst hk
  rw [Nat.sub_self,show ρ1.length + 1 - ρ1.length = 1 by lia]
  rfl
 refine We.CompG zE (r.zip ms) p (fun x=>x.1) tieD (fun x=>(ρ1 ++ [Cell.sh (tieD x.1),Cell.sh (.int x.2)] : Env)) (own:=2) (bd:=bT [k,k + 1]) (Q:=Q) q (by rw [hit,zip_enc]) (fun x=>b x .un .un) (fun x y=>b x (.sh (tieD y.1)) (.sh (.int y.2))) (fun x=>List.take_left) (by rw [List.length_zip]; lia) (fun x _=>ht x) (fun x _ _=>?_)
 refine We.v (d:=tieD x.1) ?_ (Wk.val ⟨rfl,rfl⟩)
 rw [List.getElem?_append_right (by lia),hk,Nat.sub_self]
 rfl
theorem eq_rec (r : List Tie) : eqD (recD r) (recD r) = true:=by
 unfold recD
 rw [eqD]
 induction r with
 | nil=>rfl
 | cons b bs ih =>
  rw [List.map_cons,eqDs,ih]
  simp [tieD,eqD,eqDs]
theorem ok_rec (r : List Tie) : okD 8 (recD r) = true:=okMap tieD r fun t=>rfl
theorem Wg2.neSame {d : Dat} {o p : Option Dat} {Q : RV→Prop} (hk : okD 8 d = true) (he : eqD d d = true) (k : Q (.val (.bl false))) (ho : o = some d) (hp : p = some d) : Wg2 gNe o p Q :=
 ⟨_,_,_,ho,hp,by unfold gNe; rw [hk,he]; rfl,k⟩
noncomputable def netD (n k : Nat) (r : List Tie) : Dat:=.tup [.int (n : Nat),.int (k : Nat),recD r]
theorem keep_comp {ρ ρ1 : Env} {it : FI} {k : Nat} (r : List Tie) (ms : List Int) {Q : Val→Env→Prop} (q : Q (.new (recD (keep r ms))) ρ1) (hit : it ρ = some (zipD (r.map tieD) (ms.map Dat.int),ρ1)) (hk : ρ1.length = k) (hk0 : k≠0) (hl : r.length≤SZ) : We (eComp it 2 (bT [k,k + 1]) (tV (e2 gGt (eV (k + 1)) (eC (.int 0)))) (eV k)) ρ Q:=by
 refine We.ZipF r ms (fun p=>decide (0 < p.2)) q hit hk hk0 hl fun x=>?_
 refine Wt.V (We.e2 (We.v (d:=.int x.2) ?_ (We.c (Wg2.gt (Wb.mk ⟨rfl,rfl⟩) rfl rfl))))
 rw [List.getElem?_append_right (by lia),hk]
 simp
theorem net_ok (n k : Nat) (hn : n≤10) (hk1 : 1≤k) (hk6 : k≤6) (r : List Tie) (ms : List Int) (hr : Ends n r) (hl : r.length≤1000) (ha : AllNum k r ms) : f_z20 [.int (n : Nat),recD r,.int (k : Nat)] = some (.val (netD n k (keep r ms))):=by
 refine bc fun ζ=>?_
 obtain ⟨ms',el,al⟩:=layered_ok n k hn hk1 hk6 r hr hl
 apply ζ;clear ζ
 rw [al.uniq ha] at el
 apply Wr.eq
 unfold f_z20
 (refine _d.Wr.fn ?_ rfl rfl; dsimp only [List.map,List.replicate,List.cons_append,List.nil_append])
 refine Ws.seq (Ws.A (We.F (Was.cons (We.v rfl (Was.cons (We.v rfl (Was.cons (We.v rfl (Was.nil (WF.box el ?_ rfl rfl rfl rfl)))))))) ) (by decide))
 refine WA.new ?_ (by first | (dsimp only [List.set]; first | done | rfl) | rfl)
 refine Ws.R (We.T (Was.cons (We.v rfl (Was.cons (We.v rfl (Was.cons (keep_comp (ρ1:=[.sh (.int (n : Nat)),.sh (recD r),.sh (.int (k : Nat)),.sh (.lst (ms.map Dat.int))]) r ms (k:=4) ?_ ?_ rfl (by decide) (Nat.le_trans hl (by decide)))))))))
 ·exact Was.nil (WT.mk rfl rfl rfl (Nat.le_of_ble_eq_true rfl))
 ·rfl
theorem con_cross {ts : List Tie} {a b : Int} (S : Int→Int) (c : Con ts a b) (h : S a≠S b) : ∃ t∈ts,S t.a≠S t.b:=by
 apply Classical.byContradiction
 intro hc
 have all : ∀ t∈ts,S t.a = S t.b:=fun t ht=>Classical.byContradiction fun z=>hc ⟨t,ht,z⟩
 have key : ∀ {x y : Int},Con ts x y→S x = S y:=fun c=>by
  induction c with
  | refl x=>rfl
  | tie t m=>exact all t m
  | symm _ ih=>exact ih.symm
  | trans _ _ i1 i2=>exact i1.trans i2
 exact h (key c)
theorem all_nums : ∀ (k : Nat) (l : List (Tie×Int)),(∀ j : Int,1≤j→j≤k→∃ p∈l,p.2 = j)→k≤l.length
 | 0,l,_=>Nat.zero_le _
 | k + 1,l,h=>by
  refine bc fun ζ=>?_
  obtain ⟨p,hp,ep⟩:=h ((k + 1 : Nat) : Int) (by lia) (by lia)
  apply ζ;clear ζ
  have ih:=all_nums k (l.filter fun p=>decide (p.2≠((k + 1 : Nat) : Int))) fun j j1 j2=>by
   refine bc fun ζ=>?_
   obtain ⟨q,hq,eq⟩:=h j j1 (by lia)
   apply ζ;clear ζ
   exact ⟨q,List.mem_filter.mpr ⟨hq,decide_eq_true (by lia)⟩,eq⟩
  have:=filter_lt (fun _=>true) (fun p : Tie×Int=>decide (p.2≠((k + 1 : Nat) : Int))) l (fun _ _ _=>rfl) ⟨p,hp,rfl,by simp [ep]⟩
  have:=List.length_filter_le (fun _ : Tie×Int=>true) l
  lia
noncomputable def overL (S : Int→Int) (t : Int) (r : List Tie) : List Tie:=r.filter fun x=>decide (t≤x.m) && decide (S x.a≠S x.b)
theorem lay_mem {r : List Tie} {ms : List Int} {j : Int} {t : Tie} (h : t∈lay r ms j) : (t,j)∈r.zip ms:=by
 unfold lay at h
 obtain ⟨q,hq,rfl⟩:=List.mem_map.mp h
 obtain ⟨h1,h2⟩:=List.mem_filter.mp hq
 have : q.2 = j:=of_decide_eq_true h2
 rw [← this]
 exact h1
theorem side_kept (k : Nat) (n : Int) (S : Int→Int) (t0 : Int) : ∀ (r : List Tie) (ms : List Int) (lo : Int),Good n lo r→AllNum k r ms→overL S t0 (keep r ms) = overL S t0 r∨k≤(overL S t0 (keep r ms)).length
 | [],[],_,_,_=>.inl rfl
 | t :: r,m :: ms,lo,hg,ha=>by
  refine bc fun ζ=>?_
  obtain ⟨g1,g2,g3,g4,g5⟩:=hg
  apply ζ;clear ζ
  rcases side_kept k n S t0 r ms (t.m + 1) g5 ha.1 with ih | ih
  ·rw [keep_cons]
   by_cases h0 : 0 < m
   ·rw [if_pos h0]
    left
    unfold overL at ih ⊢
    rw [List.filter_cons,List.filter_cons,ih]
   ·rw [if_neg h0]
    by_cases hc : (decide (t0≤t.m) && decide (S t.a≠S t.b)) = true
    ·right
     rw [Bool.and_eq_true,decide_eq_true_eq,decide_eq_true_eq] at hc
     have hm : ∀ j : Int,1≤j→j≤k→Con (lay r ms j) t.a t.b:=by
      rcases ha.2 with ⟨_,h⟩ | ⟨h1,_⟩
      ·exact h
      ·lia
     have e : overL S t0 (keep r ms) = ((r.zip ms).filter fun p=>decide (0 < p.2) && (decide (t0≤p.1.m) && decide (S p.1.a≠S p.1.b))).map (·.1):=by
      unfold overL keep
      rw [List.filter_map,List.filter_filter]
      congr 2
      funext p
      simp [Bool.and_comm]
     rw [e,List.length_map]
     refine all_nums k _ fun j j1 j2=>?_
     refine bc fun ζ=>?_
     obtain ⟨u,hu,hs⟩:=con_cross S (hm j j1 j2) hc.2
     apply ζ;clear ζ
     have hz:=lay_mem hu
     have hur : u∈r:=(List.of_mem_zip hz).1
     have:=Good.lo g5 u hur
     refine ⟨(u,j),List.mem_filter.mpr ⟨hz,?_⟩,rfl⟩
     simp only [Bool.and_eq_true,decide_eq_true_eq]
     exact ⟨by lia,by lia,hs⟩
    ·left
     have hf : (decide (t0≤t.m) && decide (S t.a≠S t.b)) = false:=by cases hq : (decide (t0≤t.m) && decide (S t.a≠S t.b)) with | false=>rfl | true=>exact absurd hq hc
     unfold overL at ih ⊢
     rw [List.filter_cons,hf,ih]
     simp
  ·right
   rw [keep_cons]
   by_cases h0 : 0 < m
   ·rw [if_pos h0]
    unfold overL at ih ⊢
    rw [List.filter_cons]
    split
    ·rw [List.length_cons]; lia
    ·exact ih
   ·rw [if_neg h0]; exact ih
 | [],_ :: _,_,_,h=>h.elim
 | _ :: _,[],_,_,h=>h.elim
theorem lay_keep : ∀ (r : List Tie) (ms : List Int) (j : Int),1≤j→lay (keep r ms) (ms.filter fun m=>decide (0 < m)) j = lay r ms j∨r.length≠ms.length
 | [],[],_,_=>.inl rfl
 | [],_ :: _,_,_=>.inr (by simp)
 | _ :: _,[],_,_=>.inr (by simp)
 | t :: r,m :: ms,j,hj=>by
  rcases lay_keep r ms j hj with ih | ih
  ·left
   rw [keep_cons,lay_cons]
   by_cases h : 0 < m
   ·rw [if_pos h,List.filter_cons_of_pos (by simpa using h),lay_cons,ih]
   ·rw [if_neg h,List.filter_cons_of_neg (by simpa using h),ih,if_neg (by lia)]
  ·right
   simpa using ih
theorem keep_net {k : Int} : ∀ {r : List Tie} {ms : List Int},AllNum k r ms→AllNum k (keep r ms) (ms.filter fun m=>decide (0 < m))
 | [],[],_=>trivial
 | t :: r,m :: ms,h=>by
  have ih:=keep_net h.1
  rw [keep_cons]
  by_cases q : 0 < m
  ·rw [if_pos q,List.filter_cons_of_pos (by simpa using q)]
   refine ⟨ih,?_⟩
   have e : ∀ j,1≤j→lay (keep r ms) (ms.filter fun m=>decide (0 < m)) j = lay r ms j:=fun j hj=>by
    rcases lay_keep r ms j hj with z | z
    ·exact z
    ·exact absurd h.1.len.symm z
   rcases h.2 with ⟨h0,_⟩ | ⟨h1,h2,h3,h4⟩
   ·lia
   ·exact .inr ⟨h1,h2,by rw [e m h1]; exact h3,fun j j1 j2=>by rw [e j j1]; exact h4 j j1 j2⟩
  ·rw [if_neg q,List.filter_cons_of_neg (by simpa using q)]
   exact ih
 | [],_ :: _,h=>h.elim
 | _ :: _,[],h=>h.elim
theorem keep_sub : ∀ (r : List Tie) (ms : List Int),(keep r ms).Sublist r
 | [],ms=>by unfold keep; simp
 | _ :: _,[]=>by unfold keep; simp
 | t :: r,m :: ms=>by
  rw [keep_cons]
  split
  ·exact (keep_sub r ms).cons_cons t
  ·exact (keep_sub r ms).cons t
theorem tie_ext {t u : Tie} (h1 : t.m = u.m) (h2 : t.a = u.a) (h3 : t.b = u.b) : t = u:=by
 cases t; cases u; simp only at h1 h2 h3; rw [h1,h2,h3]
instance : DecidableEq Tie:=fun t u=>if h : t.m = u.m∧t.a = u.a∧t.b = u.b then .isTrue (tie_ext h.1 h.2.1 h.2.2) else .isFalse fun e=>h (by rw [e]; exact ⟨rfl,rfl,rfl⟩)
noncomputable def Shows (k : Nat) (K r : List Tie) : Prop:=∀ (S : Int→Int) (t : Int),overL S t K = overL S t r∨k≤(overL S t K).length
theorem sub_pick : ∀ {r L : List Tie},L.Sublist r→r.Nodup→L = r.filter fun t=>decide (t∈L)
 | _,_,.slnil,_=>rfl
 | _,_,.cons (l₁:=L) (l₂:=r) a h,nd=>by
  obtain ⟨n1,n2⟩:=List.nodup_cons.mp nd
  have ha : a ∉ L:=fun z=>n1 (h.subset z)
  rw [List.filter_cons_of_neg (by simpa using ha)]
  exact sub_pick h n2
 | _,_,.cons_cons (l₁:=L) (l₂:=r) a h,nd=>by
  obtain ⟨n1,n2⟩:=List.nodup_cons.mp nd
  rw [List.filter_cons_of_pos (by simp)]
  congr 1
  have:=sub_pick h n2
  refine Eq.trans this (List.filter_congr fun t ht=>?_)
  have : t≠a:=fun z=>n1 (z ▸ ht)
  simp [this]
theorem place_ok (n i : Int) (h0 : 0≤i) (h1 : i < n) : f_z3 [.int n,.int i] = some (.val (.bl true)):=by
 apply Wr.eq
 unfold f_z3
 (refine _d.Wr.fn ?_ rfl rfl; dsimp only [List.map,List.replicate,List.cons_append,List.nil_append])
 refine Ws.R (We.F (Was.cons (We.v rfl (Was.cons (We.c (Was.cons (We.e2 (We.v rfl (We.c (Wg2.sub ?_ rfl rfl))))))))))
 exact Was.nil (WF.val (within_ok i 0 (n - 1) h0 (by lia)) rfl rfl rfl)
theorem moment_ok (m : Int) (h0 : 0≤m) (h1 : m≤Z30) : f_z5 [.int m] = some (.val (.bl true)):=by
 apply Wr.eq
 unfold f_z5
 (refine _d.Wr.fn ?_ rfl rfl; dsimp only [List.map,List.replicate,List.cons_append,List.nil_append])
 refine Ws.R (We.F (Was.cons (We.v rfl (Was.cons (We.c (Was.cons (We.e2 (We.c (We.c (Wg2.pow (z:=Z30) ?_ rfl rfl (by decide) (by decide)))))))))))
 exact Was.nil (WF.val (within_ok m 0 Z30 h0 h1) rfl rfl rfl)
theorem either_ok (n : Int) (t : Tie) (m0 : 0≤t.m) (m1 : t.m≤Z30) (a0 : 0≤t.a) (a1 : t.a < n) (b0 : 0≤t.b) (b1 : t.b < n) : f_z6 [.int n,tieD t] = some (.val (.bl true)):=by
 apply Wr.eq
 unfold f_z6 tieD
 (refine _d.Wr.fn ?_ rfl rfl; dsimp only [List.map,List.replicate,List.cons_append,List.nil_append])
 refine _d.Ws.seq ?_;refine _d.Ws.If ?_;refine _d.Wt.Or ?_;refine _d.Wt.Not ?_;refine _d.Wt.V ?_;refine _d.We.e1 ?_;apply _d.We.v;rfl;refine _d.Wg1.mk ?_ rfl rfl;refine _d.Wb.mk ?_
 refine Wif.no rfl ?_
 refine _d.Wt.V ?_;refine _d.We.e2 ?_;refine _d.We.B ?_;refine _d.Was.cons ?_;apply _d.We.v;rfl;refine _d.Was.nil ?_;refine _d.WB.lenT ?_ rfl;refine _d.We.c ?_;refine _d.Wg2.ne ?_ rfl rfl;refine _d.Wb.mk ?_
 refine Wif.no rfl ?_
 refine _d.Ws.nx ?_;refine _d.Ws.R ?_;refine _d.We.And ?_;refine _d.We.F ?_;refine _d.Was.cons ?_;refine _d.We.e2 ?_;apply _d.We.v;rfl;refine _d.We.c ?_;refine _d.Wg2.ix ?_ rfl rfl rfl;refine _d.Was.nil ?_
 refine WF.val (moment_ok t.m m0 m1) ?_ rfl rfl
 refine _d.Wb.mk ?_;refine _d.Wif.t ?_;refine _d.We.And ?_;refine _d.We.F ?_;refine _d.Was.cons ?_;apply _d.We.v;rfl;refine _d.Was.cons ?_;refine _d.We.e2 ?_;apply _d.We.v;rfl;refine _d.We.c ?_;refine _d.Wg2.ix ?_ rfl rfl rfl;refine _d.Was.nil ?_
 refine WF.val (place_ok n t.a a0 a1) ?_ rfl rfl
 refine _d.Wb.mk ?_;refine _d.Wif.t ?_;refine _d.We.F ?_;refine _d.Was.cons ?_;apply _d.We.v;rfl;refine _d.Was.cons ?_;refine _d.We.e2 ?_;apply _d.We.v;rfl;refine _d.We.c ?_;refine _d.Wg2.ix ?_ rfl rfl rfl;refine _d.Was.nil ?_
 refine WF.val (place_ok n t.b b0 b1) ?_ rfl rfl
 ((refine _d.WR.val ?_))
 rfl
theorem is_tie_ok (n : Int) (t : Tie) (m0 : 0≤t.m) (m1 : t.m≤Z30) (a0 : 0≤t.a) (ab : t.a≤t.b) (b1 : t.b < n) : f_z7 [.int n,tieD t] = some (.val (.bl true)):=by
 apply Wr.eq
 unfold f_z7
 (refine _d.Wr.fn ?_ rfl rfl; dsimp only [List.map,List.replicate,List.cons_append,List.nil_append])
 refine _d.Ws.R ?_;refine _d.We.And ?_;refine _d.We.F ?_;refine _d.Was.cons ?_;apply _d.We.v;rfl;refine _d.Was.cons ?_;apply _d.We.v;rfl;refine _d.Was.nil ?_
 refine WF.val (either_ok n t m0 m1 a0 (by lia) (by lia) b1) ?_ rfl rfl
 refine _d.Wb.mk ?_;refine _d.Wif.t ?_;refine _d.We.e2 ?_;refine _d.We.e2 ?_;apply _d.We.v;rfl;refine _d.We.c ?_;refine _d.Wg2.ix ?_ rfl rfl rfl;refine _d.We.e2 ?_;apply _d.We.v;rfl;refine _d.We.c ?_;refine _d.Wg2.ix ?_ rfl rfl rfl;refine _d.Wg2.le ?_ rfl rfl;refine _d.WR.val ?_
 exact congrArg (fun b=>RV.val (Dat.bl b)) (decide_eq_true ab)
noncomputable def l3 (t : Tie) : List Int:=[t.m,t.a,t.b]
theorem l3_inj {t u : Tie} (h : l3 t = l3 u) : t = u:=by
 cases t; cases u
 unfold l3 at h
 injection h with h1 h2
 injection h2 with h2 h3
 injection h3 with h3
 cases h1; cases h2; cases h3
 rfl
theorem recD_l3 (r : List Tie) : recD r = .lst ((r.map l3).map tupN):=by
 unfold recD
 rw [List.map_map]
 rfl
theorem lx_heads {x y : Int} {s t : List Int} (h : x < y) : lx (y :: t) (x :: s) = false:=by
 rw [lx,if_neg (by lia)]
 exact decide_eq_false (by lia)
theorem lx_sorted (l : List (List Int)) : (isort lx l).Pairwise fun a b=>lx b a = false:=isort_sorted (fun a b c h1 h2=>by
  cases h : lx c a
  ·rfl
  ·rcases lx_neg c b a h with z | z
   ·rw [z] at h2; cases h2
   ·rw [z] at h1; cases h1) (fun a b h=>by
  cases h' : lx b a
  ·rfl
  ·have:=lx_trans a b a h h'
   rw [lx_irrefl] at this; cases this) l
theorem lx_self {l m : List (List Int)} (p : l.Perm m) (h : l.Pairwise fun a b=>lx b a = false) : isort lx m = l :=
 sorted_uniq (lt:=lx) lx_total ((isort_perm _ m).trans p.symm) (lx_sorted m) h
theorem tupsD_map : ∀ (nss : List (List Int)),(∀ ns∈nss,ns≠[])→tupsD (nss.map tupN) = some nss
 | [],_=>rfl
 | ns :: nss,h=>by
  rw [List.map_cons]
  unfold tupN
  rw [tupsD,intsD_map']
  dsimp only
  have : ns.isEmpty = false:=by
   cases ns with
   | nil=>exact absurd rfl (h [] List.mem_cons_self)
   | cons _ _=>rfl
  rw [this]
  simp only [Bool.false_eq_true,if_false]
  have ih:=tupsD_map nss fun x hx=>h x (List.mem_cons_of_mem _ hx)
  unfold tupN at ih
  rw [ih]
  rfl
theorem perm_ext {α : Type} [DecidableEq α] {l m : List α} (h1 : l.Nodup) (h2 : m.Nodup) (h : ∀ x,x∈l↔x∈m) : l.Perm m:=by
 rw [List.perm_iff_count]
 intro a
 rw [h1.count,h2.count]
 by_cases q : a∈l
 ·rw [if_pos q,if_pos ((h a).mp q)]
 ·rw [if_neg q,if_neg fun z=>q ((h a).mpr z)]
theorem dedupT_go : ∀ (ns acc : List (List Int)),acc.Nodup→(ns.foldl (fun acc x=>if acc.any (· == x) then acc else acc ++ [x]) acc).Nodup∧∀ y,y∈ns.foldl (fun acc x=>if acc.any (· == x) then acc else acc ++ [x]) acc↔y∈acc∨y∈ns
 | [],acc,h=>⟨h,fun y=>by simp⟩
 | x :: ns,acc,h=>by
  rw [List.foldl_cons]
  by_cases q : x∈acc
  ·rw [if_pos (List.any_eq_true.mpr ⟨x,q,by simp⟩)]
   obtain ⟨a,b⟩:=dedupT_go ns acc h
   refine ⟨a,fun y=>(b y).trans ⟨fun z=>z.imp id (List.mem_cons_of_mem _),fun z=>?_⟩⟩
   rcases z with z | z
   ·exact .inl z
   ·rcases List.mem_cons.mp z with rfl | z
    ·exact .inl q
    ·exact .inr z
  ·rw [if_neg fun z=>by
    refine bc fun ζ=>?_
    obtain ⟨y,hy,e⟩:=List.any_eq_true.mp z
    apply ζ;clear ζ
    have : y = x:=by simpa using e
    exact q (this ▸ hy)]
   obtain ⟨a,b⟩:=dedupT_go ns (acc ++ [x]) (List.nodup_append.mpr ⟨h,by simp,fun u hu v hv e=>by rw [List.mem_singleton.mp hv] at e; exact q (e ▸ hu)⟩)
   refine ⟨a,fun y=>(b y).trans ?_⟩
   simp only [List.mem_append,List.mem_cons,List.not_mem_nil,or_false]
   exact ⟨fun z=>by rcases z with (z | z) | z; exact .inl z; exact .inr (.inl z); exact .inr (.inr z),fun z=>by rcases z with z | z | z; exact .inl (.inl z); exact .inl (.inr z); exact .inr z⟩
theorem dedupT_ok (ns : List (List Int)) : (dedupT ns).Nodup∧∀ y,y∈dedupT ns↔y∈ns:=by
 obtain ⟨a,b⟩:=dedupT_go ns [] List.nodup_nil
 exact ⟨a,fun y=>(b y).trans (by simp)⟩
noncomputable abbrev Rise (D : List Tie) : Prop:=D.Pairwise fun t u=>t.m < u.m
theorem Rise.nodup {D : List Tie} (h : Rise D) : (D.map l3).Nodup:=by
 refine List.pairwise_map.mpr (h.imp fun {t u} q z=>?_)
 have:=l3_inj z
 subst this
 lia
theorem Rise.sorted {D : List Tie} (h : Rise D) : (D.map l3).Pairwise fun a b=>lx b a = false:=by
 refine List.pairwise_map.mpr (h.imp fun {t u} q=>?_)
 exact lx_heads q
theorem set_perm {D T : List Tie} (h : Rise D) (e : ∀ t,t∈D↔t∈T) : (D.map l3).Perm (dedupT (T.map l3)):=by
 obtain ⟨d1,d2⟩:=dedupT_ok (T.map l3)
 refine perm_ext h.nodup d1 fun x=>?_
 rw [d2,List.mem_map,List.mem_map]
 exact ⟨fun ⟨t,a,b⟩=>⟨t,(e t).mp a,b⟩,fun ⟨t,a,b⟩=>⟨t,(e t).mpr a,b⟩⟩
theorem Wg1.sortsetT {D T : List Tie} {o : Option Dat} {K : RV→Prop} (h : Rise D) (e : ∀ t,t∈D↔t∈T) (hl : D.length≤63) (k : K (.new (recD D))) (ho : o = some (recD T)) : Wg1 gSortSetT o K:=⟨_,_,ho,by
 rw [recD_l3]
 unfold gSortSetT
 dsimp only
 rw [tupsD_map _ fun ns hn=>by obtain ⟨t,_,rfl⟩:=List.mem_map.mp hn; exact List.cons_ne_nil _ _]
 dsimp only
 have p:=set_perm h e
 rw [if_pos (by rw [← p.length_eq,List.length_map]; exact hl),lx_self p h.sorted,← recD_l3],k⟩
theorem ups_one (n : Nat) : ups 1 n = (List.range n).map fun i : Nat=>Dat.int (1 + (i : Int)):=rfl
theorem clash_ok (D : List Tie) (h : Rise D) (hl : D.length≤75) : f_z16 [recD D] = some (.val .non):=by
 apply Wr.eq
 unfold f_z16
 (refine _d.Wr.fn ?_ rfl rfl; dsimp only [List.map,List.replicate,List.cons_append,List.nil_append])
 refine Ws.For ?_
 refine _d.Wi.R2 ?_;refine _d.We.c ?_;refine _d.Wint.mk ?_;refine _d.We.B ?_;refine _d.Was.cons ?_;apply _d.We.v;rfl;refine _d.Was.nil ?_;refine _d.WB.len ?_ rfl;refine _d.Wint.mk ?_
 refine ⟨?_,?_⟩
 rotate_left
 ·rw [List.length_map]; unfold BIG; lia
 rw [ups_one,List.length_map]
 refine Ws.inv (fun i : Nat=>Dat.int (1 + (i : Int))) _ _ (List.range ((D.length : Int) - 1).toNat) _ _ _ _ _ (fun _ _ ρ=>∃ c,ρ = [.sh (recD D),c]) ⟨_,rfl⟩ ?_ ?_
 ·intro p i q ρ e zP5
  obtain ⟨c,rfl⟩:=zP5
  refine _d.bind_go rfl (by first | (dsimp only [List.set]; first | done | rfl) | rfl) ?_
  have hi : i < ((D.length : Int) - 1).toNat:=by
   have : i∈List.range ((D.length : Int) - 1).toNat:=by rw [e]; simp
   exact List.mem_range.mp this
  unfold b0_z16
  refine _d.Ws.If ?_;refine _d.Wt.V ?_;refine _d.We.e2 ?_;refine _d.We.e2 ?_;refine _d.We.e2 ?_;apply _d.We.v;rfl;refine _d.We.e2 ?_;apply _d.We.v;rfl;refine _d.We.c ?_;refine _d.Wg2.sub ?_ rfl rfl
  refine Wg2.ixL (enc:=tieD) (xs:=D) (i:=1 + (i : Int) - 1) (by lia) (by lia) ?_ rfl rfl
  refine _d.We.c ?_;refine _d.Wg2.ix ?_ rfl rfl rfl;refine _d.We.e2 ?_;refine _d.We.e2 ?_;apply _d.We.v;rfl;apply _d.We.v;rfl
  refine Wg2.ixL (enc:=tieD) (xs:=D) (i:=1 + (i : Int)) (by lia) (by lia) ?_ rfl rfl
  refine _d.We.c ?_;refine _d.Wg2.ix ?_ rfl rfl rfl;refine _d.Wg2.eq ?_ rfl rfl;refine _d.Wb.mk ?_
  have lt:=List.pairwise_iff_getElem.mp h (1 + (i : Int) - 1).toNat (1 + (i : Int)).toNat (by lia) (by lia) (by lia)
  refine Wif.no (decide_eq_false (by lia)) ?_
  refine _d.Ws.nx ?_
  exact ⟨_,rfl⟩
 ·intro ρ zP1
  obtain ⟨c,rfl⟩:=zP1
  rfl
theorem is_places_ok (n : Int) (h1 : 1≤n) (h2 : n≤10) : f_z2 [.int n] = some (.val (.bl true)):=by
 apply Wr.eq
 unfold f_z2
 (refine _d.Wr.fn ?_ rfl rfl; dsimp only [List.map,List.replicate,List.cons_append,List.nil_append])
 refine _d.Ws.R ?_;refine _d.We.F ?_;refine _d.Was.cons ?_;apply _d.We.v;rfl;refine _d.Was.cons ?_;refine _d.We.c ?_;refine _d.Was.cons ?_;refine _d.We.c ?_;refine _d.Was.nil ?_
 refine WF.val (within_ok n 1 10 h1 h2) ?_ rfl rfl
 ((refine _d.WR.val ?_))
 rfl
theorem is_layers_ok (n : Int) (h1 : 1≤n) (h2 : n≤6) : f_z4 [.int n] = some (.val (.bl true)):=by
 apply Wr.eq
 unfold f_z4
 (refine _d.Wr.fn ?_ rfl rfl; dsimp only [List.map,List.replicate,List.cons_append,List.nil_append])
 refine _d.Ws.R ?_;refine _d.We.F ?_;refine _d.Was.cons ?_;apply _d.We.v;rfl;refine _d.Was.cons ?_;refine _d.We.c ?_;refine _d.Was.cons ?_;refine _d.We.c ?_;refine _d.Was.nil ?_
 refine WF.val (within_ok n 1 6 h1 h2) ?_ rfl rfl
 ((refine _d.WR.val ?_))
 rfl
theorem rising_ok (D : List Tie) (h : Rise D) (hl : D.length≤75) : f_z8 [.lst ((D.map (·.m)).map Dat.int)] = some (.val (.bl true)):=by
 have sz : 1000≤SZ:=by decide
 apply Wr.eq
 unfold f_z8
 (refine _d.Wr.fn ?_ rfl rfl; dsimp only [List.map,List.replicate,List.cons_append,List.nil_append])
 refine Ws.R (We.B (Was.cons ?_))
 have hit : iR2 (eC (.int 1)) (eB gLen [eV 0]) [.sh (.lst ((D.map (·.m)).map Dat.int))] = some ((List.range ((D.length : Int) - 1).toNat).map (fun i : Nat=>Dat.int (1 + (i : Int))),[.sh (.lst ((D.map (·.m)).map Dat.int))]):=by
  refine Wi.get ?_
  refine _d.Wi.R2 ?_;refine _d.We.c ?_;refine _d.Wint.mk ?_;refine _d.We.B ?_;refine _d.Was.cons ?_;apply _d.We.v;rfl;refine _d.Was.nil ?_;refine _d.WB.lenI (enc:=_d.Dat.int) ?_ rfl;refine _d.Wint.mk ?_
  refine ⟨⟨?_,rfl⟩,?_⟩
  ·rw [ups_one,List.length_map]
  ·rw [List.length_map]; unfold BIG; lia
 refine We.Map (fun i : Nat=>Dat.int (1 + (i : Int))) (List.range ((D.length : Int) - 1).toNat) (fun _=>true) Dat.bl ?_ hit rfl (by decide) (by simp; lia) (fun i hi=>?_)
 ·refine Was.nil (WB.all (fun b=>b) (xs:=(List.range ((D.length : Int) - 1).toNat).map fun _=>true) ?_ rfl)
  exact WR.val (congrArg (fun b=>RV.val (Dat.bl b)) (by simp))
 ·have hi':=List.mem_range.mp hi
  refine _d.We.e2 ?_;refine _d.We.e2 ?_;apply _d.We.v;rfl;refine _d.We.e2 ?_;apply _d.We.v;rfl;refine _d.We.c ?_;refine _d.Wg2.sub ?_ rfl rfl
  refine Wg2.ixL (enc:=Dat.int) (xs:=D.map (·.m)) (i:=1 + (i : Int) - 1) (by lia) (by rw [List.length_map]; lia) ?_ rfl rfl
  refine _d.We.e2 ?_;apply _d.We.v;rfl;apply _d.We.v;rfl
  refine Wg2.ixL (enc:=Dat.int) (xs:=D.map (·.m)) (i:=1 + (i : Int)) (by lia) (by rw [List.length_map]; lia) ?_ rfl rfl
  ((refine _d.Wg2.lt ?_ rfl rfl); (refine _d.Wk.val ?_))
  have lt:=List.pairwise_iff_getElem.mp h (1 + (i : Int) - 1).toNat (1 + (i : Int)).toNat (by lia) (by lia) (by lia)
  refine ⟨congrArg Dat.bl (decide_eq_true ?_),rfl⟩
  rw [List.getElem_map,List.getElem_map]
  exact lt
structure Rcd (n : Nat) (r : List Tie) : Prop where
 ok : ∀ t∈r,0≤t.m∧t.m≤Z30∧0≤t.a∧t.a≤t.b∧t.b < n
 up : Rise r
 len : r.length≤60
theorem Rcd.sub {n : Nat} {r q : List Tie} (h : Rcd n r) (s : q.Sublist r) : Rcd n q:=⟨fun t ht=>h.ok t (s.subset ht),h.up.sublist s,Nat.le_trans s.length_le h.len⟩
theorem Rcd.ends {n : Nat} {r : List Tie} (h : Rcd n r) : Ends n r:=fun t ht=>by
 obtain ⟨h1,h2,h3,h4,h5⟩:=h.ok t ht
 exact ⟨h3,by lia,by lia,h5⟩
theorem Rcd.nodup {n : Nat} {r : List Tie} (h : Rcd n r) : r.Nodup:=h.up.imp fun {t u} q e=>by rw [e] at q; lia
theorem Rcd.good {n : Nat} {r : List Tie} (h : Rcd n r) : Good n 0 r:=by
 have go : ∀ (r : List Tie) (lo : Int),(∀ t∈r,0≤t.a∧t.a≤t.b∧t.b < (n : Nat))→(∀ t∈r,lo≤t.m)→Rise r→Good n lo r:=fun r=>by
  induction r with
  | nil=>intro lo _ _ _; trivial
  | cons t r ih =>
   intro lo h1 h2 h3
   obtain ⟨p1,p2⟩:=List.pairwise_cons.mp h3
   obtain ⟨q1,q2,q3⟩:=h1 t List.mem_cons_self
   exact ⟨h2 t List.mem_cons_self,q1,q2,q3,ih (t.m + 1) (fun u hu=>h1 u (List.mem_cons_of_mem _ hu)) (fun u hu=>by have:=p1 u hu; lia) p2⟩
 exact go r 0 (fun t ht=>(h.ok t ht).2.2) (fun t ht=>(h.ok t ht).1) h.up
theorem is_record_ok (n : Nat) (n1 : 1≤n) (n10 : n≤10) (r : List Tie) (h : Rcd n r) : f_z18 [.int (n : Nat),recD r] = some (.val (.bl true)):=by
 have sz : 1000≤SZ:=by decide
 have hl:=h.len
 apply Wr.eq
 unfold f_z18
 (refine _d.Wr.fn ?_ rfl rfl; dsimp only [List.map,List.replicate,List.cons_append,List.nil_append])
 refine _d.Ws.seq ?_;refine _d.Ws.If ?_;refine _d.Wt.Or ?_;refine _d.Wt.Not ?_;refine _d.Wt.V ?_;refine _d.We.F ?_;refine _d.Was.cons ?_;apply _d.We.v;rfl;refine _d.Was.nil ?_
 refine WF.val (is_places_ok n (by lia) (by lia)) ?_ rfl rfl
 ((refine _d.Wb.mk ?_))
 refine Wif.no rfl ?_
 refine _d.Wt.Or ?_;refine _d.Wt.Not ?_;refine _d.Wt.V ?_;refine _d.We.e1 ?_;apply _d.We.v;rfl;refine _d.Wg1.mk ?_ rfl rfl;refine _d.Wb.mk ?_
 refine Wif.no rfl ?_
 refine _d.Wt.V ?_;refine _d.We.e2 ?_;refine _d.We.B ?_;refine _d.Was.cons ?_;apply _d.We.v;rfl;refine _d.Was.nil ?_;refine _d.WB.len ?_ rfl;refine _d.We.c ?_;refine _d.Wg2.gt ?_ rfl rfl;refine _d.Wb.mk ?_
 refine Wif.no (decide_eq_false (by rw [List.length_map]; lia)) ?_
 refine _d.Ws.nx ?_;refine _d.Ws.seq ?_;refine _d.Ws.If ?_;refine _d.Wt.Not ?_;refine _d.Wt.V ?_;refine _d.We.B ?_;refine _d.Was.cons ?_
 refine We.MapS tieD r (fun _=>true) Dat.bl ?_ rfl rfl rfl (by decide) (by lia) (fun t ht=>?_)
 rotate_left
 ·refine bc fun ζ=>?_
  obtain ⟨h1,h2,h3,h4,h5⟩:=h.ok t ht
  apply ζ;clear ζ
  refine _d.We.F ?_;refine _d.Was.cons ?_;apply _d.We.v;rfl;refine _d.Was.cons ?_;apply _d.We.v;rfl;refine _d.Was.nil ?_
  refine WF.val (is_tie_ok n t h1 h2 h3 h4 h5) ?_ rfl rfl
  ((refine _d.Wk.val ?_))
  exact ⟨rfl,rfl⟩
 refine _d.Was.nil ?_
 refine WB.all (fun b=>b) (xs:=r.map fun _=>true) ?_ rfl
 ((refine _d.Wb.mk ?_))
 refine Wif.no (by simp) ?_
 refine _d.Ws.nx ?_;refine _d.Ws.R ?_;refine _d.We.F ?_;refine _d.Was.cons ?_
 refine We.MapS tieD r (·.m) Dat.int ?_ rfl rfl rfl (by decide) (by lia) (fun t ht=>?_)
 rotate_left
 ·refine _d.We.e2 ?_;apply _d.We.v;rfl;refine _d.We.c ?_;refine _d.Wg2.ix ?_ rfl rfl rfl;refine _d.Wk.val ?_
  exact ⟨rfl,rfl⟩
 refine _d.Was.nil ?_
 refine WF.val (rising_ok r h.up (by lia)) ?_ rfl rfl
 ((refine _d.WR.val ?_))
 rfl
structure Net (n k : Nat) (N : List Tie) : Prop where
 rc : Rcd n N
 num : ∃ ms,AllNum k N ms∧(0 : Int) ∉ ms
theorem is_net_ok (n k : Nat) (n1 : 1≤n) (n10 : n≤10) (k1 : 1≤k) (k6 : k≤6) (N : List Tie) (h : Net n k N) : f_z19 [netD n k N] = some (.val (.bl true)):=by
 have hl:=h.rc.len
 obtain ⟨ms,el,al⟩:=layered_ok n k n10 k1 k6 N h.rc.ends (by lia)
 obtain ⟨ms',al',h0⟩:=h.num
 rw [al'.uniq al] at h0
 apply Wr.eq
 unfold f_z19 netD
 (refine _d.Wr.fn ?_ rfl rfl; dsimp only [List.map,List.replicate,List.cons_append,List.nil_append])
 refine _d.Ws.seq ?_;refine _d.Ws.If ?_;refine _d.Wt.Or ?_;refine _d.Wt.Not ?_;refine _d.Wt.V ?_;refine _d.We.e1 ?_;apply _d.We.v;rfl;refine _d.Wg1.mk ?_ rfl rfl;refine _d.Wb.mk ?_
 refine Wif.no rfl ?_
 refine _d.Wt.V ?_;refine _d.We.e2 ?_;refine _d.We.B ?_;refine _d.Was.cons ?_;apply _d.We.v;rfl;refine _d.Was.nil ?_;refine _d.WB.lenT ?_ rfl;refine _d.We.c ?_;refine _d.Wg2.ne ?_ rfl rfl;refine _d.Wb.mk ?_
 refine Wif.no rfl ?_
 refine _d.Ws.nx ?_;refine _d.Ws.seq ?_;refine _d.Ws.If ?_;refine _d.Wt.Or ?_;refine _d.Wt.Not ?_;refine _d.Wt.V ?_;refine _d.We.F ?_;refine _d.Was.cons ?_;refine _d.We.e2 ?_;apply _d.We.v;rfl;refine _d.We.c ?_;refine _d.Wg2.ix ?_ rfl rfl rfl;refine _d.Was.nil ?_
 refine WF.val (is_layers_ok k (by lia) (by lia)) ?_ rfl rfl
 ((refine _d.Wb.mk ?_))
 refine Wif.no rfl ?_
 refine _d.Wt.Not ?_;refine _d.Wt.V ?_;refine _d.We.F ?_;refine _d.Was.cons ?_;refine _d.We.e2 ?_;apply _d.We.v;rfl;refine _d.We.c ?_;refine _d.Wg2.ix ?_ rfl rfl rfl;refine _d.Was.cons ?_;refine _d.We.e2 ?_;apply _d.We.v;rfl;refine _d.We.c ?_;refine _d.Wg2.ix ?_ rfl rfl rfl;refine _d.Was.nil ?_
 refine WF.val (is_record_ok n n1 n10 N h.rc) ?_ rfl rfl
 ((refine _d.Wb.mk ?_))
 refine Wif.no rfl ?_
 refine _d.Ws.nx ?_;refine _d.Ws.R ?_;refine _d.We.e2 ?_;refine _d.We.c ?_;refine _d.We.F ?_;refine _d.Was.cons ?_;refine _d.We.e2 ?_;apply _d.We.v;rfl;refine _d.We.c ?_;refine _d.Wg2.ix ?_ rfl rfl rfl;refine _d.Was.cons ?_;refine _d.We.e2 ?_;apply _d.We.v;rfl;refine _d.We.c ?_;refine _d.Wg2.ix ?_ rfl rfl rfl;refine _d.Was.cons ?_;refine _d.We.e2 ?_;apply _d.We.v;rfl;refine _d.We.c ?_;refine _d.Wg2.ix ?_ rfl rfl rfl;refine _d.Was.nil ?_
 refine WF.box el ?_ rfl rfl rfl (by first | (dsimp only [List.set]; first | done | rfl) | rfl)
 skip
 refine Wg2.ninL (xs:=ms) ?_ rfl rfl
 ((refine _d.WR.val ?_))
 exact congrArg (fun b=>RV.val (Dat.bl b)) (by simp [h0])
theorem look_places_ok (n : Int) (n1 : 1≤n) (n10 : n≤10) : f_z9 [.int n] = some (.val .non):=by
 apply Wr.eq
 unfold f_z9
 (refine _d.Wr.fn ?_ rfl rfl; dsimp only [List.map,List.replicate,List.cons_append,List.nil_append])
 refine _d.Ws.If ?_;refine _d.Wt.Not ?_;refine _d.Wt.V ?_;refine _d.We.F ?_;refine _d.Was.cons ?_;apply _d.We.v;rfl;refine _d.Was.nil ?_
 refine WF.val (is_places_ok n n1 n10) ?_ rfl rfl
 ((refine _d.Wb.mk ?_))
 refine Wif.no rfl ?_
 refine _d.Ws.nx ?_
 rfl
noncomputable def ordT (t : Tie) : Tie:=⟨t.m,if t.b < t.a then t.b else t.a,if t.b > t.a then t.b else t.a⟩
noncomputable def trn (t : Tie) : Tie:=⟨t.m,t.b,t.a⟩
theorem ord_self {t : Tie} (h : t.a≤t.b) : ordT t = t:=by
 cases t with
 | mk m a b =>
  have h : a≤b:=h
  unfold ordT
  dsimp only
  congr 1
  ·rw [if_neg (by lia)]
  ·split <;> lia
theorem ord_trn (t : Tie) : ordT (trn t) = ordT t:=by
 unfold ordT trn
 dsimp only
 congr 1
 ·split <;> split <;> lia
 ·split <;> split <;> lia
theorem ord_cases (t : Tie) : t = ordT t∨t = trn (ordT t):=by
 cases t with
 | mk m a b =>
  unfold ordT trn
  dsimp only
  by_cases h : b < a
  ·right
   rw [if_pos h,if_neg (by lia)]
  ·left
   rw [if_neg h]
   congr 1
   split <;> lia
theorem put_ok (t : Tie) : f_z15 [tieD t] = some (.val (tieD (ordT t))):=by
 apply Wr.eq
 unfold f_z15
 (refine _d.Wr.fn ?_ rfl rfl; dsimp only [List.map,List.replicate,List.cons_append,List.nil_append])
 ((with_reducible refine _d.Ws.R ?_); (with_reducible refine _d.We.T ?_); (with_reducible refine _d.Was.cons ?_); (with_reducible refine _d.We.e2 ?_); ((with_reducible apply _d.We.v); (focus rfl)); (with_reducible refine _d.We.c ?_); (refine _d.Wg2.ix ?_ rfl rfl rfl); (with_reducible refine _d.Was.cons ?_); (with_reducible refine _d.We.B ?_); (with_reducible refine _d.Was.cons ?_); (with_reducible refine _d.We.e2 ?_); ((with_reducible apply _d.We.v); (focus rfl)); (with_reducible refine _d.We.c ?_); (refine _d.Wg2.ix ?_ rfl rfl rfl); (with_reducible refine _d.Was.cons ?_); (with_reducible refine _d.We.e2 ?_); ((with_reducible apply _d.We.v); (focus rfl)); (with_reducible refine _d.We.c ?_); (refine _d.Wg2.ix ?_ rfl rfl rfl); (with_reducible refine _d.Was.nil ?_); (refine _d.WB.min2 ?_ rfl); (with_reducible refine _d.Was.cons ?_); (with_reducible refine _d.We.B ?_); (with_reducible refine _d.Was.cons ?_); (with_reducible refine _d.We.e2 ?_); ((with_reducible apply _d.We.v); (focus rfl)); (with_reducible refine _d.We.c ?_); (refine _d.Wg2.ix ?_ rfl rfl rfl); (with_reducible refine _d.Was.cons ?_); (with_reducible refine _d.We.e2 ?_); ((with_reducible apply _d.We.v); (focus rfl)); (with_reducible refine _d.We.c ?_); (refine _d.Wg2.ix ?_ rfl rfl rfl); (with_reducible refine _d.Was.nil ?_); (refine _d.WB.max2 ?_ rfl); (with_reducible refine _d.Was.nil ?_); (refine _d.WT.mk ?_ rfl (by first | (dsimp only [List.set]; first | done | rfl) | rfl) (by exact Nat.le_of_ble_eq_true rfl)); (refine _d.WR.val ?_))
 rfl
structure Tok (n : Int) (T : List Tie) : Prop where
 ok : ∀ t∈T,0≤t.m∧t.m≤Z30∧0≤t.a∧t.a < n∧0≤t.b∧t.b < n
 len : T.length≤1000
theorem record_of_ok (n : Int) (n1 : 1≤n) (n10 : n≤10) (T D : List Tie) (hT : Tok n T) (h : Rise D) (e : ∀ t,t∈D↔t∈T.map ordT) (hl : D.length≤60) : f_z17 [.int n,recD T] = some (.new (recD D)):=by
 have sz : 1000≤SZ:=by decide
 have tl:=hT.len
 apply Wr.eq
 unfold f_z17
 (refine _d.Wr.fn ?_ rfl rfl; dsimp only [List.map,List.replicate,List.cons_append,List.nil_append])
 refine _d.Ws.seq ?_;refine _d.Ws.E ?_;refine _d.We.F ?_;refine _d.Was.cons ?_;apply _d.We.v;rfl;refine _d.Was.nil ?_
 refine WF.val (look_places_ok n n1 n10) ?_ rfl rfl
 refine _d.Ws.seq ?_;refine _d.Ws.If ?_;refine _d.Wt.Or ?_;refine _d.Wt.Not ?_;refine _d.Wt.V ?_;refine _d.We.e1 ?_;apply _d.We.v;rfl;refine _d.Wg1.mk ?_ rfl rfl;refine _d.Wb.mk ?_
 refine Wif.no rfl ?_
 refine _d.Wt.Not ?_;refine _d.Wt.V ?_;refine _d.We.B ?_;refine _d.Was.cons ?_
 refine We.MapS tieD T (fun _=>true) Dat.bl ?_ rfl rfl rfl (by decide) (by lia) (fun t ht=>?_)
 rotate_left
 ·refine bc fun ζ=>?_
  obtain ⟨h1,h2,h3,h4,h5,h6⟩:=hT.ok t ht
  apply ζ;clear ζ
  refine _d.We.F ?_;refine _d.Was.cons ?_;apply _d.We.v;rfl;refine _d.Was.cons ?_;apply _d.We.v;rfl;refine _d.Was.nil ?_
  refine WF.val (either_ok n t h1 h2 h3 h4 h5 h6) ?_ rfl rfl
  ((refine _d.Wk.val ?_))
  exact ⟨rfl,rfl⟩
 refine _d.Was.nil ?_
 refine WB.all (fun b=>b) (xs:=T.map fun _=>true) ?_ rfl
 ((refine _d.Wb.mk ?_))
 refine Wif.no (by simp) ?_
 refine _d.Ws.nx ?_;refine _d.Ws.seq ?_;refine _d.Ws.A ?_ (by decide);refine _d.We.e1 ?_
 refine We.MapS tieD T ordT tieD ?_ rfl rfl rfl (by decide) (by lia) (fun t ht=>?_)
 rotate_left
 ·refine _d.We.F ?_;refine _d.Was.cons ?_;apply _d.We.v;rfl;refine _d.Was.nil ?_
  refine WF.box (put_ok t) ?_ rfl rfl rfl (by first | (dsimp only [List.set]; first | done | rfl) | rfl)
  ((refine _d.Wk.val ?_))
  exact ⟨rfl,rfl⟩
 refine Wg1.sortsetT h e (by lia) ?_ rfl
 ((refine _d.WA.new ?_ (by first | (dsimp only [List.set]; first | done | rfl) | rfl)); (with_reducible refine _d.Ws.seq ?_); (with_reducible refine _d.Ws.If ?_); (with_reducible refine _d.Wt.V ?_); (with_reducible refine _d.We.e2 ?_); (with_reducible refine _d.We.B ?_); (with_reducible refine _d.Was.cons ?_); ((with_reducible apply _d.We.w); (focus rfl)); (with_reducible refine _d.Was.nil ?_); (refine _d.WB.len ?_ rfl); (with_reducible refine _d.We.c ?_); (refine _d.Wg2.gt ?_ rfl rfl); (refine _d.Wb.mk ?_))
 refine Wif.no (decide_eq_false (by rw [List.length_map]; lia)) ?_
 refine _d.Ws.nx ?_;refine _d.Ws.seq ?_;refine _d.Ws.E ?_;refine _d.We.F ?_;refine _d.Was.cons ?_;apply _d.We.w;rfl;refine _d.Was.nil ?_
 refine WF.val (clash_ok D h (by lia)) ?_ rfl rfl
 refine _d.Ws.R ?_;apply _d.We.w;rfl;refine _d.WR.slot ?_ rfl
 rfl
theorem We.PopAt {i : Nat} {e : FE} {ρ : Env} {ds0 : List Dat} {Q : Val→Env→Prop} (h : We e ρ fun v ρ1=>Wint v fun j=>∃ ds d ρ2,ρ1[i]? = some (.ow (.lst ds))∧(0≤j∧j≤BIG)∧ds[j.toNat]? = some d∧ρ1.set i (.ow (.lst (ds.eraseIdx j.toNat))) = ρ2∧Q (.val d) ρ2) (h0 : ρ[i]? = some (.ow (.lst ds0))) : We (ePopAt i e) ρ Q:=by
 refine bc fun ζ=>?_
 obtain ⟨v,ρ1,h1,j,rfl,ds,d,ρ2,h2,h3,h4,h5,q⟩:=h
 apply ζ;clear ζ
 refine ⟨_,_,?_,q⟩
 unfold ePopAt
 rw [h0]
 dsimp only
 rw [h1]
 dsimp only
 rw [h2]
 dsimp only
 rw [if_pos h3,h4]
 dsimp only
 rw [h5]
theorem ups_enc (n : Nat) : ups 0 n = (List.range n).map fun i : Nat=>Dat.int ((i : Nat) : Int):=by
 unfold ups
 apply List.map_congr_left
 intro i _
 simp
theorem eq_tie (u t : Tie) : eqD (tieD u) (tieD t) = decide (u = t):=by
 rw [Bool.eq_iff_iff,decide_eq_true_iff]
 unfold tieD
 simp [eqD,eqDs]
 constructor
 ·intro zP0
  refine bc fun ζ=>?_
  obtain ⟨h1,h2,h3⟩:=zP0
  exact ζ (tie_ext h1 h2 h3)
 ·intro h
  rw [h]
  exact ⟨rfl,rfl,rfl⟩
theorem in_tie (t : Tie) (K : List Tie) : inD (tieD t) (K.map tieD) = decide (t∈K):=by
 induction K with
 | nil=>rfl
 | cons u K ih =>
  unfold inD at ih ⊢
  rw [List.map_cons,List.any_cons,ih]
  by_cases h : t = u
  ·subst h; simp [eq_tie]
  ·have h' : ¬ u = t:=fun z=>h z.symm
   simp [eq_tie,h,h']
theorem all_tie (K : List Tie) : (K.map tieD).all (okD 7) = true:=by
 rw [List.all_map]
 exact List.all_eq_true.mpr fun t _=>rfl
theorem Wg2.inTie {t : Tie} {K : List Tie} {o p : Option Dat} {Q : RV→Prop} (k : Q (.val (.bl (decide (t∈K))))) (ho : o = some (tieD t)) (hp : p = some (recD K)) : Wg2 gIn o p Q :=
 ⟨_,_,_,ho,hp,by unfold recD gIn; dsimp only; rw [all_tie,in_tie]; rfl,k⟩
theorem erase_map {α β : Type} (f : α→β) : ∀ (l : List α) (j : Nat),(l.map f).eraseIdx j = (l.eraseIdx j).map f
 | [],_=>rfl
 | _ :: _,0=>rfl
 | x :: l,j + 1=>by
  show f x :: (l.map f).eraseIdx j = f x :: (l.eraseIdx j).map f
  rw [erase_map f l j]
theorem mem_erase : ∀ (L : List Tie) (j : Nat) (h : j < L.length),L.Nodup→∀ t,t∈L.eraseIdx j↔t∈L∧t≠L[j]
 | x :: l,0,h,nd,t=>by
  obtain ⟨n1,_⟩:=List.nodup_cons.mp nd
  show t∈l↔t∈x :: l∧t≠x
  rw [List.mem_cons]
  exact ⟨fun z=>⟨.inr z,fun e=>n1 (e ▸ z)⟩,fun z=>z.1.resolve_left z.2⟩
 | x :: l,j + 1,h,nd,t=>by
  obtain ⟨n1,n2⟩:=List.nodup_cons.mp nd
  have hj : j < l.length:=by simpa using h
  have ih:=mem_erase l j hj n2 t
  show t∈x :: l.eraseIdx j↔t∈x :: l∧t≠l[j]
  rw [List.mem_cons,List.mem_cons,ih]
  constructor
  ·rintro (z | ⟨z1,z2⟩)
   ·refine ⟨.inl z,fun e=>n1 ?_⟩
    rw [← z,e]
    exact List.getElem_mem _
   ·exact ⟨.inr z1,z2⟩
  ·rintro ⟨z1 | z1,z2⟩
   ·exact .inl z1
   ·exact .inr ⟨z1,z2⟩
theorem Ws.Par {i j : Nat} {as : List FE} {ρ : Env} {N : Env→Prop} {R : RV→Env→Prop} {B C : Env→Prop} (h : Was as ρ fun xs ρ1=>∃ d e ρ2 ρ3,tks ρ1 xs = some ([d,e],ρ2)∧(ρ2.set i (.sh d)).set j (.sh e) = ρ3∧N ρ3) (h0 : ¬ (i = 0∨j = 0)) : Ws (sPar i j as) ρ N R B C:=by
 refine bc fun ζ=>?_
 obtain ⟨xs,ρ1,h1,d,e,ρ2,ρ3,h2,h3,n⟩:=h
 apply ζ;clear ζ
 refine ⟨.nx ρ3,?_,n⟩
 unfold sPar
 rw [h1]
 dsimp only
 rw [h2]
 dsimp only
 rw [if_neg h0,h3]
noncomputable def over (S : List Int) (t : Tie) : Bool:=decide (t.a∈S) != decide (t.b∈S)
noncomputable def rimF (r : List Tie) (S : List Int) : List Int:=(r.filter (over S)).map (·.m)
theorem rim_ok (r : List Tie) (hl : r.length≤60) (S : List Int) : f_z11 [recD r,.tup (S.map Dat.int)] = some (.new (.lst ((rimF r S).map Dat.int))):=by
 apply Wr.eq
 unfold f_z11
 (refine _d.Wr.fn ?_ rfl rfl; dsimp only [List.map,List.replicate,List.cons_append,List.nil_append])
 refine _d.Ws.R ?_
 refine We.SelS3 tieD r (over S) (·.m) Dat.int (fun t=>.int t.m) (fun t=>.int t.a) (fun t=>.int t.b) (fun _=>rfl) ?_ rfl rfl rfl (by decide) (by simp [SZ]; lia) (fun t _=>?_) (fun t _ _=>?_)
 ·((refine _d.WR.new ?_))
  rfl
 ·refine _d.Wt.V ?_;refine _d.We.e2 ?_;refine _d.We.e2 ?_;apply _d.We.v;rfl;apply _d.We.v;rfl
  refine Wg2.inT (xs:=S) ?_ rfl rfl
  refine _d.We.e2 ?_;apply _d.We.v;rfl;apply _d.We.v;rfl
  refine Wg2.inT (xs:=S) ?_ rfl rfl
  ((refine _d.Wg2.neb ?_ rfl rfl); (refine _d.Wb.mk ?_))
  exact ⟨rfl,rfl⟩
 ·apply _d.We.v;rfl;refine _d.Wk.val ?_
  exact ⟨rfl,rfl⟩
theorem law_rim_ok (r : List Tie) (hl : r.length≤60) (S : List Int) : f_z26 [recD r,.tup (S.map Dat.int)] = some (.new (.lst ((rimF r S).map Dat.int))):=by
 have sz : 1000≤SZ:=by decide
 apply Wr.eq
 unfold f_z26
 (refine _d.Wr.fn ?_ rfl rfl; dsimp only [List.map,List.replicate,List.cons_append,List.nil_append])
 refine _d.Ws.R ?_
 refine We.SelS tieD r (over S) (·.m) Dat.int ?_ rfl rfl rfl (by decide) (by lia) (fun t _=>?_) (fun t _ _=>?_)
 ·((refine _d.WR.new ?_))
  rfl
 ·refine _d.Wt.V ?_;refine _d.We.e2 ?_;refine _d.We.e2 ?_;refine _d.We.e2 ?_;apply _d.We.v;rfl;refine _d.We.c ?_;refine _d.Wg2.ix ?_ rfl rfl rfl;apply _d.We.v;rfl
  refine Wg2.inT (xs:=S) ?_ rfl rfl
  refine _d.We.e2 ?_;refine _d.We.e2 ?_;apply _d.We.v;rfl;refine _d.We.c ?_;refine _d.Wg2.ix ?_ rfl rfl rfl;apply _d.We.v;rfl
  refine Wg2.inT (xs:=S) ?_ rfl rfl
  ((refine _d.Wg2.neb ?_ rfl rfl); (refine _d.Wb.mk ?_))
  exact ⟨rfl,rfl⟩
 ·refine _d.We.e2 ?_;apply _d.We.v;rfl;refine _d.We.c ?_;refine _d.Wg2.ix ?_ rfl rfl rfl;refine _d.Wk.val ?_
  exact ⟨rfl,rfl⟩
theorem since_ok (r : List Tie) (hl : r.length≤60) (t : Int) : f_z25 [recD r,.int t] = some (.new (recD (r.filter fun x=>decide (t≤x.m)))):=by
 have sz : 1000≤SZ:=by decide
 apply Wr.eq
 unfold f_z25
 (refine _d.Wr.fn ?_ rfl rfl; dsimp only [List.map,List.replicate,List.cons_append,List.nil_append])
 refine _d.Ws.R ?_
 refine We.CompS tieD r (fun x=>decide (t≤x.m)) tieD ?_ rfl rfl rfl (by decide) (by lia) (fun x _=>?_) (fun x _ _=>?_)
 ·((refine _d.WR.new ?_))
  rfl
 ·refine _d.Wt.V ?_;refine _d.We.e2 ?_;refine _d.We.e2 ?_;apply _d.We.v;rfl;refine _d.We.c ?_;refine _d.Wg2.ix ?_ rfl rfl rfl;apply _d.We.v;rfl;refine _d.Wg2.ge ?_ rfl rfl;refine _d.Wb.mk ?_
  exact ⟨rfl,rfl⟩
 ·apply _d.We.v;rfl;refine _d.Wk.val ?_
  exact ⟨rfl,rfl⟩
theorem pw2 (a b : Nat) (h : a≤b) : 2 ^ a≤2 ^ b:=Nat.pow_le_pow_right (by decide) h
theorem sides_ok (n : Nat) (n1 : 1≤n) (n10 : n≤10) : ∃ ss : List (List Int),f_z27 [.int (n : Nat)] = some (.new (.lst (ss.map tupN)))∧ss.length≤512:=by
 have sz : 2000≤SZ:=by decide
 suffices h : ∃ v,f_z27 [.int (n : Nat)] = some v∧∃ ss : List (List Int),v = .new (.lst (ss.map tupN))∧ss.length≤512 by
  obtain ⟨v,e,ss,rfl,h⟩:=h
  exact ⟨ss,e,h⟩
 apply Wr.get
 unfold f_z27
 (refine _d.Wr.fn ?_ rfl rfl; dsimp only [List.map,List.replicate,List.cons_append,List.nil_append])
 ((with_reducible refine _d.Ws.seq ?_); (with_reducible refine _d.Ws.A ?_ (by decide)); (with_reducible refine _d.We.L ?_); (with_reducible refine _d.Was.cons ?_); (with_reducible refine _d.We.T ?_); (with_reducible refine _d.Was.nil ?_); (refine _d.WT.mk ?_ rfl (by first | (dsimp only [List.set]; first | done | rfl) | rfl) (by exact Nat.le_of_ble_eq_true rfl)); (with_reducible refine _d.Was.nil ?_); (refine _d.WT.mk ?_ rfl (by first | (dsimp only [List.set]; first | done | rfl) | rfl) (by exact Nat.le_of_ble_eq_true rfl)); (refine _d.WA.new ?_ (by first | (dsimp only [List.set]; first | done | rfl) | rfl)); (with_reducible refine _d.Ws.seq ?_); (with_reducible refine _d.Ws.For ?_); (with_reducible refine _d.Wi.R2 ?_); (with_reducible refine _d.We.c ?_); (refine _d.Wint.mk ?_); ((with_reducible apply _d.We.v); (focus rfl)); (refine _d.Wint.mk ?_))
 refine ⟨?_,by unfold BIG; lia⟩
 have ue : ups 1 ((n : Int) - 1).toNat = (List.range (n - 1)).map fun i : Nat=>Dat.int (1 + (i : Int)):=by
  rw [show ((n : Int) - 1).toNat = n - 1 by lia]
  rfl
 rw [ue]
 refine Ws.inv (fun i : Nat=>Dat.int (1 + (i : Int))) _ _ (List.range (n - 1)) _ _ _ _ _ (fun p _ ρ=>∃ (ss : List (List Int)) (c2 : Cell),ss.length≤2 ^ p.length∧(∀ s∈ss,s.length≤p.length)∧ρ = [.sh (.int (n : Nat)),.ow (.lst (ss.map tupN)),c2]) ⟨[[]],_,by decide,fun s hs=>by rw [List.mem_singleton.mp hs]; exact Nat.le_refl _,rfl⟩ ?_ ?_
 ·rintro p i q ρ e ⟨ss,c2,hl,hs,rfl⟩
  refine _d.bind_go rfl (by first | (dsimp only [List.set]; first | done | rfl) | rfl) ?_
  have pl : p.length≤8:=by
   have:=congrArg List.length e
   simp at this
   lia
  have h8:=pw2 p.length 8 pl
  have h256 : 2 ^ 8 = 256:=by decide
  unfold b0_z27
  refine Ws.A (We.e2 (We.w rfl ?_)) (by decide)
  refine We.MapO tupN ss (fun s=>s ++ [1 + (i : Int)]) tupN ?_ rfl (by first | (dsimp only [List.set]; first | done | rfl) | rfl) rfl (by decide) (by lia) (fun s hm=>?_)
  rotate_left
  ·have:=hs s hm
   have ec : gCatU (tupN s) (.tup [.int (1 + (i : Int))]) = some (.val (tupN (s ++ [1 + (i : Int)]))):=by
    unfold tupN gCatU
    dsimp only
    rw [if_pos (by rw [List.length_map]; show s.length + 1≤SZ; lia),List.map_append]
    rfl
   ((with_reducible refine _d.We.e2 ?_); ((with_reducible apply _d.We.v); (focus rfl)); (with_reducible refine _d.We.T ?_); (with_reducible refine _d.Was.cons ?_); ((with_reducible apply _d.We.v); (focus rfl)); (with_reducible refine _d.Was.nil ?_); (refine _d.WT.mk ?_ rfl (by first | (dsimp only [List.set]; first | done | rfl) | rfl) (by exact Nat.le_of_ble_eq_true rfl)))
   refine ⟨_,_,_,rfl,rfl,ec,?_⟩
   ((refine _d.Wk.val ?_))
   exact ⟨rfl,rfl⟩
  refine Wg2.addL ?_ rfl rfl (by simp; lia)
  rw [← List.map_append]
  refine WA.new ⟨ss ++ ss.map fun s=>s ++ [1 + (i : Int)],.sh (.int (1 + (i : Int))),?_,fun s hm=>?_,rfl⟩ (by first | (dsimp only [List.set]; first | done | rfl) | rfl)
  ·rw [List.length_append,List.length_map,List.length_append,List.length_singleton,Nat.pow_succ]
   lia
  ·rw [List.length_append,List.length_singleton]
   rcases List.mem_append.mp hm with z | z
   ·have:=hs s z; lia
   ·obtain ⟨u,hu,rfl⟩:=List.mem_map.mp z
    have:=hs u hu
    simp
    lia
 ·rintro ρ ⟨ss,c2,hl,hs,rfl⟩
  rw [List.length_range] at hl
  have h9:=pw2 (n - 1) 9 (by lia)
  have h512 : 2 ^ 9 = 512:=by decide
  refine _d.Ws.R ?_;refine _d.We.Sl ?_;apply _d.We.w;rfl;refine _d.Wp.some ?_;refine _d.We.c ?_;refine _d.Wint.mk ?_;refine _d.Wp.none ?_;refine _d.Wsl.mk ?_ rfl;refine _d.WR.new ?_
  refine ⟨cutA ss (some 1) none,by rw [cut_A],?_⟩
  have:=cutA_len ss (some 1) none
  lia
structure TB (r L T : List Tie) (m : Nat) : Prop where
 mem : ∀ t,t∈T.map ordT↔t∈r∧t ∉ L
 len : T.length≤m
theorem told_ok (x : Int) (n : Nat) (r : List Tie) (hr : Rcd n r) : ∃ (T : List Tie) (x' : Int),f_z28 [poolD x,recD r] = some (.new (recD T),poolD x')∧TB r [] T 120:=by
 have sz : 1000≤SZ:=by decide
 have lr:=hr.len
 suffices hh : WrM (f_z28 [poolD x,recD r]) fun v d'=>∃ (T : List Tie) (x' : Int),v = .new (recD T)∧d' = poolD x'∧TB r [] T 120 by
  refine bc fun ζ=>?_
  obtain ⟨v,d',h1,T,x',rfl,rfl,h2⟩:=hh
  exact ζ (⟨T,x',h1,h2⟩)
 unfold f_z28
 refine WrM.fn ?_ rfl rfl
 dsimp only [List.map,List.replicate,List.cons_append,List.nil_append]
 refine Ws.cut (fun ρ=>ρ = [.ow (poolD x),.sh (recD r),.ow (recD r),.un,.un,.un,.un,.un]) ?_ ?_
 ·((with_reducible refine _d.Ws.A ?_ (by decide)); (with_reducible refine _d.We.B ?_); (with_reducible refine _d.Was.cons ?_); ((with_reducible apply _d.We.v); (focus rfl)); (with_reducible refine _d.Was.nil ?_); (refine _d.WB.list ?_ rfl); (refine _d.WA.new ?_ (by first | (dsimp only [List.set]; first | done | rfl) | rfl)))
  rfl
 rintro ρ rfl
 refine Ws.cut (fun ρ=>ρ = [.ow (poolD x),.sh (recD r),.ow (recD r),.ow (recD []),.un,.un,.un,.un]) ?_ ?_
 ·((with_reducible refine _d.Ws.A ?_ (by decide)); (with_reducible refine _d.We.L ?_); (with_reducible refine _d.Was.nil ?_); (refine _d.WT.mk ?_ rfl (by first | (dsimp only [List.set]; first | done | rfl) | rfl) (by exact Nat.le_of_ble_eq_true rfl)); (refine _d.WA.new ?_ (by first | (dsimp only [List.set]; first | done | rfl) | rfl)))
  rfl
 rintro ρ rfl
 refine Ws.seq (Ws.For (Wi.R1 (We.B (Was.cons (We.v rfl (Was.nil (WB.lenI (enc:=tieD) (xs:=r) (Wint.mk ⟨?_,by unfold BIG; lia,by unfold BIG; lia⟩) rfl)))))))
 rw [Int.toNat_natCast,ups_enc]
 refine Ws.inv (fun i : Nat=>Dat.int ((i : Nat) : Int)) _ _ (List.range r.length) _ _ _ _ _ (fun p q ρ=>∃ (L T : List Tie) (x : Int) (c4 c5 c6 c7 : Cell),ρ = [.ow (poolD x),.sh (recD r),.ow (recD L),.ow (recD T),c4,c5,c6,c7]∧L.Sublist r∧L.length = q.length∧TB r L T (2 * p.length)) ⟨r,[],x,_,_,_,_,rfl,List.Sublist.refl r,by simp,⟨fun t=>by simp,Nat.le_refl _⟩⟩ ?_ ?_
 ·intro p i q ρ e zP5
  refine bc fun ζ=>?_
  obtain ⟨L,T,x,c4,c5,c6,c7,rfl,sL,lL,hT⟩:=zP5
  apply ζ;clear ζ
  rw [List.length_cons] at lL
  have lT:=hT.len
  have pl : p.length≤59:=by
   have:=congrArg List.length e
   simp at this
   lia
  refine _d.bind_go rfl (by first | (dsimp only [List.set]; first | done | rfl) | rfl) ?_
  unfold b0_z28
  refine Ws.k fun KL hKL=>?_
  refine Ws.cut (fun ρ=>∃ (c : Tie) (L' : List Tie) (x1 : Int),c∈L∧L'.Sublist r∧L'.length = q.length∧(∀ t,t∈L'↔t∈L∧t≠c)∧ρ = [.ow (poolD x1),.sh (recD r),.ow (recD L'),.ow (recD T),.sh (.int (i : Nat)),.sh (.int c.m),.sh (.int c.a),.sh (.int c.b)]) ?_ ?_
  ·refine Ws.U (We.PopAt (We.take (We.B (Was.cons (We.w rfl (Was.nil (WB.lenI (enc:=tieD) (xs:=L) (Wint.mk (take_go ?_ rfl rfl (by lia) (by have:=sL.length_le; unfold B200; lia))) rfl))))) rfl) rfl)
   have hj:=emod_in x (L.length : Int) (by lia)
   generalize x % (L.length : Int) = j at hj
   generalize x / (L.length : Int) = x1
   have jl : j.toNat < L.length:=by lia
   refine Wint.mk ⟨L.map tieD,tieD L[j.toNat],_,rfl,⟨hj.1,by unfold BIG; have:=sL.length_le; lia⟩,?_,rfl,?_⟩
   ·rw [List.getElem?_map,List.getElem?_eq_getElem jl]
    rfl
   rw [erase_map]
   refine Wk.val ⟨_,_,rfl,rfl,L[j.toNat],L.eraseIdx j.toNat,x1,List.getElem_mem _,(List.eraseIdx_sublist ..).trans sL,?_,mem_erase L _ jl (hr.nodup.sublist sL),rfl⟩
   rw [List.length_eraseIdx_of_lt jl]
   lia
  intro ρ zP1
  refine bc fun ζ=>?_
  obtain ⟨c,L',x1,cL,sL',lL',mL',rfl⟩:=zP1
  apply ζ;clear ζ
  have cr : c∈r:=sL.subset cL
  have cab:=(hr.ok c cr).2.2.2.1
  refine Ws.cut (fun ρ=>∃ (u : Tie) (x2 : Int),ordT u = c∧ρ = [.ow (poolD x2),.sh (recD r),.ow (recD L'),.ow (recD T),.sh (.int (i : Nat)),.sh (.int u.m),.sh (.int u.a),.sh (.int u.b)]) ?_ ?_
  ·refine Ws.If (Wt.V (We.e2 ?_))
   refine We.drw (m:=2) rfl (by decide) (by decide) rfl fun t x2 t0 t1 ρ3 e=>?_
   subst e
   refine We.c (Wg2.eq (Wb.mk (Wif.dec (fun _=>?_) (fun _=>?_))) rfl rfl)
   ·refine Ws.Par ?_ (by decide)
    refine _d.Was.cons ?_;apply _d.We.v;rfl;refine _d.Was.cons ?_;apply _d.We.v;rfl;refine _d.Was.nil ?_
    exact ⟨_,_,_,_,rfl,rfl,trn c,x2,by rw [ord_trn,ord_self cab],rfl⟩
   ·refine _d.Ws.nx ?_
    exact ⟨c,x2,ord_self cab,rfl⟩
  intro ρ zP1
  refine bc fun ζ=>?_
  obtain ⟨u,x2,hu,rfl⟩:=zP1
  apply ζ;clear ζ
  have grow : ∀ (T' : List Tie),(∀ t,t∈T'.map ordT↔t∈T.map ordT∨t = c)→∀ t,t∈T'.map ordT↔t∈r∧t ∉ L':=fun T' h t=>by
   rw [h,hT.mem,mL']
   constructor
   ·rintro (⟨z1,z2⟩ | z)
    ·exact ⟨z1,fun y=>z2 y.1⟩
    ·exact ⟨z ▸ cr,fun y=>y.2 z⟩
   ·intro zP0
    obtain ⟨z1,z2⟩:=zP0
    by_cases q : t = c
    ·exact .inr q
    ·exact .inl ⟨z1,fun y=>z2 ⟨y,q⟩⟩
  have one : ∀ t,t∈(T ++ [u]).map ordT↔t∈T.map ordT∨t = c:=fun t=>by
   rw [List.map_append,List.mem_append]
   simp [hu]
  have two : ∀ t,t∈(T ++ [u] ++ [trn u]).map ordT↔t∈T.map ordT∨t = c:=fun t=>by
   rw [List.map_append,List.mem_append,one]
   simp [ord_trn,hu]
  refine Ws.cut (fun ρ=>ρ = [.ow (poolD x2),.sh (recD r),.ow (recD L'),.ow (recD (T ++ [u])),.sh (.int (i : Nat)),.sh (.int u.m),.sh (.int u.a),.sh (.int u.b)]) ?_ ?_
  ·((refine _d.Ws.App ?_ rfl); (with_reducible refine _d.We.T ?_); (with_reducible refine _d.Was.cons ?_); ((with_reducible apply _d.We.v); (focus rfl)); (with_reducible refine _d.Was.cons ?_); ((with_reducible apply _d.We.v); (focus rfl)); (with_reducible refine _d.Was.cons ?_); ((with_reducible apply _d.We.v); (focus rfl)); (with_reducible refine _d.Was.nil ?_); (refine _d.WT.mk ?_ rfl (by first | (dsimp only [List.set]; first | done | rfl) | rfl) (by exact Nat.le_of_ble_eq_true rfl)); (refine _d.Wk.val ?_); (refine _d.app_go ?_ rfl (by first | (dsimp only [List.set]; first | done | rfl) | rfl) ?_))
   ·unfold recD
    rw [List.map_append]
    rfl
   ·rw [List.length_map]; lia
  rintro ρ rfl
  refine Ws.If (Wt.V (We.e2 ?_))
  refine We.drw (m:=6) rfl (by decide) (by decide) rfl fun t x3 t0 t1 ρ3 e=>?_
  subst e
  refine We.c (Wg2.eq (Wb.mk (Wif.dec (fun _=>?_) (fun _=>?_))) rfl rfl)
  ·((refine _d.Ws.App ?_ rfl); (with_reducible refine _d.We.T ?_); (with_reducible refine _d.Was.cons ?_); ((with_reducible apply _d.We.v); (focus rfl)); (with_reducible refine _d.Was.cons ?_); ((with_reducible apply _d.We.v); (focus rfl)); (with_reducible refine _d.Was.cons ?_); ((with_reducible apply _d.We.v); (focus rfl)); (with_reducible refine _d.Was.nil ?_); (refine _d.WT.mk ?_ rfl (by first | (dsimp only [List.set]; first | done | rfl) | rfl) (by exact Nat.le_of_ble_eq_true rfl)); (refine _d.Wk.val ?_); (refine _d.app_go ?_ rfl (by first | (dsimp only [List.set]; first | done | rfl) | rfl) ?_))
   ·refine hKL _ ⟨L',T ++ [u] ++ [trn u],x3,.sh (.int (i : Nat)),.sh (.int u.m),.sh (.int u.a),.sh (.int u.b),?_,sL',lL',grow _ two,?_⟩
    ·have : recD (T ++ [u] ++ [trn u]) = .lst ((T ++ [u]).map tieD ++ [.tup [.int u.m,.int u.b,.int u.a]]):=by
      unfold recD
      rw [List.map_append]
      rfl
     rw [this]
    ·simp; lia
   ·rw [List.length_map,List.length_append]; simp; lia
  ·refine _d.Ws.nx ?_
   exact hKL _ ⟨L',T ++ [u],x3,.sh (.int (i : Nat)),.sh (.int u.m),.sh (.int u.a),.sh (.int u.b),rfl,sL',lL',grow _ one,by simp; lia⟩
 ·intro ρ zP1
  refine bc fun ζ=>?_
  obtain ⟨L,T,x,c4,c5,c6,c7,rfl,sL,lL,hT⟩:=zP1
  have : L = []:=List.length_eq_zero_iff.mp lL
  subst this
  apply ζ;clear ζ
  rw [List.length_range] at hT
  refine Ws.R (We.w rfl (WR.slot ?_ rfl))
  exact ⟨_,rfl,T,x,rfl,rfl,hT.mem,by have:=hT.len; lia⟩
noncomputable def ind (S : List Int) (x : Int) : Int:=if x∈S then 1 else 0
theorem ind_ne (S : List Int) (t : Tie) : decide (ind S t.a≠ind S t.b) = over S t:=by
 unfold ind over
 by_cases h1 : t.a∈S <;> by_cases h2 : t.b∈S <;> simp [h1,h2]
theorem rim_over (S : List Int) (t : Int) (r : List Tie) : rimF (r.filter fun x=>decide (t≤x.m)) S = (overL (ind S) t r).map (·.m):=by
 unfold rimF overL
 rw [List.filter_filter]
 congr 1
 refine List.filter_congr fun x _=>?_
 rw [ind_ne,Bool.and_comm]
theorem holds_ok (n k : Nat) (n1 : 1≤n) (n10 : n≤10) (r K : List Tie) (hl : r.length≤60) (sK : K.Sublist r) (sh : Shows k K r) (t : Int) : f_z29 [.int (n : Nat),.int (k : Nat),recD r,recD K,.int t] = some (.val (.bl true)):=by
 have sz : 2000≤SZ:=by decide
 have lK:=sK.length_le
 refine bc fun ζ=>?_
 obtain ⟨ss,es,ls⟩:=sides_ok n n1 n10
 apply ζ;clear ζ
 have lf:=List.length_filter_le (fun x : Tie=>decide (t≤x.m)) K
 have lg:=List.length_filter_le (fun x : Tie=>decide (t≤x.m)) r
 apply Wr.eq
 unfold f_z29
 (refine _d.Wr.fn ?_ rfl rfl; dsimp only [List.map,List.replicate,List.cons_append,List.nil_append])
 refine _d.Ws.seq ?_;refine _d.Ws.A ?_ (by decide);refine _d.We.F ?_;refine _d.Was.cons ?_;apply _d.We.v;rfl;refine _d.Was.cons ?_;apply _d.We.v;rfl;refine _d.Was.nil ?_
 refine WF.box (since_ok r hl t) ?_ rfl rfl rfl (by first | (dsimp only [List.set]; first | done | rfl) | rfl)
 ((refine _d.WA.new ?_ (by first | (dsimp only [List.set]; first | done | rfl) | rfl)); (with_reducible refine _d.Ws.seq ?_); (with_reducible refine _d.Ws.A ?_ (by decide)); (with_reducible refine _d.We.F ?_); (with_reducible refine _d.Was.cons ?_); ((with_reducible apply _d.We.v); (focus rfl)); (with_reducible refine _d.Was.cons ?_); ((with_reducible apply _d.We.v); (focus rfl)); (with_reducible refine _d.Was.nil ?_))
 refine WF.box (since_ok K (by lia) t) ?_ rfl rfl rfl (by first | (dsimp only [List.set]; first | done | rfl) | rfl)
 ((refine _d.WA.new ?_ (by first | (dsimp only [List.set]; first | done | rfl) | rfl)); (with_reducible refine _d.Ws.seq ?_); (with_reducible refine _d.Ws.For ?_); (with_reducible refine _d.Wi.S ?_); (with_reducible refine _d.We.e2 ?_); (with_reducible refine _d.We.e2 ?_); (with_reducible refine _d.We.L ?_); (with_reducible refine _d.Was.cons ?_); (with_reducible refine _d.We.T ?_); (with_reducible refine _d.Was.nil ?_); (refine _d.WT.mk ?_ rfl (by first | (dsimp only [List.set]; first | done | rfl) | rfl) (by exact Nat.le_of_ble_eq_true rfl)); (with_reducible refine _d.Was.nil ?_); (refine _d.WT.mk ?_ rfl (by first | (dsimp only [List.set]; first | done | rfl) | rfl) (by exact Nat.le_of_ble_eq_true rfl)); (with_reducible refine _d.We.F ?_); (with_reducible refine _d.Was.cons ?_); ((with_reducible apply _d.We.v); (focus rfl)); (with_reducible refine _d.Was.nil ?_))
 refine WF.box es ?_ rfl rfl rfl (by first | (dsimp only [List.set]; first | done | rfl) | rfl)
 refine Wg2.addL ?_ rfl rfl (by simp; lia)
 refine _d.We.L ?_;refine _d.Was.cons ?_;refine _d.We.B ?_;refine _d.Was.cons ?_;apply _d.We.v;rfl;refine _d.Was.nil ?_
 ·refine WB.tuR1 ?_ rfl (by lia)
  ((with_reducible refine _d.Was.cons ?_); (with_reducible refine _d.We.T ?_); (with_reducible refine _d.Was.cons ?_); (with_reducible refine _d.We.c ?_); (with_reducible refine _d.Was.nil ?_); (refine _d.WT.mk ?_ rfl (by first | (dsimp only [List.set]; first | done | rfl) | rfl) (by exact Nat.le_of_ble_eq_true rfl)); (with_reducible refine _d.Was.nil ?_); (refine _d.WT.mk ?_ rfl (by first | (dsimp only [List.set]; first | done | rfl) | rfl) (by exact Nat.le_of_ble_eq_true rfl)); (refine _d.Wg2.addL ?_ rfl rfl ?_); (refine _d.Wk.val ?_); (refine _d.seqL_go ?_))
  ·have e : [Dat.tup []] ++ ss.map tupN ++ [Dat.tup (ups 0 (n : Int).toNat),.tup [.int 0]] = (([] : List Int) :: ss ++ [(List.range n).map (fun i : Nat=>((i : Nat) : Int)),[0]]).map tupN:=by
    rw [Int.toNat_natCast,ups_enc,List.map_append,List.map_cons]
    congr 1
    unfold tupN
    simp
   rw [e]
   generalize ([] : List Int) :: ss ++ [(List.range n).map (fun i : Nat=>((i : Nat) : Int)),[0]] = zs
   generalize hY : r.filter (fun x=>decide (t≤x.m)) = Y at lg
   generalize hZ : K.filter (fun x=>decide (t≤x.m)) = Z at lf
   refine Ws.inv tupN _ _ zs _ _ _ _ _ (fun _ _ ρ=>∃ c5 c6 c7 c8 c9,(c5 = .ow (recD Y)∨c5 = .sh (recD Y))∧(c6 = .ow (recD Z)∨c6 = .sh (recD Z))∧ρ = [.sh (.int (n : Nat)),.sh (.int (k : Nat)),.sh (recD r),.sh (recD K),.sh (.int t),c5,c6,c7,c8,c9]) ⟨_,_,_,_,_,.inl rfl,.inl rfl,rfl⟩ ?_ ?_
   ·intro p S q ρ _ zP5
    refine bc fun ζ=>?_
    obtain ⟨c5,c6,c7,c8,c9,h5,h6,rfl⟩:=zP5
    apply ζ;clear ζ
    refine _d.bind_go rfl (by first | (dsimp only [List.set]; first | done | rfl) | rfl) ?_
    unfold b0_z29
    refine Ws.cut (fun ρ=>ρ = [.sh (.int (n : Nat)),.sh (.int (k : Nat)),.sh (recD r),.sh (recD K),.sh (.int t),.sh (recD Y),c6,.sh (tupN S),.ow (.lst ((rimF Y S).map Dat.int)),c9]) ?_ ?_
    ·rcases h5 with rfl | rfl
     ·refine _d.Ws.A ?_ (by decide);refine _d.We.F ?_;refine _d.Was.cons ?_;apply _d.We.w;rfl;refine _d.Was.cons ?_;apply _d.We.v;rfl;refine _d.Was.nil ?_
      refine WF.box (law_rim_ok Y (by lia) S) ?_ rfl rfl rfl (by first | (dsimp only [List.set]; first | done | rfl) | rfl)
      ((refine _d.WA.new ?_ (by first | (dsimp only [List.set]; first | done | rfl) | rfl)))
      rfl
     ·refine _d.Ws.A ?_ (by decide);refine _d.We.F ?_;refine _d.Was.cons ?_;apply _d.We.v;rfl;refine _d.Was.cons ?_;apply _d.We.v;rfl;refine _d.Was.nil ?_
      refine WF.box (law_rim_ok Y (by lia) S) ?_ rfl rfl rfl (by first | (dsimp only [List.set]; first | done | rfl) | rfl)
      ((refine _d.WA.new ?_ (by first | (dsimp only [List.set]; first | done | rfl) | rfl)))
      rfl
    rintro ρ rfl
    refine Ws.cut (fun ρ=>ρ = [.sh (.int (n : Nat)),.sh (.int (k : Nat)),.sh (recD r),.sh (recD K),.sh (.int t),.sh (recD Y),.sh (recD Z),.sh (tupN S),.ow (.lst ((rimF Y S).map Dat.int)),.ow (.lst ((rimF Z S).map Dat.int))]) ?_ ?_
    ·rcases h6 with rfl | rfl
     ·refine _d.Ws.A ?_ (by decide);refine _d.We.F ?_;refine _d.Was.cons ?_;apply _d.We.w;rfl;refine _d.Was.cons ?_;apply _d.We.v;rfl;refine _d.Was.nil ?_
      refine WF.box (rim_ok Z (by lia) S) ?_ rfl rfl rfl (by first | (dsimp only [List.set]; first | done | rfl) | rfl)
      ((refine _d.WA.new ?_ (by first | (dsimp only [List.set]; first | done | rfl) | rfl)))
      rfl
     ·refine _d.Ws.A ?_ (by decide);refine _d.We.F ?_;refine _d.Was.cons ?_;apply _d.We.v;rfl;refine _d.Was.cons ?_;apply _d.We.v;rfl;refine _d.Was.nil ?_
      refine WF.box (rim_ok Z (by lia) S) ?_ rfl rfl rfl (by first | (dsimp only [List.set]; first | done | rfl) | rfl)
      ((refine _d.WA.new ?_ (by first | (dsimp only [List.set]; first | done | rfl) | rfl)))
      rfl
    rintro ρ rfl
    have key : rimF Z S = rimF Y S∨(k≤(rimF Z S).length∧k≤(rimF Y S).length):=by
     rw [← hY,← hZ,rim_over,rim_over]
     rcases sh (ind S) t with z | z
     ·exact .inl (by rw [z])
     ·refine .inr ⟨by rw [List.length_map]; exact z,?_⟩
      rw [List.length_map]
      refine Nat.le_trans z ?_
      unfold overL
      exact (sK.filter _).length_le
    refine _d.Ws.seq ?_;refine _d.Ws.If ?_;refine _d.Wt.V ?_;refine _d.We.e2 ?_;apply _d.We.w;rfl;refine _d.We.F ?_;refine _d.Was.cons ?_;apply _d.We.v;rfl;refine _d.Was.cons ?_;apply _d.We.v;rfl;refine _d.Was.nil ?_
    refine WF.box (law_rim_ok Z (by lia) S) ?_ rfl rfl rfl (by first | (dsimp only [List.set]; first | done | rfl) | rfl)
    skip
    refine Wg2.neI ?_ rfl rfl
    ((refine _d.Wb.mk ?_))
    refine Wif.no (by simp) ?_
    refine _d.Ws.nx ?_;refine _d.Ws.If ?_;refine _d.Wt.Or ?_;refine _d.Wt.And ?_;refine _d.Wt.V ?_;refine _d.We.e2 ?_;refine _d.We.B ?_;refine _d.Was.cons ?_;apply _d.We.w;rfl;refine _d.Was.nil ?_;refine _d.WB.lenI (enc:=_d.Dat.int) ?_ rfl;apply _d.We.v;rfl;refine _d.Wg2.lt ?_ rfl rfl;refine _d.Wb.mk ?_
    rcases key with z | ⟨z1,z2⟩
    ·rw [z]
     refine ⟨fun _=>?_,fun g=>?_⟩
     ·refine _d.Wt.V ?_;refine _d.We.e2 ?_;apply _d.We.w;rfl;apply _d.We.w;rfl
      refine Wg2.neI ?_ rfl rfl
      ((refine _d.Wb.mk ?_))
      refine Wif.no (by simp) ?_
      refine _d.Wt.And ?_;refine _d.Wt.V ?_;refine _d.We.e2 ?_;refine _d.We.B ?_;refine _d.Was.cons ?_;apply _d.We.w;rfl;refine _d.Was.nil ?_;refine _d.WB.lenI (enc:=_d.Dat.int) ?_ rfl;apply _d.We.v;rfl;refine _d.Wg2.ge ?_ rfl rfl;refine _d.Wb.mk ?_
      refine ⟨fun _=>?_,fun _=>?_⟩
      ·refine _d.Wt.V ?_;refine _d.We.e2 ?_;refine _d.We.B ?_;refine _d.Was.cons ?_;apply _d.We.w;rfl;refine _d.Was.nil ?_;refine _d.WB.lenI (enc:=_d.Dat.int) ?_ rfl;apply _d.We.v;rfl;refine _d.Wg2.lt ?_ rfl rfl;refine _d.Wb.mk ?_
       refine Wif.no (decide_eq_false ?_) ?_
       ·rename_i g1 g2
        have:=of_decide_eq_true g1
        have:=of_decide_eq_true g2
        lia
       ·refine _d.Ws.nx ?_
        exact ⟨_,_,_,_,_,.inr rfl,.inr rfl,rfl⟩
      ·refine _d.Wif.f ?_;refine _d.Ws.nx ?_
       exact ⟨_,_,_,_,_,.inr rfl,.inr rfl,rfl⟩
     ·refine _d.Wif.f ?_;refine _d.Wt.And ?_;refine _d.Wt.V ?_;refine _d.We.e2 ?_;refine _d.We.B ?_;refine _d.Was.cons ?_;apply _d.We.w;rfl;refine _d.Was.nil ?_;refine _d.WB.lenI (enc:=_d.Dat.int) ?_ rfl;apply _d.We.v;rfl;refine _d.Wg2.ge ?_ rfl rfl;refine _d.Wb.mk ?_
      have g':=of_decide_eq_false g
      refine Wif.yes (decide_eq_true (by lia)) ?_
      refine _d.Wt.V ?_;refine _d.We.e2 ?_;refine _d.We.B ?_;refine _d.Was.cons ?_;apply _d.We.w;rfl;refine _d.Was.nil ?_;refine _d.WB.lenI (enc:=_d.Dat.int) ?_ rfl;apply _d.We.v;rfl;refine _d.Wg2.lt ?_ rfl rfl;refine _d.Wb.mk ?_
      refine Wif.no (decide_eq_false (by lia)) ?_
      refine _d.Ws.nx ?_
      exact ⟨_,_,_,_,_,.inr rfl,.inr rfl,rfl⟩
    ·refine Wif.no (decide_eq_false (by lia)) ?_
     refine _d.Wif.f ?_;refine _d.Wt.And ?_;refine _d.Wt.V ?_;refine _d.We.e2 ?_;refine _d.We.B ?_;refine _d.Was.cons ?_;apply _d.We.w;rfl;refine _d.Was.nil ?_;refine _d.WB.lenI (enc:=_d.Dat.int) ?_ rfl;apply _d.We.v;rfl;refine _d.Wg2.ge ?_ rfl rfl;refine _d.Wb.mk ?_
     refine Wif.yes (decide_eq_true (by lia)) ?_
     refine _d.Wt.V ?_;refine _d.We.e2 ?_;refine _d.We.B ?_;refine _d.Was.cons ?_;apply _d.We.w;rfl;refine _d.Was.nil ?_;refine _d.WB.lenI (enc:=_d.Dat.int) ?_ rfl;apply _d.We.v;rfl;refine _d.Wg2.lt ?_ rfl rfl;refine _d.Wb.mk ?_
     refine Wif.no (decide_eq_false (by lia)) ?_
     refine _d.Ws.nx ?_
     exact ⟨_,_,_,_,_,.inr rfl,.inr rfl,rfl⟩
   ·intro ρ zP1
    refine bc fun ζ=>?_
    obtain ⟨c5,c6,c7,c8,c9,h5,h6,rfl⟩:=zP1
    apply ζ;clear ζ
    refine _d.Ws.R ?_;refine _d.We.c ?_;refine _d.WR.val ?_
    rfl
  ·simp; lia
theorem We.Share {j : Nat} {f : FE} {ρ ρ1 : Env} {d : Dat} {Q : Val→Env→Prop} (h : We f ρ1 Q) (hj : ρ[j]? = some (.ow d)) (hn : ρ.set j (.sh d) = ρ1) : We (eShare j f) ρ Q:=by
 obtain ⟨v,ρ',h1,q⟩:=h
 refine ⟨v,ρ',?_,q⟩
 unfold eShare
 rw [hj]
 dsimp only
 rw [hn]
 exact h1
theorem Rcd.of {n : Nat} {r : List Tie} (g : Good n 0 r) (hl : r.length≤60) (hm : ∀ t∈r,t.m≤Z30) : Rcd n r:=⟨fun t ht=>by
  refine bc fun ζ=>?_
  obtain ⟨q1,q2,q3⟩:=Good.mem g t ht
  apply ζ;clear ζ
  exact ⟨Good.lo g t ht,hm t ht,q1,q2,q3⟩,by
  have up : ∀ (r : List Tie) (lo : Int),Good n lo r→Rise r:=fun r=>by
   induction r with
   | nil=>intro _ _; exact List.Pairwise.nil
   | cons t r ih =>
    intro lo g
    exact List.pairwise_cons.mpr ⟨fun u hu=>by have:=Good.lo g.2.2.2.2 u hu; lia,ih _ g.2.2.2.2⟩
  exact up r 0 g,hl⟩
theorem turn_ok (ns : List Int) (at_ : Int) (h0 : 0≤at_) (h1 : at_ < 900) (c2 c3 c4 c5 c6 c7 c8 : Cell) :
  Ws b1_z30 [.sh (.lst (ns.map Dat.int)),.sh (.int at_),c2,c3,c4,c5,c6,c7,c8] (fun ρ=>∃ c1 c2 c3 c4 c5 c6 c7 c8,ρ = [.sh (.lst (ns.map Dat.int)),c1,c2,c3,c4,c5,c6,c7,c8]) (fun _ _=>False) (fun _=>False) (fun _=>False):=by
 suffices hK : ∀ K : Env→Prop,(∀ ρ,(∃ c1 c2 c3 c4 c5 c6 c7 c8,ρ = [.sh (.lst (ns.map Dat.int)),c1,c2,c3,c4,c5,c6,c7,c8])→K ρ)→Ws b1_z30 [.sh (.lst (ns.map Dat.int)),.sh (.int at_),c2,c3,c4,c5,c6,c7,c8] K (fun _ _=>False) (fun _=>False) (fun _=>False) from hK _ fun _ h=>h
 intro KK hKK
 have sz : 1000≤SZ:=by decide
 refine bc fun ζ=>?_
 obtain ⟨x,ep⟩:=pool_ok ns at_ h0 (by lia)
 obtain ⟨n,x1,en,n1,n10⟩:=many_ok x
 obtain ⟨n,rfl⟩ : ∃ m : Nat,n = m:=⟨n.toNat,by lia⟩
 apply ζ;clear ζ
 unfold b1_z30
 refine Ws.cut (fun ρ=>ρ = [.sh (.lst (ns.map Dat.int)),.sh (.int at_),.ow (poolD x),c3,c4,c5,c6,c7,c8]) ?_ ?_
 ·refine _d.Ws.A ?_ (by decide);refine _d.We.F ?_;refine _d.Was.cons ?_;apply _d.We.v;rfl;refine _d.Was.cons ?_;apply _d.We.v;rfl;refine _d.Was.nil ?_
  refine WF.box ep ?_ rfl rfl rfl (by first | (dsimp only [List.set]; first | done | rfl) | rfl)
  ((refine _d.WA.new ?_ (by first | (dsimp only [List.set]; first | done | rfl) | rfl)))
  rfl
 rintro ρ rfl
 refine Ws.cut (fun ρ=>ρ = [.sh (.lst (ns.map Dat.int)),.sh (.int at_),.ow (poolD x1),.sh (.int (n : Nat)),c4,c5,c6,c7,c8]) ?_ ?_
 ·refine Ws.A (We.Fm (Was.nil (WFm.any en ?_ rfl rfl (by first | (dsimp only [List.set]; first | done | rfl) | rfl))) rfl) (by decide)
  exact WA.val rfl (by first | (dsimp only [List.set]; first | done | rfl) | rfl)
 rintro ρ rfl
 refine Ws.cut (fun ρ=>∃ (k : Nat) (x2 : Int),(1≤k∧k≤6)∧ρ = [.sh (.lst (ns.map Dat.int)),.sh (.int at_),.ow (poolD x2),.sh (.int (n : Nat)),.sh (.int (k : Nat)),c5,c6,c7,c8]) ?_ ?_
 ·refine Ws.A (We.e2 (We.c ?_)) (by decide)
  refine We.drw (m:=6) rfl (by decide) (by decide) rfl fun t x2 t0 t1 ρ3 e=>?_
  subst e
  refine Wg2.add (WA.val ⟨(1 + t).toNat,x2,by lia,?_⟩ rfl) rfl rfl
  rw [Int.toNat_of_nonneg (by lia)]
  rfl
 intro ρ zP1
 refine bc fun ζ=>?_
 obtain ⟨k,x2,⟨k1,k6⟩,rfl⟩:=zP1
 obtain ⟨y,ey⟩:=pool_ok ns (at_ + 1) (by lia) (by lia)
 apply ζ;clear ζ
 refine Ws.cut (fun ρ=>∃ r : List Tie,Rcd n r∧ρ = [.sh (.lst (ns.map Dat.int)),.sh (.int at_),.ow (poolD x2),.sh (.int (n : Nat)),.sh (.int (k : Nat)),.ow (recD r),c6,c7,c8]) ?_ ?_
 ·refine Ws.A (We.Fn (Was.cons ?_)) (by decide)
  refine We.F (Was.cons (We.v rfl (Was.cons ?_)))
  refine We.e2 (We.v rfl (We.c (Wg2.add ?_ rfl rfl)))
  refine Was.nil (WF.box ey ?_ rfl rfl rfl (by first | (dsimp only [List.set]; first | done | rfl) | rfl))
  refine Was.cons (We.v rfl (Was.cons ?_))
  refine bc fun ζ=>?_
  obtain ⟨most,em,m0,m30⟩ : ∃ most : Int,gIx (.lst [.int 30,.int 7]) (.int (b2i (decide (6 < (n : Int))))) = some (.val (.int most))∧0≤most∧most≤60:=by
   by_cases q : 6 < (n : Int)
   ·rw [decide_eq_true q]; exact ⟨7,rfl,by decide,by decide⟩
   ·rw [decide_eq_false q]; exact ⟨30,rfl,by decide,by decide⟩
  obtain ⟨r,y',er,gr,lr,mr⟩:=record_ok y n most (by lia) (by lia) m0 m30
  apply ζ;clear ζ
  refine We.e2 (We.L (Was.cons (We.c (Was.cons (We.c (Was.nil (WT.mk ?_ rfl rfl (by decide))))))))
  refine We.B (Was.cons (We.e2 (We.v rfl (We.c (Wg2.gt (Was.nil (WB.int ?_ rfl)) rfl rfl)))))
  refine Wg2.ix ?_ rfl rfl em
  refine Was.nil ⟨_,_,_,_,_,rfl,rfl,er,?_⟩
  exact WA.new ⟨r,Rcd.of gr (by lia) mr,rfl⟩ (by first | (dsimp only [List.set]; first | done | rfl) | rfl)
 intro ρ zP1
 refine bc fun ζ=>?_
 obtain ⟨r,hr,rfl⟩:=zP1
 have lr:=hr.len
 obtain ⟨z,ez⟩:=pool_ok ns (at_ + 2) (by lia) (by lia)
 obtain ⟨T,z',et,hT⟩:=told_ok z n r hr
 have erec:=record_of_ok n n1 n10 T r ⟨fun t ht=>by
   have hm:=((hT.mem (ordT t)).mp (List.mem_map.mpr ⟨t,ht,rfl⟩)).1
   obtain ⟨q1,q2,q3,q4,q5⟩:=hr.ok _ hm
   rcases ord_cases t with e | e
   ·rw [e]; exact ⟨q1,q2,q3,by lia,by lia,q5⟩
   ·rw [e]; exact ⟨q1,q2,by show 0≤(ordT t).b; lia,q5,q3,by show (ordT t).a < _; lia⟩,by have:=hT.len; lia⟩ hr.up (fun t=>by rw [hT.mem]; simp) lr
 obtain ⟨ms,_,al⟩:=layered_ok n k (by lia) k1 k6 r hr.ends (by lia)
 apply ζ;clear ζ
 have enet:=net_ok n k (by lia) k1 k6 r ms hr.ends (by lia) al
 have few:=keep_few n k (by lia) r ms hr.ends al
 have sK:=keep_sub r ms
 have lK:=sK.length_le
 have net : Net n k (keep r ms):=⟨hr.sub sK,_,keep_net al,fun z=>by simpa using (List.mem_filter.mp z).2⟩
 have sh : Shows k (keep r ms) r:=fun S t=>side_kept k n S t r ms 0 hr.good al
 have pk:=sub_pick sK hr.nodup
 generalize keep r ms = K at *
 refine Ws.cut (fun ρ=>ρ = [.sh (.lst (ns.map Dat.int)),.sh (.int at_),.ow (poolD x2),.sh (.int (n : Nat)),.sh (.int (k : Nat)),.sh (recD r),.ow (recD r),c7,c8]) ?_ ?_
 ·refine Ws.A (We.Share ?_ rfl (by first | (dsimp only [List.set]; first | done | rfl) | rfl)) (by decide)
  refine We.F (Was.cons (We.v rfl (Was.cons ?_)))
  refine We.Fn (Was.cons ?_)
  refine We.F (Was.cons (We.v rfl (Was.cons ?_)))
  refine We.e2 (We.v rfl (We.c (Wg2.add ?_ rfl rfl)))
  refine Was.nil (WF.box ez ?_ rfl rfl rfl (by first | (dsimp only [List.set]; first | done | rfl) | rfl))
  refine Was.cons (We.v rfl (Was.nil ⟨_,_,_,_,_,rfl,rfl,et,?_⟩))
  refine Was.nil (WF.box erec ?_ rfl rfl rfl (by first | (dsimp only [List.set]; first | done | rfl) | rfl))
  exact WA.new rfl (by first | (dsimp only [List.set]; first | done | rfl) | rfl)
 rintro ρ rfl
 refine Ws.cut (fun ρ=>ρ = [.sh (.lst (ns.map Dat.int)),.sh (.int at_),.ow (poolD x2),.sh (.int (n : Nat)),.sh (.int (k : Nat)),.sh (recD r),.sh (recD r),.sh (netD n k K),c8]) ?_ ?_
 ·refine _d.Ws.A ?_ (by decide);refine _d.We.F ?_;refine _d.Was.cons ?_;apply _d.We.v;rfl;refine _d.Was.cons ?_;apply _d.We.w;rfl;refine _d.Was.cons ?_;apply _d.We.v;rfl;refine _d.Was.nil ?_
  refine WF.box enet ?_ rfl rfl rfl (by first | (dsimp only [List.set]; first | done | rfl) | rfl)
  ((refine _d.WA.val ?_ (by first | (dsimp only [List.set]; first | done | rfl) | rfl)))
  rfl
 rintro ρ rfl
 refine Ws.cut (fun ρ=>ρ = [.sh (.lst (ns.map Dat.int)),.sh (.int at_),.ow (poolD x2),.sh (.int (n : Nat)),.sh (.int (k : Nat)),.sh (recD r),.sh (recD r),.sh (netD n k K),c8]) ?_ ?_
 ·unfold netD
  refine Ws.If (Wt.Or (Wt.V (We.e2 (We.v rfl (We.v rfl (Wg2.neSame (ok_rec r) (eq_rec r) (Wb.mk (Wif.f ?_)) rfl rfl))))))
  refine Wt.Or (Wt.V (We.e2 (We.F (Was.cons (We.v rfl (Was.nil (WF.val (is_net_ok n k (by lia) (by lia) k1 k6 K net) (We.c (Wg2.isnotb (i:=true) (j:=true) (Wb.mk (Wif.no rfl ?_)) rfl rfl)) rfl rfl)))))))
  refine Wt.Or (Wt.V (We.e2 (We.SlT (We.v rfl (Wp.none (Wp.some (We.c (Wint.mk ⟨_,rfl,by show ¬ (sIx 3 0 none = 0∧sIx 3 3 (some 2) = 3); decide,?_⟩))))))))
  ((with_reducible refine _d.We.T ?_); (with_reducible refine _d.Was.cons ?_); ((with_reducible apply _d.We.v); (focus rfl)); (with_reducible refine _d.Was.cons ?_); ((with_reducible apply _d.We.v); (focus rfl)); (with_reducible refine _d.Was.nil ?_); (refine _d.WT.mk ?_ rfl (by first | (dsimp only [List.set]; first | done | rfl) | rfl) (by exact Nat.le_of_ble_eq_true rfl)))
  refine Wg2.neSame (d:=.tup [.int (n : Nat),.int (k : Nat)]) rfl (by simp [eqD,eqDs]) ?_ rfl rfl
  refine _d.Wb.mk ?_;refine _d.Wif.f ?_;refine _d.Wt.V ?_;refine _d.We.e2 ?_;refine _d.We.B ?_;refine _d.Was.cons ?_;refine _d.We.e2 ?_;apply _d.We.v;rfl;refine _d.We.c ?_;refine _d.Wg2.ix ?_ rfl rfl rfl;refine _d.Was.nil ?_;refine _d.WB.len ?_ rfl;refine _d.We.e2 ?_;apply _d.We.v;rfl;refine _d.We.e2 ?_;apply _d.We.v;rfl;refine _d.We.c ?_;refine _d.Wg2.sub ?_ rfl rfl;refine _d.Wg2.mul ?_ rfl rfl ?_;refine _d.Wg2.gt ?_ rfl rfl;refine _d.Wb.mk ?_
  rotate_left
  ·exact .inl (by unfold B64; lia)
  refine Wif.no (decide_eq_false (by rw [List.length_map]; lia)) ?_
  refine _d.Ws.nx ?_
  rfl
 rintro ρ rfl
 refine Ws.cut (fun ρ=>ρ = [.sh (.lst (ns.map Dat.int)),.sh (.int at_),.ow (poolD x2),.sh (.int (n : Nat)),.sh (.int (k : Nat)),.sh (recD r),.sh (recD r),.sh (netD n k K),c8]) ?_ ?_
 ·unfold netD
  refine _d.Ws.If ?_;refine _d.Wt.V ?_;refine _d.We.e2 ?_
  refine We.CompS tieD r (fun t=>decide (t∈K)) tieD ?_ rfl rfl rfl (by decide) (by lia) (fun t _=>?_) (fun t _ _=>?_)
  rotate_left
  ·refine _d.Wt.V ?_;refine _d.We.e2 ?_;apply _d.We.v;rfl;refine _d.We.e2 ?_;apply _d.We.v;rfl;refine _d.We.c ?_;refine _d.Wg2.ix ?_ rfl rfl rfl
   refine Wg2.inTie (t:=t) (K:=K) ?_ rfl rfl
   ((refine _d.Wb.mk ?_))
   exact ⟨rfl,rfl⟩
  ·apply _d.We.v;rfl;refine _d.Wk.val ?_
   exact ⟨rfl,rfl⟩
  rw [← pk]
  refine _d.We.e2 ?_;apply _d.We.v;rfl;refine _d.We.c ?_;refine _d.Wg2.ix ?_ rfl rfl rfl
  refine Wg2.neSame (d:=recD K) (ok_rec K) (eq_rec K) ?_ rfl rfl
  refine _d.Wb.mk ?_;refine _d.Wif.f ?_;refine _d.Ws.nx ?_
  rfl
 rintro ρ rfl
 refine Ws.For (Wi.S (We.e2 (We.e2 (We.L (Was.cons (We.c (Was.nil (WT.mk ?_ rfl rfl (by decide)))))))))
 refine We.MapS tieD r (·.m) Dat.int ?_ rfl rfl rfl (by decide) (by lia) (fun t _=>?_)
 rotate_left
 ·refine _d.We.e2 ?_;apply _d.We.v;rfl;refine _d.We.c ?_;refine _d.Wg2.ix ?_ rfl rfl rfl;refine _d.Wk.val ?_
  exact ⟨rfl,rfl⟩
 refine Wg2.addL ?_ rfl rfl (by simp; lia)
 have hit : iS (eSl (eV 5) (some (e1 gNeg (eC (.int 1)))) none) [.sh (.lst (ns.map Dat.int)),.sh (.int at_),.ow (poolD x2),.sh (.int (n : Nat)),.sh (.int (k : Nat)),.sh (recD r),.sh (recD r),.sh (netD n k K),c8] = some ((cutA r (some (-1)) none).map tieD,[.sh (.lst (ns.map Dat.int)),.sh (.int at_),.ow (poolD x2),.sh (.int (n : Nat)),.sh (.int (k : Nat)),.sh (recD r),.sh (recD r),.sh (netD n k K),c8]):=by
  refine Wi.get (Wi.S (We.Sl (We.v rfl (Wp.some (We.e1 (We.c (Wg1.mk (v:=.val (.int (-1))) (Wint.mk (Wp.none ?_)) rfl rfl)))))))
  refine Wsl.A (enc:=tieD) (xs:=r) ?_ rfl
  exact Wk.new ⟨_,rfl,rfl,rfl⟩
 have lc:=cutA_len r (some (-1)) none
 refine We.Map tieD (cutA r (some (-1)) none) (fun t=>t.m + 1) Dat.int ?_ hit rfl (by decide) (by lia) (fun t _=>?_)
 rotate_left
 ·refine _d.We.e2 ?_;refine _d.We.e2 ?_;apply _d.We.v;rfl;refine _d.We.c ?_;refine _d.Wg2.ix ?_ rfl rfl rfl;refine _d.We.c ?_;refine _d.Wg2.add ?_ rfl rfl;refine _d.Wk.val ?_
  exact ⟨rfl,rfl⟩
 refine Wg2.addL ?_ rfl rfl (by simp; lia)
 have e : [Dat.int 0] ++ (r.map (·.m)).map Dat.int ++ ((cutA r (some (-1)) none).map (fun t=>t.m + 1)).map Dat.int = ([0] ++ r.map (fun t : Tie=>t.m) ++ (cutA r (some (-1)) none).map (fun t : Tie=>t.m + 1)).map Dat.int:=by
  rw [List.map_append,List.map_append]
  rfl
 rw [e]
 refine Wk.new ⟨_,rfl,?_⟩
 refine Ws.inv Dat.int _ _ ([0] ++ r.map (fun t : Tie=>t.m) ++ (cutA r (some (-1)) none).map (fun t : Tie=>t.m + 1)) _ _ _ _ _ (fun _ _ ρ=>∃ c8,ρ = [.sh (.lst (ns.map Dat.int)),.sh (.int at_),.ow (poolD x2),.sh (.int (n : Nat)),.sh (.int (k : Nat)),.sh (recD r),.sh (recD r),.sh (netD n k K),c8]) ⟨_,rfl⟩ ?_ ?_
 ·intro p t q ρ _ zP5
  obtain ⟨c8,rfl⟩:=zP5
  refine _d.bind_go rfl (by first | (dsimp only [List.set]; first | done | rfl) | rfl) ?_
  unfold b0_z30 netD
  refine _d.Ws.If ?_;refine _d.Wt.Not ?_;refine _d.Wt.V ?_;refine _d.We.F ?_;refine _d.Was.cons ?_;apply _d.We.v;rfl;refine _d.Was.cons ?_;apply _d.We.v;rfl;refine _d.Was.cons ?_;apply _d.We.v;rfl;refine _d.Was.cons ?_;refine _d.We.e2 ?_;apply _d.We.v;rfl;refine _d.We.c ?_;refine _d.Wg2.ix ?_ rfl rfl rfl;refine _d.Was.cons ?_;apply _d.We.v;rfl;refine _d.Was.nil ?_
  refine WF.val (holds_ok n k (by lia) (by lia) r K lr sK sh t) ?_ rfl rfl
  ((refine _d.Wb.mk ?_))
  refine Wif.no rfl ?_
  refine _d.Ws.nx ?_
  exact ⟨_,rfl⟩
 ·intro ρ zP1
  obtain ⟨c8,rfl⟩:=zP1
  exact hKK _ ⟨_,_,_,_,_,_,_,_,rfl⟩
theorem math (ns : List Int) (h : ns.length≤63) : f_z30 [.lst (ns.map Dat.int)] = some (.val (.bl true)):=by
 apply Wr.eq
 unfold f_z30
 (refine _d.Wr.fn ?_ rfl rfl; dsimp only [List.map,List.replicate,List.cons_append,List.nil_append])
 obtain ⟨N,hN⟩ : ∃ j : Int,(if (if (9 : Int) < (ns.length : Int) then (9 : Int) else (ns.length : Int)) > 1 then (if (9 : Int) < (ns.length : Int) then (9 : Int) else (ns.length : Int)) else 1) = j∧1≤j∧j≤9:=⟨_,rfl,by split <;> split <;> lia,by split <;> split <;> lia⟩
 refine Ws.seq (Ws.For ?_)
 have hit : iRs (eC (.int 0)) (eB gMax2 [(eC (.int 1)),(eB gMin2 [(eB gLen [(eV 0)]),(eC (.int 9))])]) (eC (.int 3)) [.sh (.lst (ns.map Dat.int)),.un,.un,.un,.un,.un,.un,.un,.un] = some (stepsD 0 3 (stepsN 0 N 3),[.sh (.lst (ns.map Dat.int)),.un,.un,.un,.un,.un,.un,.un,.un]):=by
  have hb : eB gMax2 [(eC (.int 1)),(eB gMin2 [(eB gLen [(eV 0)]),(eC (.int 9))])] [.sh (.lst (ns.map Dat.int)),.un,.un,.un,.un,.un,.un,.un,.un] = some (.val (.int N),[.sh (.lst (ns.map Dat.int)),.un,.un,.un,.un,.un,.un,.un,.un]):=by
   apply We.get
   ·refine We.B (Was.cons (We.c (Was.cons (We.B (Was.cons (We.B (Was.cons (We.v rfl (Was.nil (WB.lenI (enc:=Dat.int) (xs:=ns) ?_ rfl))))))))))
    refine Was.cons (We.c (Was.nil (WB.min2 ?_ rfl)))
    refine Was.nil (WB.max2 ?_ rfl)
    exact ⟨by rw [← hN.1]; rfl,rfl⟩
  exact Wi.get (Wi.Rs rfl hb rfl (by unfold BIG; lia) ⟨rfl,rfl⟩)
 refine ⟨_,_,hit,?_⟩
 have hK : stepsN 0 N 3≤3:=by
  unfold stepsN
  split <;> lia
 generalize stepsN 0 N 3 = K at hK
 refine Ws.inv (fun i : Nat=>Dat.int (0 + ((i : Nat) : Int) * 3)) _ _ (List.range K) _ _ _ _ _ (fun p q ρ=>∃ c1 c2 c3 c4 c5 c6 c7 c8,ρ = [.sh (.lst (ns.map Dat.int)),c1,c2,c3,c4,c5,c6,c7,c8]) ⟨_,_,_,_,_,_,_,_,rfl⟩ ?_ ?_
 ·intro p i q ρ ep zP5
  refine bc fun ζ=>?_
  obtain ⟨c1,c2,c3,c4,c5,c6,c7,c8,rfl⟩:=zP5
  apply ζ;clear ζ
  have hi : i < K:=List.mem_range.mp (by rw [ep]; simp)
  refine _d.bind_go rfl (by first | (dsimp only [List.set]; first | done | rfl) | rfl) ?_
  refine bc fun ζ=>?_
  obtain ⟨o,h1,h2⟩:=turn_ok ns (0 + ((i : Nat) : Int) * 3) (by lia) (by lia) c2 c3 c4 c5 c6 c7 c8
  apply ζ;clear ζ
  cases o with
  | nx ρ1=>exact ⟨_,h1,h2⟩
  | _=>exact h2.elim
 ·intro ρ zP1
  refine bc fun ζ=>?_
  obtain ⟨c1,c2,c3,c4,c5,c6,c7,c8,rfl⟩:=zP1
  exact ζ (Ws.R (We.c rfl))
end P
set_option maxHeartbeats 4000000
namespace Q
open PySem _l _r _d P
noncomputable def top (i : Nat) : Stmt:=PySem.Challenge.pw_sinceply_k66_whole_every_side_and_moment.main.body.getD i (.Pass ⟨0,0,0,0⟩)
structure Txt (mg : Str→Option Value) (K : PySem.W.Frag) (base : Heap) (a_z0 a_z1 a_z2 a_z3 a_z4 a_z5 a_z6 a_z7 a_z8 a_z9 a_z10 a_z11 a_z12 a_z13 a_z14 a_z15 a_z16 a_z17 a_z18 a_z19 a_z20 a_z21 a_z22 a_z23 a_z24 a_z25 a_z26 a_z27 a_z28 a_z29 a_z30 : Addr) : Prop where
 n_all : mg "all" = none
 n_bool : mg "bool" = none
 n_enumerate : mg "enumerate" = none
 n_int : mg "int" = none
 n_isinstance : mg "isinstance" = none
 n_len : mg "len" = none
 n_list : mg "list" = none
 n_max : mg "max" = none
 n_min : mg "min" = none
 n_range : mg "range" = none
 n_reversed : mg "reversed" = none
 n_set : mg "set" = none
 n_sorted : mg "sorted" = none
 n_tuple : mg "tuple" = none
 n_zip : mg "zip" = none
 c_MOST_TIES_ex : ∃ t, mg "MOST_TIES" = some (.int 60 t)
 m_z0 : mg "is_whole" = some (.ref a_z0)
 m_z1 : mg "is_within" = some (.ref a_z1)
 m_z2 : mg "is_places" = some (.ref a_z2)
 m_z3 : mg "is_place" = some (.ref a_z3)
 m_z4 : mg "is_layers" = some (.ref a_z4)
 m_z5 : mg "is_moment" = some (.ref a_z5)
 m_z6 : mg "is_tie_either_way" = some (.ref a_z6)
 m_z7 : mg "is_tie" = some (.ref a_z7)
 m_z8 : mg "is_rising" = some (.ref a_z8)
 m_z9 : mg "look_at_places" = some (.ref a_z9)
 m_z10 : mg "look_at_layers" = some (.ref a_z10)
 m_z11 : mg "rim" = some (.ref a_z11)
 m_z12 : mg "merged" = some (.ref a_z12)
 m_z13 : mg "least_layer" = some (.ref a_z13)
 m_z14 : mg "layered" = some (.ref a_z14)
 m_z15 : mg "put_in_order" = some (.ref a_z15)
 m_z16 : mg "look_for_clash" = some (.ref a_z16)
 m_z17 : mg "record_of" = some (.ref a_z17)
 m_z18 : mg "is_record" = some (.ref a_z18)
 m_z19 : mg "is_net" = some (.ref a_z19)
 m_z20 : mg "net_of" = some (.ref a_z20)
 m_z21 : mg "_law_pool" = some (.ref a_z21)
 m_z22 : mg "_law_take" = some (.ref a_z22)
 m_z23 : mg "_law_many" = some (.ref a_z23)
 m_z24 : mg "_law_record" = some (.ref a_z24)
 m_z25 : mg "_law_since" = some (.ref a_z25)
 m_z26 : mg "_law_rim" = some (.ref a_z26)
 m_z27 : mg "_law_sides" = some (.ref a_z27)
 m_z28 : mg "_law_told" = some (.ref a_z28)
 m_z29 : mg "_law_holds" = some (.ref a_z29)
 m_z30 : mg "law" = some (.ref a_z30)
section
variable {P' : Program} {w : World} {K : PySem.W.Frag} {mg : Str→Option Value} {base : Heap} {a_z0 a_z1 a_z2 a_z3 a_z4 a_z5 a_z6 a_z7 a_z8 a_z9 a_z10 a_z11 a_z12 a_z13 a_z14 a_z15 a_z16 a_z17 a_z18 a_z19 a_z20 a_z21 a_z22 a_z23 a_z24 a_z25 a_z26 a_z27 a_z28 a_z29 a_z30 : Addr}
theorem sc_z0 : FnScope ["thing"] ["thing"] (defScope (top 7)):=⟨rfl, rfl, rfl, by decide +kernel, rfl, by decide +kernel, by decide +kernel⟩
theorem ok_z0 (T : Txt mg K base a_z0 a_z1 a_z2 a_z3 a_z4 a_z5 a_z6 a_z7 a_z8 a_z9 a_z10 a_z11 a_z12 a_z13 a_z14 a_z15 a_z16 a_z17 a_z18 a_z19 a_z20 a_z21 a_z22 a_z23 a_z24 a_z25 a_z26 a_z27 a_z28 a_z29 a_z30) {fd : FuncData} (F : Fun K "is_whole" "is_whole" (top 7) a_z0 fd) :
  FnOk P' w K mg base CX0 1 a_z0 fd ["thing"] (spD f_z0):=by
 refine F.ok sc_z0 (fun vs H Q E h=>fn_len h) (fun cdv A outer s H vs Q E hr h=>?_)
 exact ⟨_,(s_one (s_r (d_and (d_isi kit_int (by rfl) rfl T.n_int rfl T.n_isinstance (d_v 0)) (d_one (d_not (d_isi kit_bool (by rfl) rfl T.n_bool rfl T.n_isinstance (d_v 0))))))),r_fn (n:=1) (m:=0) rfl h⟩
theorem sc_z1 : FnScope ["thing", "low", "high"] ["thing", "low", "high"] (defScope (top 8)):=⟨rfl, rfl, rfl, by decide +kernel, rfl, by decide +kernel, by decide +kernel⟩
theorem ok_z1 (T : Txt mg K base a_z0 a_z1 a_z2 a_z3 a_z4 a_z5 a_z6 a_z7 a_z8 a_z9 a_z10 a_z11 a_z12 a_z13 a_z14 a_z15 a_z16 a_z17 a_z18 a_z19 a_z20 a_z21 a_z22 a_z23 a_z24 a_z25 a_z26 a_z27 a_z28 a_z29 a_z30) {fd : FuncData} (F : Fun K "is_within" "is_within" (top 8) a_z1 fd) {fd_z0 : FuncData} (F_z0 : Fun K "is_whole" "is_whole" (top 7) a_z0 fd_z0) (b_z0 : Binds K fd_z0 ["thing"] []) (G_z0 : FnOk P' w K mg base CX0 1 a_z0 fd_z0 ["thing"] (spD f_z0)) :
  FnOk P' w K mg base CX0 2 a_z1 fd ["thing", "low", "high"] (spD f_z1):=by
 refine F.ok sc_z1 (fun vs H Q E h=>fn_len h) (fun cdv A outer s H vs Q E hr h=>?_)
 exact ⟨_,(s_one (s_r (d_and (d_call G_z0 (hr.mono (by decide)) rfl T.m_z0 F_z0.kp b_z0 (a_cons (d_v 0) a_nil)) (d_one (d_chain op_le od_le op_le od_le (d_v 1) (d_v 0) (d_v 2)))))),r_fn (n:=3) (m:=0) rfl h⟩
theorem sc_z2 : FnScope ["thing"] ["thing"] (defScope (top 9)):=⟨rfl, rfl, rfl, by decide +kernel, rfl, by decide +kernel, by decide +kernel⟩
theorem ok_z2 (T : Txt mg K base a_z0 a_z1 a_z2 a_z3 a_z4 a_z5 a_z6 a_z7 a_z8 a_z9 a_z10 a_z11 a_z12 a_z13 a_z14 a_z15 a_z16 a_z17 a_z18 a_z19 a_z20 a_z21 a_z22 a_z23 a_z24 a_z25 a_z26 a_z27 a_z28 a_z29 a_z30) {fd : FuncData} (F : Fun K "is_places" "is_places" (top 9) a_z2 fd) {fd_z1 : FuncData} (F_z1 : Fun K "is_within" "is_within" (top 8) a_z1 fd_z1) (b_z1 : Binds K fd_z1 ["thing", "low", "high"] []) (G_z1 : FnOk P' w K mg base CX0 2 a_z1 fd_z1 ["thing", "low", "high"] (spD f_z1)) :
  FnOk P' w K mg base CX0 3 a_z2 fd ["thing"] (spD f_z2):=by
 refine F.ok sc_z2 (fun vs H Q E h=>fn_len h) (fun cdv A outer s H vs Q E hr h=>?_)
 exact ⟨_,(s_one (s_r (d_call G_z1 (hr.mono (by decide)) rfl T.m_z1 F_z1.kp b_z1 (a_cons (d_v 0) (a_cons d_i (a_cons d_i a_nil)))))),r_fn (n:=1) (m:=0) rfl h⟩
theorem sc_z3 : FnScope ["n", "thing"] ["n", "thing"] (defScope (top 10)):=⟨rfl, rfl, rfl, by decide +kernel, rfl, by decide +kernel, by decide +kernel⟩
theorem ok_z3 (T : Txt mg K base a_z0 a_z1 a_z2 a_z3 a_z4 a_z5 a_z6 a_z7 a_z8 a_z9 a_z10 a_z11 a_z12 a_z13 a_z14 a_z15 a_z16 a_z17 a_z18 a_z19 a_z20 a_z21 a_z22 a_z23 a_z24 a_z25 a_z26 a_z27 a_z28 a_z29 a_z30) {fd : FuncData} (F : Fun K "is_place" "is_place" (top 10) a_z3 fd) {fd_z1 : FuncData} (F_z1 : Fun K "is_within" "is_within" (top 8) a_z1 fd_z1) (b_z1 : Binds K fd_z1 ["thing", "low", "high"] []) (G_z1 : FnOk P' w K mg base CX0 2 a_z1 fd_z1 ["thing", "low", "high"] (spD f_z1)) :
  FnOk P' w K mg base CX0 3 a_z3 fd ["n", "thing"] (spD f_z3):=by
 refine F.ok sc_z3 (fun vs H Q E h=>fn_len h) (fun cdv A outer s H vs Q E hr h=>?_)
 exact ⟨_,(s_one (s_r (d_call G_z1 (hr.mono (by decide)) rfl T.m_z1 F_z1.kp b_z1 (a_cons (d_v 1) (a_cons d_i (a_cons (d_sub (d_v 0) d_i) a_nil)))))),r_fn (n:=2) (m:=0) rfl h⟩
theorem sc_z4 : FnScope ["thing"] ["thing"] (defScope (top 11)):=⟨rfl, rfl, rfl, by decide +kernel, rfl, by decide +kernel, by decide +kernel⟩
theorem ok_z4 (T : Txt mg K base a_z0 a_z1 a_z2 a_z3 a_z4 a_z5 a_z6 a_z7 a_z8 a_z9 a_z10 a_z11 a_z12 a_z13 a_z14 a_z15 a_z16 a_z17 a_z18 a_z19 a_z20 a_z21 a_z22 a_z23 a_z24 a_z25 a_z26 a_z27 a_z28 a_z29 a_z30) {fd : FuncData} (F : Fun K "is_layers" "is_layers" (top 11) a_z4 fd) {fd_z1 : FuncData} (F_z1 : Fun K "is_within" "is_within" (top 8) a_z1 fd_z1) (b_z1 : Binds K fd_z1 ["thing", "low", "high"] []) (G_z1 : FnOk P' w K mg base CX0 2 a_z1 fd_z1 ["thing", "low", "high"] (spD f_z1)) :
  FnOk P' w K mg base CX0 3 a_z4 fd ["thing"] (spD f_z4):=by
 refine F.ok sc_z4 (fun vs H Q E h=>fn_len h) (fun cdv A outer s H vs Q E hr h=>?_)
 exact ⟨_,(s_one (s_r (d_call G_z1 (hr.mono (by decide)) rfl T.m_z1 F_z1.kp b_z1 (a_cons (d_v 0) (a_cons d_i (a_cons d_i a_nil)))))),r_fn (n:=1) (m:=0) rfl h⟩
theorem sc_z5 : FnScope ["thing"] ["thing"] (defScope (top 12)):=⟨rfl, rfl, rfl, by decide +kernel, rfl, by decide +kernel, by decide +kernel⟩
theorem ok_z5 (T : Txt mg K base a_z0 a_z1 a_z2 a_z3 a_z4 a_z5 a_z6 a_z7 a_z8 a_z9 a_z10 a_z11 a_z12 a_z13 a_z14 a_z15 a_z16 a_z17 a_z18 a_z19 a_z20 a_z21 a_z22 a_z23 a_z24 a_z25 a_z26 a_z27 a_z28 a_z29 a_z30) {fd : FuncData} (F : Fun K "is_moment" "is_moment" (top 12) a_z5 fd) {fd_z1 : FuncData} (F_z1 : Fun K "is_within" "is_within" (top 8) a_z1 fd_z1) (b_z1 : Binds K fd_z1 ["thing", "low", "high"] []) (G_z1 : FnOk P' w K mg base CX0 2 a_z1 fd_z1 ["thing", "low", "high"] (spD f_z1)) :
  FnOk P' w K mg base CX0 3 a_z5 fd ["thing"] (spD f_z5):=by
 refine F.ok sc_z5 (fun vs H Q E h=>fn_len h) (fun cdv A outer s H vs Q E hr h=>?_)
 exact ⟨_,(s_one (s_r (d_call G_z1 (hr.mono (by decide)) rfl T.m_z1 F_z1.kp b_z1 (a_cons (d_v 0) (a_cons d_i (a_cons (d_pow d_i d_i) a_nil)))))),r_fn (n:=1) (m:=0) rfl h⟩
theorem sc_z6 : FnScope ["n", "thing"] ["n", "thing"] (defScope (top 13)):=⟨rfl, rfl, rfl, by decide +kernel, rfl, by decide +kernel, by decide +kernel⟩
theorem ok_z6 (T : Txt mg K base a_z0 a_z1 a_z2 a_z3 a_z4 a_z5 a_z6 a_z7 a_z8 a_z9 a_z10 a_z11 a_z12 a_z13 a_z14 a_z15 a_z16 a_z17 a_z18 a_z19 a_z20 a_z21 a_z22 a_z23 a_z24 a_z25 a_z26 a_z27 a_z28 a_z29 a_z30) {fd : FuncData} (F : Fun K "is_tie_either_way" "is_tie_either_way" (top 13) a_z6 fd) {fd_z3 : FuncData} (F_z3 : Fun K "is_place" "is_place" (top 10) a_z3 fd_z3) (b_z3 : Binds K fd_z3 ["n", "thing"] []) (G_z3 : FnOk P' w K mg base CX0 3 a_z3 fd_z3 ["n", "thing"] (spD f_z3)) {fd_z5 : FuncData} (F_z5 : Fun K "is_moment" "is_moment" (top 12) a_z5 fd_z5) (b_z5 : Binds K fd_z5 ["thing"] []) (G_z5 : FnOk P' w K mg base CX0 3 a_z5 fd_z5 ["thing"] (spD f_z5)) :
  FnOk P' w K mg base CX0 4 a_z6 fd ["n", "thing"] (spD f_z6):=by
 refine F.ok sc_z6 (fun vs H Q E h=>fn_len h) (fun cdv A outer s H vs Q E hr h=>?_)
 exact ⟨_,(s_cons (s_if (t_w (w_or (t_not (t_val (d_isi kit_tuple (by rfl) rfl T.n_tuple rfl T.n_isinstance (d_v 1)))) (w_or1 (t_ne hr (d_len rfl T.n_len (a_cons (d_v 1) a_nil)) d_i)))) (s_one (s_r d_b)) s_nil)
  (s_one (s_r (d_and (d_call G_z5 (hr.mono (by decide)) rfl T.m_z5 F_z5.kp b_z5 (a_cons (d_ix (d_v 1) d_i) a_nil)) (d_and (d_call G_z3 (hr.mono (by decide)) rfl T.m_z3 F_z3.kp b_z3 (a_cons (d_v 0) (a_cons (d_ix (d_v 1) d_i) a_nil))) (d_one (d_call G_z3 (hr.mono (by decide)) rfl T.m_z3 F_z3.kp b_z3 (a_cons (d_v 0) (a_cons (d_ix (d_v 1) d_i) a_nil))))))))),r_fn (n:=2) (m:=0) rfl h⟩
theorem sc_z7 : FnScope ["n", "thing"] ["n", "thing"] (defScope (top 14)):=⟨rfl, rfl, rfl, by decide +kernel, rfl, by decide +kernel, by decide +kernel⟩
theorem ok_z7 (T : Txt mg K base a_z0 a_z1 a_z2 a_z3 a_z4 a_z5 a_z6 a_z7 a_z8 a_z9 a_z10 a_z11 a_z12 a_z13 a_z14 a_z15 a_z16 a_z17 a_z18 a_z19 a_z20 a_z21 a_z22 a_z23 a_z24 a_z25 a_z26 a_z27 a_z28 a_z29 a_z30) {fd : FuncData} (F : Fun K "is_tie" "is_tie" (top 14) a_z7 fd) {fd_z6 : FuncData} (F_z6 : Fun K "is_tie_either_way" "is_tie_either_way" (top 13) a_z6 fd_z6) (b_z6 : Binds K fd_z6 ["n", "thing"] []) (G_z6 : FnOk P' w K mg base CX0 4 a_z6 fd_z6 ["n", "thing"] (spD f_z6)) :
  FnOk P' w K mg base CX0 5 a_z7 fd ["n", "thing"] (spD f_z7):=by
 refine F.ok sc_z7 (fun vs H Q E h=>fn_len h) (fun cdv A outer s H vs Q E hr h=>?_)
 exact ⟨_,(s_one (s_r (d_and (d_call G_z6 (hr.mono (by decide)) rfl T.m_z6 F_z6.kp b_z6 (a_cons (d_v 0) (a_cons (d_v 1) a_nil))) (d_one (d_le (d_ix (d_v 1) d_i) (d_ix (d_v 1) d_i)))))),r_fn (n:=2) (m:=0) rfl h⟩
theorem sc_z8 : FnScope ["things"] ["things"] (defScope (top 15)):=⟨rfl, rfl, rfl, by decide +kernel, rfl, by decide +kernel, by decide +kernel⟩
theorem nd0_z8 : (["things", "at"] : List Str).Nodup:=by decide +kernel
theorem ok_z8 (T : Txt mg K base a_z0 a_z1 a_z2 a_z3 a_z4 a_z5 a_z6 a_z7 a_z8 a_z9 a_z10 a_z11 a_z12 a_z13 a_z14 a_z15 a_z16 a_z17 a_z18 a_z19 a_z20 a_z21 a_z22 a_z23 a_z24 a_z25 a_z26 a_z27 a_z28 a_z29 a_z30) {fd : FuncData} (F : Fun K "is_rising" "is_rising" (top 15) a_z8 fd) :
  FnOk P' w K mg base CX0 1 a_z8 fd ["things"] (spD f_z8):=by
 refine F.ok sc_z8 (fun vs H Q E h=>fn_len h) (fun cdv A outer s H vs Q E hr h=>?_)
 exact ⟨_, (s_one (s_r (d_all rfl rfl T.n_all (a_cons (d_cp ["things"] ["at"] (c_n 1 nd0_z8 rfl rfl) (i_R2 rfl T.n_range (a_cons d_i (a_cons (d_len rfl T.n_len (a_cons (d_v 0) a_nil)) a_nil))) (fun _ _ _ _ _=>ts_nil) (fun _ _ _ _ _=>(d_lt (d_ix (d_v 0) (d_sub (d_v 1) d_i)) (d_ix (d_v 0) (d_v 1))))) a_nil)))), r_fn (n:=1) (m:=0) rfl h⟩
theorem sc_z9 : FnScope ["n"] ["n"] (defScope (top 16)):=⟨rfl, rfl, rfl, by decide +kernel, rfl, by decide +kernel, by decide +kernel⟩
theorem ok_z9 (T : Txt mg K base a_z0 a_z1 a_z2 a_z3 a_z4 a_z5 a_z6 a_z7 a_z8 a_z9 a_z10 a_z11 a_z12 a_z13 a_z14 a_z15 a_z16 a_z17 a_z18 a_z19 a_z20 a_z21 a_z22 a_z23 a_z24 a_z25 a_z26 a_z27 a_z28 a_z29 a_z30) {fd : FuncData} (F : Fun K "look_at_places" "look_at_places" (top 16) a_z9 fd) {fd_z2 : FuncData} (F_z2 : Fun K "is_places" "is_places" (top 9) a_z2 fd_z2) (b_z2 : Binds K fd_z2 ["thing"] []) (G_z2 : FnOk P' w K mg base CX0 3 a_z2 fd_z2 ["thing"] (spD f_z2)) :
  FnOk P' w K mg base CX0 4 a_z9 fd ["n"] (spD f_z9):=by
 refine F.ok sc_z9 (fun vs H Q E h=>fn_len h) (fun cdv A outer s H vs Q E hr h=>?_)
 exact ⟨_,(s_one (s_if (t_not (t_val (d_call G_z2 (hr.mono (by decide)) rfl T.m_z2 F_z2.kp b_z2 (a_cons (d_v 0) a_nil)))) (s_one s_never) s_nil)),r_fn (n:=1) (m:=0) rfl h⟩
theorem sc_z10 : FnScope ["k"] ["k"] (defScope (top 17)):=⟨rfl, rfl, rfl, by decide +kernel, rfl, by decide +kernel, by decide +kernel⟩
theorem ok_z10 (T : Txt mg K base a_z0 a_z1 a_z2 a_z3 a_z4 a_z5 a_z6 a_z7 a_z8 a_z9 a_z10 a_z11 a_z12 a_z13 a_z14 a_z15 a_z16 a_z17 a_z18 a_z19 a_z20 a_z21 a_z22 a_z23 a_z24 a_z25 a_z26 a_z27 a_z28 a_z29 a_z30) {fd : FuncData} (F : Fun K "look_at_layers" "look_at_layers" (top 17) a_z10 fd) {fd_z4 : FuncData} (F_z4 : Fun K "is_layers" "is_layers" (top 11) a_z4 fd_z4) (b_z4 : Binds K fd_z4 ["thing"] []) (G_z4 : FnOk P' w K mg base CX0 3 a_z4 fd_z4 ["thing"] (spD f_z4)) :
  FnOk P' w K mg base CX0 4 a_z10 fd ["k"] (spD f_z10):=by
 refine F.ok sc_z10 (fun vs H Q E h=>fn_len h) (fun cdv A outer s H vs Q E hr h=>?_)
 exact ⟨_,(s_one (s_if (t_not (t_val (d_call G_z4 (hr.mono (by decide)) rfl T.m_z4 F_z4.kp b_z4 (a_cons (d_v 0) a_nil)))) (s_one s_never) s_nil)),r_fn (n:=1) (m:=0) rfl h⟩
theorem sc_z11 : FnScope ["record", "side"] ["record", "side"] (defScope (top 19)):=⟨rfl, rfl, rfl, by decide +kernel, rfl, by decide +kernel, by decide +kernel⟩
theorem nd0_z11 : (["record", "side", "moment", "a", "b"] : List Str).Nodup:=by decide +kernel
theorem ok_z11 (T : Txt mg K base a_z0 a_z1 a_z2 a_z3 a_z4 a_z5 a_z6 a_z7 a_z8 a_z9 a_z10 a_z11 a_z12 a_z13 a_z14 a_z15 a_z16 a_z17 a_z18 a_z19 a_z20 a_z21 a_z22 a_z23 a_z24 a_z25 a_z26 a_z27 a_z28 a_z29 a_z30) {fd : FuncData} (F : Fun K "rim" "rim" (top 19) a_z11 fd) :
  FnOk P' w K mg base CX0 1 a_z11 fd ["record", "side"] (spD f_z11):=by
 refine F.ok sc_z11 (fun vs H Q E h=>fn_len h) (fun cdv A outer s H vs Q E hr h=>?_)
 exact ⟨_, (s_one (s_r (d_cpM 0 ["record", "side"] ["moment", "a", "b"] (c_t rfl (fun _ _ _ _ _=>(gs_cons 2 nd0_z11 (gs_cons 3 nd0_z11 (gs_cons 4 nd0_z11 gs_nil))))) (d_v 0) (fun _ _ _ _ _=>ts_one (t_ne hr (d_in hr (d_v 3) (d_v 1)) (d_in hr (d_v 4) (d_v 1)))) (fun _ _ _ _ _=>(d_v 2))))), r_fn (n:=2) (m:=0) rfl h⟩
theorem sc_z12 : FnScope ["groups", "a", "b"] ["groups", "a", "b"] (defScope (top 20)):=⟨rfl, rfl, rfl, by decide +kernel, rfl, by decide +kernel, by decide +kernel⟩
theorem nd0_z12 : (["groups", "a", "b", "group"] : List Str).Nodup:=by decide +kernel
theorem ok_z12 (T : Txt mg K base a_z0 a_z1 a_z2 a_z3 a_z4 a_z5 a_z6 a_z7 a_z8 a_z9 a_z10 a_z11 a_z12 a_z13 a_z14 a_z15 a_z16 a_z17 a_z18 a_z19 a_z20 a_z21 a_z22 a_z23 a_z24 a_z25 a_z26 a_z27 a_z28 a_z29 a_z30) {fd : FuncData} (F : Fun K "merged" "merged" (top 20) a_z12 fd) :
  FnOk P' w K mg base CX0 1 a_z12 fd ["groups", "a", "b"] (spD f_z12):=by
 refine F.ok sc_z12 (fun vs H Q E h=>fn_len h) (fun cdv A outer s H vs Q E hr h=>?_)
 exact ⟨_, (s_one (s_r (d_cpM 0 ["groups", "a", "b"] ["group"] (c_n 3 nd0_z12 rfl rfl) (d_v 0) (fun _ _ _ _ _=>ts_nil) (fun _ _ _ _ _=>(d_if (t_eq hr (d_v 3) (d_ix (d_v 0) (d_v 2))) (d_ix (d_v 0) (d_v 1)) (d_v 3)))))), r_fn (n:=3) (m:=0) rfl h⟩
theorem sc_z13 : FnScope ["layers", "a", "b", "at", "groups"] ["layers", "a", "b"] (defScope (top 23)):=⟨rfl, rfl, rfl, by decide +kernel, rfl, by decide +kernel, by decide +kernel⟩
theorem ok_z13 (T : Txt mg K base a_z0 a_z1 a_z2 a_z3 a_z4 a_z5 a_z6 a_z7 a_z8 a_z9 a_z10 a_z11 a_z12 a_z13 a_z14 a_z15 a_z16 a_z17 a_z18 a_z19 a_z20 a_z21 a_z22 a_z23 a_z24 a_z25 a_z26 a_z27 a_z28 a_z29 a_z30) {fd : FuncData} (F : Fun K "least_layer" "least_layer" (top 23) a_z13 fd) :
  FnOk P' w K mg base CX0 1 a_z13 fd ["layers", "a", "b"] (spD f_z13):=by
 refine F.ok sc_z13 (fun vs H Q E h=>fn_len h) (fun cdv A outer s H vs Q E hr h=>?_)
 exact ⟨_,(s_cons (s_for PassesOwn.never rfl (i_En rfl T.n_enumerate (d_v 0)) (g_t rfl (gs_cons 3 sc_z13.nd (gs_cons 4 sc_z13.nd gs_nil)))
  (s_one (s_if (t_ne hr (d_ix (d_v 4) (d_v 1)) (d_ix (d_v 4) (d_v 2))) (s_one (s_r (d_add (d_v 3) d_i))) s_nil)))
  (s_one (s_r d_i))),r_fn (n:=3) (m:=2) rfl h⟩
theorem sc_z14 : FnScope ["n", "record", "k", "layers", "numbers", "moment", "a", "b", "number"] ["n", "record", "k"] (defScope (top 22)):=⟨rfl, rfl, rfl, by decide +kernel, rfl, by decide +kernel, by decide +kernel⟩
theorem nd0_z14 : (["n", "record", "k", "layers", "numbers", "moment", "a", "b", "number", "layer"] : List Str).Nodup:=by decide +kernel
theorem ok_z14 (T : Txt mg K base a_z0 a_z1 a_z2 a_z3 a_z4 a_z5 a_z6 a_z7 a_z8 a_z9 a_z10 a_z11 a_z12 a_z13 a_z14 a_z15 a_z16 a_z17 a_z18 a_z19 a_z20 a_z21 a_z22 a_z23 a_z24 a_z25 a_z26 a_z27 a_z28 a_z29 a_z30) {fd : FuncData} (F : Fun K "layered" "layered" (top 22) a_z14 fd) {fd_z10 : FuncData} (F_z10 : Fun K "look_at_layers" "look_at_layers" (top 17) a_z10 fd_z10) (b_z10 : Binds K fd_z10 ["k"] []) (G_z10 : FnOk P' w K mg base CX0 4 a_z10 fd_z10 ["k"] (spD f_z10)) {fd_z12 : FuncData} (F_z12 : Fun K "merged" "merged" (top 20) a_z12 fd_z12) (b_z12 : Binds K fd_z12 ["groups", "a", "b"] []) (G_z12 : FnOk P' w K mg base CX0 1 a_z12 fd_z12 ["groups", "a", "b"] (spD f_z12)) {fd_z13 : FuncData} (F_z13 : Fun K "least_layer" "least_layer" (top 23) a_z13 fd_z13) (b_z13 : Binds K fd_z13 ["layers", "a", "b"] []) (G_z13 : FnOk P' w K mg base CX0 1 a_z13 fd_z13 ["layers", "a", "b"] (spD f_z13)) :
  FnOk P' w K mg base CX0 5 a_z14 fd ["n", "record", "k"] (spD f_z14):=by
 refine F.ok sc_z14 (fun vs H Q E h=>fn_len h) (fun cdv A outer s H vs Q E hr h=>?_)
 exact ⟨_,(s_cons (s_e (d_call G_z10 (hr.mono (by decide)) rfl T.m_z10 F_z10.kp b_z10 (a_cons (d_v 2) a_nil)))
  (s_cons (s_cp 3 ["n", "record", "k", "layers", "numbers", "moment", "a", "b", "number"] ["layer"] sc_z14.nd (c_n 9 nd0_z14 rfl rfl) (i_R1 rfl T.n_range (a_cons (d_v 2) a_nil)) (fun _ _ _ _ _=>ts_nil) (fun _ _ _ _ _=>(d_liR1 rfl rfl T.n_list rfl T.n_range (a_cons (d_v 0) a_nil))))
  (s_cons (s_a 4 sc_z14.nd (d_lst a_nil))
  (s_cons (s_for PassesOwn.never rfl (i_Rev rfl T.n_reversed (d_v 1)) (g_t rfl (gs_cons 5 sc_z14.nd (gs_cons 6 sc_z14.nd (gs_cons 7 sc_z14.nd gs_nil))))
  (s_cons (s_a 8 sc_z14.nd (d_call G_z13 (hr.mono (by decide)) rfl T.m_z13 F_z13.kp b_z13 (a_cons (d_v 3) (a_cons (d_v 6) (a_cons (d_v 7) a_nil)))))
  (s_cons (s_if (t_gt (d_v 8) d_i) (s_one (s_set 3 (d_sub (d_v 8) d_i) (d_call G_z12 (hr.mono (by decide)) rfl T.m_z12 F_z12.kp b_z12 (a_cons (d_ix (d_v 3) (d_sub (d_v 8) d_i)) (a_cons (d_v 6) (a_cons (d_v 7) a_nil)))))) s_nil)
  (s_one (s_app 4 (d_v 8))))))
  (s_one (s_r (d_liRev rfl rfl T.n_list rfl T.n_reversed (d_v 4)))))))),r_fn (n:=3) (m:=6) rfl h⟩
theorem sc_z15 : FnScope ["thing"] ["thing"] (defScope (top 27)):=⟨rfl, rfl, rfl, by decide +kernel, rfl, by decide +kernel, by decide +kernel⟩
theorem ok_z15 (T : Txt mg K base a_z0 a_z1 a_z2 a_z3 a_z4 a_z5 a_z6 a_z7 a_z8 a_z9 a_z10 a_z11 a_z12 a_z13 a_z14 a_z15 a_z16 a_z17 a_z18 a_z19 a_z20 a_z21 a_z22 a_z23 a_z24 a_z25 a_z26 a_z27 a_z28 a_z29 a_z30) {fd : FuncData} (F : Fun K "put_in_order" "put_in_order" (top 27) a_z15 fd) :
  FnOk P' w K mg base CX0 1 a_z15 fd ["thing"] (spD f_z15):=by
 refine F.ok sc_z15 (fun vs H Q E h=>fn_len h) (fun cdv A outer s H vs Q E hr h=>?_)
 exact ⟨_,(s_one (s_r (d_tup (a_cons (d_ix (d_v 0) d_i) (a_cons (d_min2 rfl rfl T.n_min (a_cons (d_ix (d_v 0) d_i) (a_cons (d_ix (d_v 0) d_i) a_nil))) (a_cons (d_max2 rfl rfl T.n_max (a_cons (d_ix (d_v 0) d_i) (a_cons (d_ix (d_v 0) d_i) a_nil))) a_nil)))))),r_fn (n:=1) (m:=0) rfl h⟩
theorem sc_z16 : FnScope ["ties", "at"] ["ties"] (defScope (top 28)):=⟨rfl, rfl, rfl, by decide +kernel, rfl, by decide +kernel, by decide +kernel⟩
theorem ok_z16 (T : Txt mg K base a_z0 a_z1 a_z2 a_z3 a_z4 a_z5 a_z6 a_z7 a_z8 a_z9 a_z10 a_z11 a_z12 a_z13 a_z14 a_z15 a_z16 a_z17 a_z18 a_z19 a_z20 a_z21 a_z22 a_z23 a_z24 a_z25 a_z26 a_z27 a_z28 a_z29 a_z30) {fd : FuncData} (F : Fun K "look_for_clash" "look_for_clash" (top 28) a_z16 fd) :
  FnOk P' w K mg base CX0 1 a_z16 fd ["ties"] (spD f_z16):=by
 refine F.ok sc_z16 (fun vs H Q E h=>fn_len h) (fun cdv A outer s H vs Q E hr h=>?_)
 exact ⟨_,(s_one (s_for PassesOwn.never rfl (i_R2 rfl T.n_range (a_cons d_i (a_cons (d_len rfl T.n_len (a_cons (d_v 0) a_nil)) a_nil))) (g_n 1 sc_z16.nd)
  (s_one (s_if (t_eq hr (d_ix (d_ix (d_v 0) (d_sub (d_v 1) d_i)) d_i) (d_ix (d_ix (d_v 0) (d_v 1)) d_i)) (s_one s_never) s_nil)))),r_fn (n:=1) (m:=1) rfl h⟩
theorem sc_z17 : FnScope ["n", "things", "ties"] ["n", "things"] (defScope (top 26)):=⟨rfl, rfl, rfl, by decide +kernel, rfl, by decide +kernel, by decide +kernel⟩
theorem nd0_z17 : (["n", "things", "ties", "thing"] : List Str).Nodup:=by decide +kernel
theorem nd1_z17 : (["n", "things", "ties", "thing"] : List Str).Nodup:=by decide +kernel
theorem ok_z17 (T : Txt mg K base a_z0 a_z1 a_z2 a_z3 a_z4 a_z5 a_z6 a_z7 a_z8 a_z9 a_z10 a_z11 a_z12 a_z13 a_z14 a_z15 a_z16 a_z17 a_z18 a_z19 a_z20 a_z21 a_z22 a_z23 a_z24 a_z25 a_z26 a_z27 a_z28 a_z29 a_z30) {fd : FuncData} (F : Fun K "record_of" "record_of" (top 26) a_z17 fd) {fd_z6 : FuncData} (F_z6 : Fun K "is_tie_either_way" "is_tie_either_way" (top 13) a_z6 fd_z6) (b_z6 : Binds K fd_z6 ["n", "thing"] []) (G_z6 : FnOk P' w K mg base CX0 4 a_z6 fd_z6 ["n", "thing"] (spD f_z6)) {fd_z9 : FuncData} (F_z9 : Fun K "look_at_places" "look_at_places" (top 16) a_z9 fd_z9) (b_z9 : Binds K fd_z9 ["n"] []) (G_z9 : FnOk P' w K mg base CX0 4 a_z9 fd_z9 ["n"] (spD f_z9)) {fd_z15 : FuncData} (F_z15 : Fun K "put_in_order" "put_in_order" (top 27) a_z15 fd_z15) (b_z15 : Binds K fd_z15 ["thing"] []) (G_z15 : FnOk P' w K mg base CX0 1 a_z15 fd_z15 ["thing"] (spD f_z15)) {fd_z16 : FuncData} (F_z16 : Fun K "look_for_clash" "look_for_clash" (top 28) a_z16 fd_z16) (b_z16 : Binds K fd_z16 ["ties"] []) (G_z16 : FnOk P' w K mg base CX0 1 a_z16 fd_z16 ["ties"] (spD f_z16)) :
  FnOk P' w K mg base CX0 5 a_z17 fd ["n", "things"] (spD f_z17):=by
 refine F.ok sc_z17 (fun vs H Q E h=>fn_len h) (fun cdv A outer s H vs Q E hr h=>?_)
 obtain ⟨tk_MOST_TIES,e_MOST_TIES⟩:=T.c_MOST_TIES_ex
 exact ⟨_,(s_cons (s_e (d_call G_z9 (hr.mono (by decide)) rfl T.m_z9 F_z9.kp b_z9 (a_cons (d_v 0) a_nil)))
  (s_cons (s_if (t_w (w_or (t_not (t_val (d_isi kit_list (by rfl) rfl T.n_list rfl T.n_isinstance (d_v 1)))) (w_or1 (t_not (t_val (d_all rfl rfl T.n_all (a_cons (d_cpM 1 ["n", "things", "ties"] ["thing"] (c_n 3 nd0_z17 rfl rfl) (d_v 1) (fun _ _ _ _ _=>ts_nil) (fun _ _ _ _ _=>(d_call G_z6 (hr.mono (by decide)) rfl T.m_z6 F_z6.kp b_z6 (a_cons (d_v 0) (a_cons (d_v 3) a_nil))))) a_nil))))))) (s_one s_never) s_nil)
  (s_cons (s_a 2 sc_z17.nd (d_sortset2 hr rfl rfl T.n_sorted rfl T.n_set (d_cpM 1 ["n", "things", "ties"] ["thing"] (c_n 3 nd1_z17 rfl rfl) (d_v 1) (fun _ _ _ _ _=>ts_nil) (fun _ _ _ _ _=>(d_call G_z15 (hr.mono (by decide)) rfl T.m_z15 F_z15.kp b_z15 (a_cons (d_v 3) a_nil))))))
  (s_cons (s_if (t_gt (d_len rfl T.n_len (a_cons (d_v 2) a_nil)) (d_g rfl e_MOST_TIES)) (s_one s_never) s_nil)
  (s_cons (s_e (d_call G_z16 (hr.mono (by decide)) rfl T.m_z16 F_z16.kp b_z16 (a_cons (d_v 2) a_nil)))
  (s_one (s_r (d_v 2)))))))),r_fn (n:=2) (m:=1) rfl h⟩
theorem sc_z18 : FnScope ["n", "thing"] ["n", "thing"] (defScope (top 29)):=⟨rfl, rfl, rfl, by decide +kernel, rfl, by decide +kernel, by decide +kernel⟩
theorem nd0_z18 : (["n", "thing", "tie"] : List Str).Nodup:=by decide +kernel
theorem nd1_z18 : (["n", "thing", "tie"] : List Str).Nodup:=by decide +kernel
theorem ok_z18 (T : Txt mg K base a_z0 a_z1 a_z2 a_z3 a_z4 a_z5 a_z6 a_z7 a_z8 a_z9 a_z10 a_z11 a_z12 a_z13 a_z14 a_z15 a_z16 a_z17 a_z18 a_z19 a_z20 a_z21 a_z22 a_z23 a_z24 a_z25 a_z26 a_z27 a_z28 a_z29 a_z30) {fd : FuncData} (F : Fun K "is_record" "is_record" (top 29) a_z18 fd) {fd_z2 : FuncData} (F_z2 : Fun K "is_places" "is_places" (top 9) a_z2 fd_z2) (b_z2 : Binds K fd_z2 ["thing"] []) (G_z2 : FnOk P' w K mg base CX0 3 a_z2 fd_z2 ["thing"] (spD f_z2)) {fd_z7 : FuncData} (F_z7 : Fun K "is_tie" "is_tie" (top 14) a_z7 fd_z7) (b_z7 : Binds K fd_z7 ["n", "thing"] []) (G_z7 : FnOk P' w K mg base CX0 5 a_z7 fd_z7 ["n", "thing"] (spD f_z7)) {fd_z8 : FuncData} (F_z8 : Fun K "is_rising" "is_rising" (top 15) a_z8 fd_z8) (b_z8 : Binds K fd_z8 ["things"] []) (G_z8 : FnOk P' w K mg base CX0 1 a_z8 fd_z8 ["things"] (spD f_z8)) :
  FnOk P' w K mg base CX0 6 a_z18 fd ["n", "thing"] (spD f_z18):=by
 refine F.ok sc_z18 (fun vs H Q E h=>fn_len h) (fun cdv A outer s H vs Q E hr h=>?_)
 obtain ⟨tk_MOST_TIES,e_MOST_TIES⟩:=T.c_MOST_TIES_ex
 exact ⟨_,(s_cons (s_if (t_w (w_or (t_not (t_val (d_call G_z2 (hr.mono (by decide)) rfl T.m_z2 F_z2.kp b_z2 (a_cons (d_v 0) a_nil)))) (w_or (t_not (t_val (d_isi kit_list (by rfl) rfl T.n_list rfl T.n_isinstance (d_v 1)))) (w_or1 (t_gt (d_len rfl T.n_len (a_cons (d_v 1) a_nil)) (d_g rfl e_MOST_TIES)))))) (s_one (s_r d_b)) s_nil)
  (s_cons (s_if (t_not (t_val (d_all rfl rfl T.n_all (a_cons (d_cpM 1 ["n", "thing"] ["tie"] (c_n 2 nd0_z18 rfl rfl) (d_v 1) (fun _ _ _ _ _=>ts_nil) (fun _ _ _ _ _=>(d_call G_z7 (hr.mono (by decide)) rfl T.m_z7 F_z7.kp b_z7 (a_cons (d_v 0) (a_cons (d_v 2) a_nil))))) a_nil)))) (s_one (s_r d_b)) s_nil)
  (s_one (s_r (d_call G_z8 (hr.mono (by decide)) rfl T.m_z8 F_z8.kp b_z8 (a_cons (d_cpM 1 ["n", "thing"] ["tie"] (c_n 2 nd1_z18 rfl rfl) (d_v 1) (fun _ _ _ _ _=>ts_nil) (fun _ _ _ _ _=>(d_ix (d_v 2) d_i))) a_nil)))))), r_fn (n:=2) (m:=0) rfl h⟩
theorem sc_z19 : FnScope ["thing"] ["thing"] (defScope (top 31)):=⟨rfl, rfl, rfl, by decide +kernel, rfl, by decide +kernel, by decide +kernel⟩
theorem ok_z19 (T : Txt mg K base a_z0 a_z1 a_z2 a_z3 a_z4 a_z5 a_z6 a_z7 a_z8 a_z9 a_z10 a_z11 a_z12 a_z13 a_z14 a_z15 a_z16 a_z17 a_z18 a_z19 a_z20 a_z21 a_z22 a_z23 a_z24 a_z25 a_z26 a_z27 a_z28 a_z29 a_z30) {fd : FuncData} (F : Fun K "is_net" "is_net" (top 31) a_z19 fd) {fd_z4 : FuncData} (F_z4 : Fun K "is_layers" "is_layers" (top 11) a_z4 fd_z4) (b_z4 : Binds K fd_z4 ["thing"] []) (G_z4 : FnOk P' w K mg base CX0 3 a_z4 fd_z4 ["thing"] (spD f_z4)) {fd_z14 : FuncData} (F_z14 : Fun K "layered" "layered" (top 22) a_z14 fd_z14) (b_z14 : Binds K fd_z14 ["n", "record", "k"] []) (G_z14 : FnOk P' w K mg base CX0 5 a_z14 fd_z14 ["n", "record", "k"] (spD f_z14)) {fd_z18 : FuncData} (F_z18 : Fun K "is_record" "is_record" (top 29) a_z18 fd_z18) (b_z18 : Binds K fd_z18 ["n", "thing"] []) (G_z18 : FnOk P' w K mg base CX0 6 a_z18 fd_z18 ["n", "thing"] (spD f_z18)) :
  FnOk P' w K mg base CX0 7 a_z19 fd ["thing"] (spD f_z19):=by
 refine F.ok sc_z19 (fun vs H Q E h=>fn_len h) (fun cdv A outer s H vs Q E hr h=>?_)
 exact ⟨_,(s_cons (s_if (t_w (w_or (t_not (t_val (d_isi kit_tuple (by rfl) rfl T.n_tuple rfl T.n_isinstance (d_v 0)))) (w_or1 (t_ne hr (d_len rfl T.n_len (a_cons (d_v 0) a_nil)) d_i)))) (s_one (s_r d_b)) s_nil)
  (s_cons (s_if (t_w (w_or (t_not (t_val (d_call G_z4 (hr.mono (by decide)) rfl T.m_z4 F_z4.kp b_z4 (a_cons (d_ix (d_v 0) d_i) a_nil)))) (w_or1 (t_not (t_val (d_call G_z18 (hr.mono (by decide)) rfl T.m_z18 F_z18.kp b_z18 (a_cons (d_ix (d_v 0) d_i) (a_cons (d_ix (d_v 0) d_i) a_nil)))))))) (s_one (s_r d_b)) s_nil)
  (s_one (s_r (d_nin hr d_i (d_call G_z14 (hr.mono (by decide)) rfl T.m_z14 F_z14.kp b_z14 (a_cons (d_ix (d_v 0) d_i) (a_cons (d_ix (d_v 0) d_i) (a_cons (d_ix (d_v 0) d_i) a_nil))))))))),r_fn (n:=1) (m:=0) rfl h⟩
theorem sc_z20 : FnScope ["n", "record", "k", "numbers"] ["n", "record", "k"] (defScope (top 32)):=⟨rfl, rfl, rfl, by decide +kernel, rfl, by decide +kernel, by decide +kernel⟩
theorem nd0_z20 : (["n", "record", "k", "numbers", "tie", "number"] : List Str).Nodup:=by decide +kernel
theorem ok_z20 (T : Txt mg K base a_z0 a_z1 a_z2 a_z3 a_z4 a_z5 a_z6 a_z7 a_z8 a_z9 a_z10 a_z11 a_z12 a_z13 a_z14 a_z15 a_z16 a_z17 a_z18 a_z19 a_z20 a_z21 a_z22 a_z23 a_z24 a_z25 a_z26 a_z27 a_z28 a_z29 a_z30) {fd : FuncData} (F : Fun K "net_of" "net_of" (top 32) a_z20 fd) {fd_z14 : FuncData} (F_z14 : Fun K "layered" "layered" (top 22) a_z14 fd_z14) (b_z14 : Binds K fd_z14 ["n", "record", "k"] []) (G_z14 : FnOk P' w K mg base CX0 5 a_z14 fd_z14 ["n", "record", "k"] (spD f_z14)) :
  FnOk P' w K mg base CX0 6 a_z20 fd ["n", "record", "k"] (spD f_z20):=by
 refine F.ok sc_z20 (fun vs H Q E h=>fn_len h) (fun cdv A outer s H vs Q E hr h=>?_)
 exact ⟨_,(s_cons (s_a 3 sc_z20.nd (d_call G_z14 (hr.mono (by decide)) rfl T.m_z14 F_z14.kp b_z14 (a_cons (d_v 0) (a_cons (d_v 1) (a_cons (d_v 2) a_nil)))))
  (s_one (s_r (d_tup (a_cons (d_v 0) (a_cons (d_v 2) (a_cons (d_cp ["n", "record", "k", "numbers"] ["tie", "number"] (c_t rfl (fun _ _ _ _ _=>(gs_cons 4 nd0_z20 (gs_cons 5 nd0_z20 gs_nil)))) (i_Zip rfl T.n_zip (a_cons (d_v 1) (a_cons (d_v 3) a_nil))) (fun _ _ _ _ _=>ts_one (t_gt (d_v 5) d_i)) (fun _ _ _ _ _=>(d_v 4))) a_nil))))))), r_fn (n:=3) (m:=1) rfl h⟩
theorem sc_z21 : FnScope ["script", "k", "cell", "number", "found", "turn"] ["script", "k"] (defScope (top 34)):=⟨rfl, rfl, rfl, by decide +kernel, rfl, by decide +kernel, by decide +kernel⟩
theorem ok_z21 (T : Txt mg K base a_z0 a_z1 a_z2 a_z3 a_z4 a_z5 a_z6 a_z7 a_z8 a_z9 a_z10 a_z11 a_z12 a_z13 a_z14 a_z15 a_z16 a_z17 a_z18 a_z19 a_z20 a_z21 a_z22 a_z23 a_z24 a_z25 a_z26 a_z27 a_z28 a_z29 a_z30) {fd : FuncData} (F : Fun K "_law_pool" "_law_pool" (top 34) a_z21 fd) :
  FnOk P' w K mg base CX0 1 a_z21 fd ["script", "k"] (spD f_z21):=by
 refine F.ok sc_z21 (fun vs H Q E h=>fn_len h) (fun cdv A outer s H vs Q E hr h=>?_)
 exact ⟨_,(s_cons (s_a 2 sc_z21.nd d_i)
  (s_cons (s_if (t_lt (d_v 1) (d_len rfl T.n_len (a_cons (d_v 0) a_nil))) (s_one (s_a 2 sc_z21.nd (d_ix (d_v 0) (d_v 1)))) s_nil)
  (s_cons (s_if (t_ge (d_v 2) (d_pow d_i d_i)) (s_one (s_r (d_lst (a_cons (d_mod (d_v 2) (d_mulB (d_mulB (d_mulB (d_mulB (d_pow d_i d_i) (d_pow d_i d_i)) (d_pow d_i d_i)) (d_pow d_i d_i)) (d_pow d_i d_i))) a_nil)))) s_nil)
  (s_cons (s_a 3 sc_z21.nd (d_mod (d_add (d_add (d_add (d_v 2) (d_mul (d_mul d_i (d_v 1)) (d_v 1))) (d_mul d_i (d_v 1))) d_i) d_i))
  (s_cons (s_a 4 sc_z21.nd d_i)
  (s_cons (s_for PassesOwn.never rfl (i_R1 rfl T.n_range (a_cons d_i a_nil)) (g_n 5 sc_z21.nd)
  (s_cons (s_a 3 sc_z21.nd (d_mod (d_add (d_add (d_mul (d_v 3) d_i) (d_mul d_i (d_v 5))) d_i) d_i))
  (s_cons (s_a 3 sc_z21.nd (d_mod (d_mul (d_v 3) (d_v 3)) d_i))
  (s_one (s_a 4 sc_z21.nd (d_add (d_mul (d_v 4) d_i) (d_mod (d_add (d_mul (d_v 3) d_i) (d_v 1)) d_i)))))))
  (s_one (s_r (d_lst (a_cons (d_v 4) a_nil)))))))))),r_fn (n:=2) (m:=4) rfl h⟩
theorem sc_z22 : FnScope ["pool", "many", "digit"] ["pool", "many"] (defScope (top 35)):=⟨rfl, rfl, rfl, by decide +kernel, rfl, by decide +kernel, by decide +kernel⟩
theorem ok_z22 (T : Txt mg K base a_z0 a_z1 a_z2 a_z3 a_z4 a_z5 a_z6 a_z7 a_z8 a_z9 a_z10 a_z11 a_z12 a_z13 a_z14 a_z15 a_z16 a_z17 a_z18 a_z19 a_z20 a_z21 a_z22 a_z23 a_z24 a_z25 a_z26 a_z27 a_z28 a_z29 a_z30) {fd : FuncData} (F : Fun K "_law_take" "_law_take" (top 35) a_z22 fd) :
  FnOk P' w K mg base CX0 1 a_z22 fd ["pool", "many"] (spM f_z22):=by
 refine F.ok sc_z22 (fun vs H Q E h=>fnM_len h) (fun cdv A outer s H vs Q E hr h=>?_)
 exact ⟨_,(s_cons (s_a 2 sc_z22.nd (d_mod (d_ix (d_v 0) d_i) (d_v 1)))
  (s_cons (s_set 0 d_i (d_div (d_ix (d_v 0) d_i) (d_v 1)))
  (s_one (s_r (d_v 2))))),r_fnM (n:=2) (m:=1) rfl h⟩
theorem sc_z23 : FnScope ["pool"] ["pool"] (defScope (top 36)):=⟨rfl, rfl, rfl, by decide +kernel, rfl, by decide +kernel, by decide +kernel⟩
theorem ok_z23 (T : Txt mg K base a_z0 a_z1 a_z2 a_z3 a_z4 a_z5 a_z6 a_z7 a_z8 a_z9 a_z10 a_z11 a_z12 a_z13 a_z14 a_z15 a_z16 a_z17 a_z18 a_z19 a_z20 a_z21 a_z22 a_z23 a_z24 a_z25 a_z26 a_z27 a_z28 a_z29 a_z30) {fd : FuncData} (F : Fun K "_law_many" "_law_many" (top 36) a_z23 fd) {fd_z22 : FuncData} (F_z22 : Fun K "_law_take" "_law_take" (top 35) a_z22 fd_z22) (b_z22 : Binds K fd_z22 ["pool", "many"] []) (G_z22 : FnOk P' w K mg base CX0 1 a_z22 fd_z22 ["pool", "many"] (spM f_z22)) :
  FnOk P' w K mg base CX0 2 a_z23 fd ["pool"] (spM f_z23):=by
 refine F.ok sc_z23 (fun vs H Q E h=>fnM_len h) (fun cdv A outer s H vs Q E hr h=>?_)
 exact ⟨_,(s_one (s_r (d_ix (d_lst (@a_cons _ _ _ _ _ d_i (@a_cons _ _ _ _ _ d_i (@a_cons _ _ _ _ _ d_i (@a_cons _ _ _ _ _ d_i (@a_cons _ _ _ _ _ d_i (@a_cons _ _ _ _ _ d_i (@a_cons _ _ _ _ _ d_i (@a_cons _ _ _ _ _ d_i a_nil rfl) rfl) rfl) rfl) rfl) rfl) rfl) rfl)) (d_callM G_z22 (hr.mono (by decide)) rfl T.m_z22 F_z22.kp b_z22 (a_cons (d_v 0) (a_cons d_i a_nil)))))),r_fnM (n:=1) (m:=0) rfl h⟩
theorem sc_z24 : FnScope ["pool", "n", "most", "many", "kind", "step", "times", "way", "moment", "found", "k", "one", "other"] ["pool", "n", "most"] (defScope (top 37)):=⟨rfl, rfl, rfl, by decide +kernel, rfl, by decide +kernel, by decide +kernel⟩
theorem ok_z24 (T : Txt mg K base a_z0 a_z1 a_z2 a_z3 a_z4 a_z5 a_z6 a_z7 a_z8 a_z9 a_z10 a_z11 a_z12 a_z13 a_z14 a_z15 a_z16 a_z17 a_z18 a_z19 a_z20 a_z21 a_z22 a_z23 a_z24 a_z25 a_z26 a_z27 a_z28 a_z29 a_z30) {fd : FuncData} (F : Fun K "_law_record" "_law_record" (top 37) a_z24 fd) {fd_z22 : FuncData} (F_z22 : Fun K "_law_take" "_law_take" (top 35) a_z22 fd_z22) (b_z22 : Binds K fd_z22 ["pool", "many"] []) (G_z22 : FnOk P' w K mg base CX0 1 a_z22 fd_z22 ["pool", "many"] (spM f_z22)) :
  FnOk P' w K mg base CX0 2 a_z24 fd ["pool", "n", "most"] (spM f_z24):=by
 refine F.ok sc_z24 (fun vs H Q E h=>fnM_len h) (fun cdv A outer s H vs Q E hr h=>?_)
 exact ⟨_,(s_cons (s_a 3 sc_z24.nd (d_callM G_z22 (hr.mono (by decide)) rfl T.m_z22 F_z22.kp b_z22 (a_cons (d_v 0) (a_cons (d_add (d_v 2) d_i) a_nil))))
  (s_cons (s_a 4 sc_z24.nd (d_callM G_z22 (hr.mono (by decide)) rfl T.m_z22 F_z22.kp b_z22 (a_cons (d_v 0) (a_cons d_i a_nil))))
  (s_cons (s_a 5 sc_z24.nd (d_ix (d_lst (a_cons d_i (a_cons d_i (a_cons (d_pow d_i d_i) (a_cons d_i a_nil))))) (d_v 4)))
  (s_cons (s_a 6 sc_z24.nd (d_ix (d_lst (a_cons d_i (a_cons (d_pow d_i d_i) a_nil))) (d_int rfl T.n_int (a_cons (d_eq hr (d_v 4) d_i) a_nil))))
  (s_cons (s_a 7 sc_z24.nd (d_callM G_z22 (hr.mono (by decide)) rfl T.m_z22 F_z22.kp b_z22 (a_cons (d_v 0) (a_cons d_i a_nil))))
  (s_cons (s_a 8 sc_z24.nd (d_mul (d_callM G_z22 (hr.mono (by decide)) rfl T.m_z22 F_z22.kp b_z22 (a_cons (d_v 0) (a_cons (d_v 5) a_nil))) (d_v 6)))
  (s_cons (s_a 9 sc_z24.nd (d_lst a_nil))
  (s_cons (s_for PassesOwn.never rfl (i_R1 rfl T.n_range (a_cons (d_v 3) a_nil)) (g_n 10 sc_z24.nd)
  (s_cons (s_a 11 sc_z24.nd (d_callM G_z22 (hr.mono (by decide)) rfl T.m_z22 F_z22.kp b_z22 (a_cons (d_v 0) (a_cons (d_v 1) a_nil))))
  (s_cons (s_a 12 sc_z24.nd (d_callM G_z22 (hr.mono (by decide)) rfl T.m_z22 F_z22.kp b_z22 (a_cons (d_v 0) (a_cons (d_v 1) a_nil))))
  (s_cons (s_if (t_eq hr (d_v 7) d_i) (s_one (s_a 12 sc_z24.nd (d_mod (d_add (d_v 11) d_i) (d_v 1)))) s_nil)
  (s_cons (s_if (t_eq hr (d_v 7) d_i) (s_one (s_a 12 sc_z24.nd (d_mod (d_mod (d_add (d_add (d_v 11) (d_mod (d_v 12) d_i)) d_i) (d_min2 rfl rfl T.n_min (a_cons (d_v 1) (a_cons d_i a_nil)))) (d_v 1)))) s_nil)
  (s_cons (s_app 9 (d_tup (a_cons (d_v 8) (a_cons (d_min2 rfl rfl T.n_min (a_cons (d_v 11) (a_cons (d_v 12) a_nil))) (a_cons (d_max2 rfl rfl T.n_max (a_cons (d_v 11) (a_cons (d_v 12) a_nil))) a_nil)))))
  (s_one (s_a 8 sc_z24.nd (d_add (d_add (d_v 8) d_i) (d_mul (d_callM G_z22 (hr.mono (by decide)) rfl T.m_z22 F_z22.kp b_z22 (a_cons (d_v 0) (a_cons (d_v 5) a_nil))) (d_v 6)))))))))))
  (s_one (s_r (d_v 9))))))))))),r_fnM (n:=3) (m:=10) rfl h⟩
theorem sc_z25 : FnScope ["record", "t"] ["record", "t"] (defScope (top 39)):=⟨rfl, rfl, rfl, by decide +kernel, rfl, by decide +kernel, by decide +kernel⟩
theorem nd0_z25 : (["record", "t", "tie"] : List Str).Nodup:=by decide +kernel
theorem ok_z25 (T : Txt mg K base a_z0 a_z1 a_z2 a_z3 a_z4 a_z5 a_z6 a_z7 a_z8 a_z9 a_z10 a_z11 a_z12 a_z13 a_z14 a_z15 a_z16 a_z17 a_z18 a_z19 a_z20 a_z21 a_z22 a_z23 a_z24 a_z25 a_z26 a_z27 a_z28 a_z29 a_z30) {fd : FuncData} (F : Fun K "_law_since" "_law_since" (top 39) a_z25 fd) :
  FnOk P' w K mg base CX0 1 a_z25 fd ["record", "t"] (spD f_z25):=by
 refine F.ok sc_z25 (fun vs H Q E h=>fn_len h) (fun cdv A outer s H vs Q E hr h=>?_)
 exact ⟨_, (s_one (s_r (d_cpM 0 ["record", "t"] ["tie"] (c_n 2 nd0_z25 rfl rfl) (d_v 0) (fun _ _ _ _ _=>ts_one (t_ge (d_ix (d_v 2) d_i) (d_v 1))) (fun _ _ _ _ _=>(d_v 2))))), r_fn (n:=2) (m:=0) rfl h⟩
theorem sc_z26 : FnScope ["ties", "side"] ["ties", "side"] (defScope (top 42)):=⟨rfl, rfl, rfl, by decide +kernel, rfl, by decide +kernel, by decide +kernel⟩
theorem nd0_z26 : (["ties", "side", "tie"] : List Str).Nodup:=by decide +kernel
theorem ok_z26 (T : Txt mg K base a_z0 a_z1 a_z2 a_z3 a_z4 a_z5 a_z6 a_z7 a_z8 a_z9 a_z10 a_z11 a_z12 a_z13 a_z14 a_z15 a_z16 a_z17 a_z18 a_z19 a_z20 a_z21 a_z22 a_z23 a_z24 a_z25 a_z26 a_z27 a_z28 a_z29 a_z30) {fd : FuncData} (F : Fun K "_law_rim" "_law_rim" (top 42) a_z26 fd) :
  FnOk P' w K mg base CX0 1 a_z26 fd ["ties", "side"] (spD f_z26):=by
 refine F.ok sc_z26 (fun vs H Q E h=>fn_len h) (fun cdv A outer s H vs Q E hr h=>?_)
 exact ⟨_, (s_one (s_r (d_cpM 0 ["ties", "side"] ["tie"] (c_n 2 nd0_z26 rfl rfl) (d_v 0) (fun _ _ _ _ _=>ts_one (t_ne hr (d_in hr (d_ix (d_v 2) d_i) (d_v 1)) (d_in hr (d_ix (d_v 2) d_i) (d_v 1)))) (fun _ _ _ _ _=>(d_ix (d_v 2) d_i))))), r_fn (n:=2) (m:=0) rfl h⟩
theorem sc_z27 : FnScope ["n", "found", "place"] ["n"] (defScope (top 46)):=⟨rfl, rfl, rfl, by decide +kernel, rfl, by decide +kernel, by decide +kernel⟩
theorem nd0_z27 : (["n", "found", "place", "side"] : List Str).Nodup:=by decide +kernel
theorem ok_z27 (T : Txt mg K base a_z0 a_z1 a_z2 a_z3 a_z4 a_z5 a_z6 a_z7 a_z8 a_z9 a_z10 a_z11 a_z12 a_z13 a_z14 a_z15 a_z16 a_z17 a_z18 a_z19 a_z20 a_z21 a_z22 a_z23 a_z24 a_z25 a_z26 a_z27 a_z28 a_z29 a_z30) {fd : FuncData} (F : Fun K "_law_sides" "_law_sides" (top 46) a_z27 fd) :
  FnOk P' w K mg base CX0 1 a_z27 fd ["n"] (spD f_z27):=by
 refine F.ok sc_z27 (fun vs H Q E h=>fn_len h) (fun cdv A outer s H vs Q E hr h=>?_)
 exact ⟨_,(s_cons (s_a 1 sc_z27.nd (d_lst (a_cons (d_tup a_nil) a_nil)))
  (s_cons (s_for PassesOwn.never rfl (i_R2 rfl T.n_range (a_cons d_i (a_cons (d_v 0) a_nil))) (g_n 2 sc_z27.nd)
  (s_one (s_a 1 sc_z27.nd (d_add (d_v 1) (d_cpM 1 ["n", "found", "place"] ["side"] (c_n 3 nd0_z27 rfl rfl) (d_v 1) (fun _ _ _ _ _=>ts_nil) (fun _ _ _ _ _=>(d_catU (d_v 3) (d_tup (a_cons (d_v 2) a_nil)))))))))
  (s_one (s_r (d_sl (d_v 1) (o_s d_i) o_n))))),r_fn (n:=1) (m:=2) rfl h⟩
theorem sc_z28 : FnScope ["pool", "record", "left", "found", "turn", "moment", "a", "b"] ["pool", "record"] (defScope (top 48)):=⟨rfl, rfl, rfl, by decide +kernel, rfl, by decide +kernel, by decide +kernel⟩
theorem ok_z28 (T : Txt mg K base a_z0 a_z1 a_z2 a_z3 a_z4 a_z5 a_z6 a_z7 a_z8 a_z9 a_z10 a_z11 a_z12 a_z13 a_z14 a_z15 a_z16 a_z17 a_z18 a_z19 a_z20 a_z21 a_z22 a_z23 a_z24 a_z25 a_z26 a_z27 a_z28 a_z29 a_z30) {fd : FuncData} (F : Fun K "_law_told" "_law_told" (top 48) a_z28 fd) {fd_z22 : FuncData} (F_z22 : Fun K "_law_take" "_law_take" (top 35) a_z22 fd_z22) (b_z22 : Binds K fd_z22 ["pool", "many"] []) (G_z22 : FnOk P' w K mg base CX0 1 a_z22 fd_z22 ["pool", "many"] (spM f_z22)) :
  FnOk P' w K mg base CX0 2 a_z28 fd ["pool", "record"] (spM f_z28):=by
 refine F.ok sc_z28 (fun vs H Q E h=>fnM_len h) (fun cdv A outer s H vs Q E hr h=>?_)
 exact ⟨_,(s_cons (s_a 2 sc_z28.nd (d_list rfl T.n_list (a_cons (d_v 1) a_nil)))
  (s_cons (s_a 3 sc_z28.nd (d_lst a_nil))
  (s_cons (s_for PassesOwn.never rfl (i_R1 rfl T.n_range (a_cons (d_len rfl T.n_len (a_cons (d_v 1) a_nil)) a_nil)) (g_n 4 sc_z28.nd)
  (s_cons (s_u rfl (gs_cons 5 sc_z28.nd (gs_cons 6 sc_z28.nd (gs_cons 7 sc_z28.nd gs_nil))) (d_popAt 2 (d_callM G_z22 (hr.mono (by decide)) rfl T.m_z22 F_z22.kp b_z22 (a_cons (d_v 0) (a_cons (d_len rfl T.n_len (a_cons (d_v 2) a_nil)) a_nil)))))
  (s_cons (s_if (t_eq hr (d_callM G_z22 (hr.mono (by decide)) rfl T.m_z22 F_z22.kp b_z22 (a_cons (d_v 0) (a_cons d_i a_nil))) d_i) (s_one (s_par 6 7 rfl sc_z28.nd (a_cons (d_v 7) (a_cons (d_v 6) a_nil)))) s_nil)
  (s_cons (s_app 3 (d_tup (a_cons (d_v 5) (a_cons (d_v 6) (a_cons (d_v 7) a_nil)))))
  (s_one (s_if (t_eq hr (d_callM G_z22 (hr.mono (by decide)) rfl T.m_z22 F_z22.kp b_z22 (a_cons (d_v 0) (a_cons d_i a_nil))) d_i) (s_one (s_app 3 (d_tup (a_cons (d_v 5) (a_cons (d_v 7) (a_cons (d_v 6) a_nil)))))) s_nil))))))
  (s_one (s_r (d_v 3)))))),r_fnM (n:=2) (m:=6) rfl h⟩
theorem sc_z29 : FnScope ["n", "k", "record", "ties", "t", "young", "kept", "side", "due", "found"] ["n", "k", "record", "ties", "t"] (defScope (top 49)):=⟨rfl, rfl, rfl, by decide +kernel, rfl, by decide +kernel, by decide +kernel⟩
theorem ok_z29 (T : Txt mg K base a_z0 a_z1 a_z2 a_z3 a_z4 a_z5 a_z6 a_z7 a_z8 a_z9 a_z10 a_z11 a_z12 a_z13 a_z14 a_z15 a_z16 a_z17 a_z18 a_z19 a_z20 a_z21 a_z22 a_z23 a_z24 a_z25 a_z26 a_z27 a_z28 a_z29 a_z30) {fd : FuncData} (F : Fun K "_law_holds" "_law_holds" (top 49) a_z29 fd) {fd_z11 : FuncData} (F_z11 : Fun K "rim" "rim" (top 19) a_z11 fd_z11) (b_z11 : Binds K fd_z11 ["record", "side"] []) (G_z11 : FnOk P' w K mg base CX0 1 a_z11 fd_z11 ["record", "side"] (spD f_z11)) {fd_z25 : FuncData} (F_z25 : Fun K "_law_since" "_law_since" (top 39) a_z25 fd_z25) (b_z25 : Binds K fd_z25 ["record", "t"] []) (G_z25 : FnOk P' w K mg base CX0 1 a_z25 fd_z25 ["record", "t"] (spD f_z25)) {fd_z26 : FuncData} (F_z26 : Fun K "_law_rim" "_law_rim" (top 42) a_z26 fd_z26) (b_z26 : Binds K fd_z26 ["ties", "side"] []) (G_z26 : FnOk P' w K mg base CX0 1 a_z26 fd_z26 ["ties", "side"] (spD f_z26)) {fd_z27 : FuncData} (F_z27 : Fun K "_law_sides" "_law_sides" (top 46) a_z27 fd_z27) (b_z27 : Binds K fd_z27 ["n"] []) (G_z27 : FnOk P' w K mg base CX0 1 a_z27 fd_z27 ["n"] (spD f_z27)) :
  FnOk P' w K mg base CX0 2 a_z29 fd ["n", "k", "record", "ties", "t"] (spD f_z29):=by
 refine F.ok sc_z29 (fun vs H Q E h=>fn_len h) (fun cdv A outer s H vs Q E hr h=>?_)
 exact ⟨_,(s_cons (s_a 5 sc_z29.nd (d_call G_z25 (hr.mono (by decide)) rfl T.m_z25 F_z25.kp b_z25 (a_cons (d_v 2) (a_cons (d_v 4) a_nil))))
  (s_cons (s_a 6 sc_z29.nd (d_call G_z25 (hr.mono (by decide)) rfl T.m_z25 F_z25.kp b_z25 (a_cons (d_v 3) (a_cons (d_v 4) a_nil))))
  (s_cons (s_for PassesOwn.never rfl (i_S (d_add (d_add (d_lst (a_cons (d_tup a_nil) a_nil)) (d_call G_z27 (hr.mono (by decide)) rfl T.m_z27 F_z27.kp b_z27 (a_cons (d_v 0) a_nil))) (d_lst (a_cons (d_tuR1 rfl rfl T.n_tuple rfl T.n_range (a_cons (d_v 0) a_nil)) (a_cons (d_tup (a_cons d_i a_nil)) a_nil))))) (g_n 7 sc_z29.nd)
  (s_cons (s_a 8 sc_z29.nd (d_call G_z26 (hr.mono (by decide)) rfl T.m_z26 F_z26.kp b_z26 (a_cons (d_v 5) (a_cons (d_v 7) a_nil))))
  (s_cons (s_a 9 sc_z29.nd (d_call G_z11 (hr.mono (by decide)) rfl T.m_z11 F_z11.kp b_z11 (a_cons (d_v 6) (a_cons (d_v 7) a_nil))))
  (s_cons (s_if (t_ne hr (d_v 9) (d_call G_z26 (hr.mono (by decide)) rfl T.m_z26 F_z26.kp b_z26 (a_cons (d_v 6) (a_cons (d_v 7) a_nil)))) (s_one (s_r d_b)) s_nil)
  (s_one (s_if (t_w (w_or (t_w (w_and (t_lt (d_len rfl T.n_len (a_cons (d_v 8) a_nil)) (d_v 1)) (w_and1 (t_ne hr (d_v 9) (d_v 8))))) (w_or1 (t_w (w_and (t_ge (d_len rfl T.n_len (a_cons (d_v 8) a_nil)) (d_v 1)) (w_and1 (t_lt (d_len rfl T.n_len (a_cons (d_v 9) a_nil)) (d_v 1)))))))) (s_one (s_r d_b)) s_nil))))))
  (s_one (s_r d_b))))),r_fn (n:=5) (m:=5) rfl h⟩
theorem sc_z30 : FnScope ["script", "at", "pool", "n", "k", "record", "told", "net", "t"] ["script"] (defScope (top 50)):=⟨rfl, rfl, rfl, by decide +kernel, rfl, by decide +kernel, by decide +kernel⟩
theorem nd0_z30 : (["script", "at", "pool", "n", "k", "record", "told", "net", "t", "tie"] : List Str).Nodup:=by decide +kernel
theorem nd1_z30 : (["script", "at", "pool", "n", "k", "record", "told", "net", "t", "tie"] : List Str).Nodup:=by decide +kernel
theorem nd2_z30 : (["script", "at", "pool", "n", "k", "record", "told", "net", "t", "tie"] : List Str).Nodup:=by decide +kernel
theorem ok_z30 (T : Txt mg K base a_z0 a_z1 a_z2 a_z3 a_z4 a_z5 a_z6 a_z7 a_z8 a_z9 a_z10 a_z11 a_z12 a_z13 a_z14 a_z15 a_z16 a_z17 a_z18 a_z19 a_z20 a_z21 a_z22 a_z23 a_z24 a_z25 a_z26 a_z27 a_z28 a_z29 a_z30) {fd : FuncData} (F : Fun K "law" "law" (top 50) a_z30 fd) {fd_z17 : FuncData} (F_z17 : Fun K "record_of" "record_of" (top 26) a_z17 fd_z17) (b_z17 : Binds K fd_z17 ["n", "things"] []) (G_z17 : FnOk P' w K mg base CX0 5 a_z17 fd_z17 ["n", "things"] (spD f_z17)) {fd_z19 : FuncData} (F_z19 : Fun K "is_net" "is_net" (top 31) a_z19 fd_z19) (b_z19 : Binds K fd_z19 ["thing"] []) (G_z19 : FnOk P' w K mg base CX0 7 a_z19 fd_z19 ["thing"] (spD f_z19)) {fd_z20 : FuncData} (F_z20 : Fun K "net_of" "net_of" (top 32) a_z20 fd_z20) (b_z20 : Binds K fd_z20 ["n", "record", "k"] []) (G_z20 : FnOk P' w K mg base CX0 6 a_z20 fd_z20 ["n", "record", "k"] (spD f_z20)) {fd_z21 : FuncData} (F_z21 : Fun K "_law_pool" "_law_pool" (top 34) a_z21 fd_z21) (b_z21 : Binds K fd_z21 ["script", "k"] []) (G_z21 : FnOk P' w K mg base CX0 1 a_z21 fd_z21 ["script", "k"] (spD f_z21)) {fd_z22 : FuncData} (F_z22 : Fun K "_law_take" "_law_take" (top 35) a_z22 fd_z22) (b_z22 : Binds K fd_z22 ["pool", "many"] []) (G_z22 : FnOk P' w K mg base CX0 1 a_z22 fd_z22 ["pool", "many"] (spM f_z22)) {fd_z23 : FuncData} (F_z23 : Fun K "_law_many" "_law_many" (top 36) a_z23 fd_z23) (b_z23 : Binds K fd_z23 ["pool"] []) (G_z23 : FnOk P' w K mg base CX0 2 a_z23 fd_z23 ["pool"] (spM f_z23)) {fd_z24 : FuncData} (F_z24 : Fun K "_law_record" "_law_record" (top 37) a_z24 fd_z24) (b_z24 : Binds K fd_z24 ["pool", "n", "most"] []) (G_z24 : FnOk P' w K mg base CX0 2 a_z24 fd_z24 ["pool", "n", "most"] (spM f_z24)) {fd_z28 : FuncData} (F_z28 : Fun K "_law_told" "_law_told" (top 48) a_z28 fd_z28) (b_z28 : Binds K fd_z28 ["pool", "record"] []) (G_z28 : FnOk P' w K mg base CX0 2 a_z28 fd_z28 ["pool", "record"] (spM f_z28)) {fd_z29 : FuncData} (F_z29 : Fun K "_law_holds" "_law_holds" (top 49) a_z29 fd_z29) (b_z29 : Binds K fd_z29 ["n", "k", "record", "ties", "t"] []) (G_z29 : FnOk P' w K mg base CX0 2 a_z29 fd_z29 ["n", "k", "record", "ties", "t"] (spD f_z29)) :
  FnOk P' w K mg base CX0 8 a_z30 fd ["script"] (spD f_z30):=by
 refine F.ok sc_z30 (fun vs H Q E h=>fn_len h) (fun cdv A outer s H vs Q E hr h=>?_)
 exact ⟨_,(s_cons (s_for PassesOwn.never rfl (i_Rs rfl T.n_range (a_cons d_i (a_cons (d_max2 rfl rfl T.n_max (a_cons d_i (a_cons (d_min2 rfl rfl T.n_min (a_cons (d_len rfl T.n_len (a_cons (d_v 0) a_nil)) (a_cons d_i a_nil))) a_nil))) (a_cons d_i a_nil)))) (g_n 1 sc_z30.nd)
  (s_cons (s_a 2 sc_z30.nd (d_call G_z21 (hr.mono (by decide)) rfl T.m_z21 F_z21.kp b_z21 (a_cons (d_v 0) (a_cons (d_v 1) a_nil))))
  (s_cons (s_a 3 sc_z30.nd (d_callM G_z23 (hr.mono (by decide)) rfl T.m_z23 F_z23.kp b_z23 (a_cons (d_v 2) a_nil)))
  (s_cons (s_a 4 sc_z30.nd (d_add d_i (d_callM G_z22 (hr.mono (by decide)) rfl T.m_z22 F_z22.kp b_z22 (a_cons (d_v 2) (a_cons d_i a_nil)))))
  (s_cons (s_a 5 sc_z30.nd (d_callN G_z24 (hr.mono (by decide)) rfl T.m_z24 F_z24.kp b_z24 (a_cons (d_call G_z21 (hr.mono (by decide)) rfl T.m_z21 F_z21.kp b_z21 (a_cons (d_v 0) (a_cons (d_add (d_v 1) d_i) a_nil))) (a_cons (d_v 3) (a_cons (d_ix (d_lst (a_cons d_i (a_cons d_i a_nil))) (d_int rfl T.n_int (a_cons (d_gt (d_v 3) d_i) a_nil))) a_nil)))))
  (s_cons (s_a 6 sc_z30.nd (d_share 5 (d_call G_z17 (hr.mono (by decide)) rfl T.m_z17 F_z17.kp b_z17 (a_cons (d_v 3) (a_cons (d_callN G_z28 (hr.mono (by decide)) rfl T.m_z28 F_z28.kp b_z28 (a_cons (d_call G_z21 (hr.mono (by decide)) rfl T.m_z21 F_z21.kp b_z21 (a_cons (d_v 0) (a_cons (d_add (d_v 1) d_i) a_nil))) (a_cons (d_v 5) a_nil))) a_nil)))))
  (s_cons (s_a 7 sc_z30.nd (d_call G_z20 (hr.mono (by decide)) rfl T.m_z20 F_z20.kp b_z20 (a_cons (d_v 3) (a_cons (d_v 6) (a_cons (d_v 4) a_nil)))))
  (s_cons (s_if (t_w (w_or (t_ne hr (d_v 6) (d_v 5)) (w_or (t_isn (d_call G_z19 (hr.mono (by decide)) rfl T.m_z19 F_z19.kp b_z19 (a_cons (d_v 7) a_nil)) d_b) (w_or (t_ne hr (d_slT (d_v 7) o_n (o_s d_i)) (d_tup (a_cons (d_v 3) (a_cons (d_v 4) a_nil)))) (w_or1 (t_gt (d_len rfl T.n_len (a_cons (d_ix (d_v 7) d_i) a_nil)) (d_mul (d_v 4) (d_sub (d_v 3) d_i)))))))) (s_one (s_r d_b)) s_nil)
  (s_cons (s_if (t_ne hr (d_cpM 5 ["script", "at", "pool", "n", "k", "record", "told", "net", "t"] ["tie"] (c_n 9 nd0_z30 rfl rfl) (d_v 5) (fun _ _ _ _ _=>ts_one (t_in hr (d_v 9) (d_ix (d_v 7) d_i))) (fun _ _ _ _ _=>(d_v 9))) (d_ix (d_v 7) d_i)) (s_one (s_r d_b)) s_nil)
  (s_one (s_for PassesOwn.never rfl (i_S (d_add (d_add (d_lst (a_cons d_i a_nil)) (d_cpM 5 ["script", "at", "pool", "n", "k", "record", "told", "net", "t"] ["tie"] (c_n 9 nd1_z30 rfl rfl) (d_v 5) (fun _ _ _ _ _=>ts_nil) (fun _ _ _ _ _=>(d_ix (d_v 9) d_i)))) (d_cp ["script", "at", "pool", "n", "k", "record", "told", "net", "t"] ["tie"] (c_n 9 nd2_z30 rfl rfl) (i_S (d_sl (d_v 5) (o_s (d_neg d_i)) o_n)) (fun _ _ _ _ _=>ts_nil) (fun _ _ _ _ _=>(d_add (d_ix (d_v 9) d_i) d_i))))) (g_n 8 sc_z30.nd)
  (s_one (s_if (t_not (t_val (d_call G_z29 (hr.mono (by decide)) rfl T.m_z29 F_z29.kp b_z29 (@a_cons _ _ _ _ _ (d_v 3) (@a_cons _ _ _ _ _ (d_v 4) (@a_cons _ _ _ _ _ (d_v 5) (@a_cons _ _ _ _ _ (d_ix (d_v 7) d_i) (@a_cons _ _ _ _ _ (d_v 8) a_nil rfl) rfl) rfl) rfl) rfl)))) (s_one (s_r d_b)) s_nil)))))))))))))
  (s_one (s_r d_b))),r_fn (n:=1) (m:=8) rfl h⟩
end
theorem all_mk {l : PySem.W.OpenLaw} {w : World} {K : PySem.W.Frag} {h : Heap} {mg : Str→Option Value} {fa a_z0 a_z1 a_z2 a_z3 a_z4 a_z5 a_z6 a_z7 a_z8 a_z9 a_z10 a_z11 a_z12 a_z13 a_z14 a_z15 a_z16 a_z17 a_z18 a_z19 a_z20 a_z21 a_z22 a_z23 a_z24 a_z25 a_z26 a_z27 a_z28 a_z29 a_z30 : Addr} (X : K.In h) (G : h.Ns mainGlobals mg) (hfa : mg "law" = some (.ref fa))
  {od_z0 an_z0 : Option Addr} {sl_z0 : Array (Option Value)} {oc_z0 kV_z0 dc_z0 pm_z0 cd_z0 ct_z0 : Value}
  {od_z1 an_z1 : Option Addr} {sl_z1 : Array (Option Value)} {oc_z1 kV_z1 dc_z1 pm_z1 cd_z1 ct_z1 : Value}
  {od_z2 an_z2 : Option Addr} {sl_z2 : Array (Option Value)} {oc_z2 kV_z2 dc_z2 pm_z2 cd_z2 ct_z2 : Value}
  {od_z3 an_z3 : Option Addr} {sl_z3 : Array (Option Value)} {oc_z3 kV_z3 dc_z3 pm_z3 cd_z3 ct_z3 : Value}
  {od_z4 an_z4 : Option Addr} {sl_z4 : Array (Option Value)} {oc_z4 kV_z4 dc_z4 pm_z4 cd_z4 ct_z4 : Value}
  {od_z5 an_z5 : Option Addr} {sl_z5 : Array (Option Value)} {oc_z5 kV_z5 dc_z5 pm_z5 cd_z5 ct_z5 : Value}
  {od_z6 an_z6 : Option Addr} {sl_z6 : Array (Option Value)} {oc_z6 kV_z6 dc_z6 pm_z6 cd_z6 ct_z6 : Value}
  {od_z7 an_z7 : Option Addr} {sl_z7 : Array (Option Value)} {oc_z7 kV_z7 dc_z7 pm_z7 cd_z7 ct_z7 : Value}
  {od_z8 an_z8 : Option Addr} {sl_z8 : Array (Option Value)} {oc_z8 kV_z8 dc_z8 pm_z8 cd_z8 ct_z8 : Value}
  {od_z9 an_z9 : Option Addr} {sl_z9 : Array (Option Value)} {oc_z9 kV_z9 dc_z9 pm_z9 cd_z9 ct_z9 : Value}
  {od_z10 an_z10 : Option Addr} {sl_z10 : Array (Option Value)} {oc_z10 kV_z10 dc_z10 pm_z10 cd_z10 ct_z10 : Value}
  {od_z11 an_z11 : Option Addr} {sl_z11 : Array (Option Value)} {oc_z11 kV_z11 dc_z11 pm_z11 cd_z11 ct_z11 : Value}
  {od_z12 an_z12 : Option Addr} {sl_z12 : Array (Option Value)} {oc_z12 kV_z12 dc_z12 pm_z12 cd_z12 ct_z12 : Value}
  {od_z13 an_z13 : Option Addr} {sl_z13 : Array (Option Value)} {oc_z13 kV_z13 dc_z13 pm_z13 cd_z13 ct_z13 : Value}
  {od_z14 an_z14 : Option Addr} {sl_z14 : Array (Option Value)} {oc_z14 kV_z14 dc_z14 pm_z14 cd_z14 ct_z14 : Value}
  {od_z15 an_z15 : Option Addr} {sl_z15 : Array (Option Value)} {oc_z15 kV_z15 dc_z15 pm_z15 cd_z15 ct_z15 : Value}
  {od_z16 an_z16 : Option Addr} {sl_z16 : Array (Option Value)} {oc_z16 kV_z16 dc_z16 pm_z16 cd_z16 ct_z16 : Value}
  {od_z17 an_z17 : Option Addr} {sl_z17 : Array (Option Value)} {oc_z17 kV_z17 dc_z17 pm_z17 cd_z17 ct_z17 : Value}
  {od_z18 an_z18 : Option Addr} {sl_z18 : Array (Option Value)} {oc_z18 kV_z18 dc_z18 pm_z18 cd_z18 ct_z18 : Value}
  {od_z19 an_z19 : Option Addr} {sl_z19 : Array (Option Value)} {oc_z19 kV_z19 dc_z19 pm_z19 cd_z19 ct_z19 : Value}
  {od_z20 an_z20 : Option Addr} {sl_z20 : Array (Option Value)} {oc_z20 kV_z20 dc_z20 pm_z20 cd_z20 ct_z20 : Value}
  {od_z21 an_z21 : Option Addr} {sl_z21 : Array (Option Value)} {oc_z21 kV_z21 dc_z21 pm_z21 cd_z21 ct_z21 : Value}
  {od_z22 an_z22 : Option Addr} {sl_z22 : Array (Option Value)} {oc_z22 kV_z22 dc_z22 pm_z22 cd_z22 ct_z22 : Value}
  {od_z23 an_z23 : Option Addr} {sl_z23 : Array (Option Value)} {oc_z23 kV_z23 dc_z23 pm_z23 cd_z23 ct_z23 : Value}
  {od_z24 an_z24 : Option Addr} {sl_z24 : Array (Option Value)} {oc_z24 kV_z24 dc_z24 pm_z24 cd_z24 ct_z24 : Value}
  {od_z25 an_z25 : Option Addr} {sl_z25 : Array (Option Value)} {oc_z25 kV_z25 dc_z25 pm_z25 cd_z25 ct_z25 : Value}
  {od_z26 an_z26 : Option Addr} {sl_z26 : Array (Option Value)} {oc_z26 kV_z26 dc_z26 pm_z26 cd_z26 ct_z26 : Value}
  {od_z27 an_z27 : Option Addr} {sl_z27 : Array (Option Value)} {oc_z27 kV_z27 dc_z27 pm_z27 cd_z27 ct_z27 : Value}
  {od_z28 an_z28 : Option Addr} {sl_z28 : Array (Option Value)} {oc_z28 kV_z28 dc_z28 pm_z28 cd_z28 ct_z28 : Value}
  {od_z29 an_z29 : Option Addr} {sl_z29 : Array (Option Value)} {oc_z29 kV_z29 dc_z29 pm_z29 cd_z29 ct_z29 : Value}
  {od_z30 an_z30 : Option Addr} {sl_z30 : Array (Option Value)} {oc_z30 kV_z30 dc_z30 pm_z30 cd_z30 ct_z30 : Value}
  {tk_MOST_TIES : Tok}
  (e_z0 : PySem.W.nsIn K mainGlobals "is_whole" = some (some (.ref a_z0))) (l_z0 : K.lookup a_z0 = some ⟨oc_z0, od_z0, .func (PySem.W.fnOf "is_whole" "is_whole" (defArgs (top 7)) (defBody (top 7)) (defScope (top 7)) .none kV_z0 dc_z0 pm_z0 an_z0 cd_z0 ct_z0), sl_z0⟩) (c_z0 : PySem.W.codeIn K cd_z0 "is_whole" = true) (k_z0 : PySem.W.keepIn K (.ref a_z0) = true)
  (e_z1 : PySem.W.nsIn K mainGlobals "is_within" = some (some (.ref a_z1))) (l_z1 : K.lookup a_z1 = some ⟨oc_z1, od_z1, .func (PySem.W.fnOf "is_within" "is_within" (defArgs (top 8)) (defBody (top 8)) (defScope (top 8)) .none kV_z1 dc_z1 pm_z1 an_z1 cd_z1 ct_z1), sl_z1⟩) (c_z1 : PySem.W.codeIn K cd_z1 "is_within" = true) (k_z1 : PySem.W.keepIn K (.ref a_z1) = true)
  (e_z2 : PySem.W.nsIn K mainGlobals "is_places" = some (some (.ref a_z2))) (l_z2 : K.lookup a_z2 = some ⟨oc_z2, od_z2, .func (PySem.W.fnOf "is_places" "is_places" (defArgs (top 9)) (defBody (top 9)) (defScope (top 9)) .none kV_z2 dc_z2 pm_z2 an_z2 cd_z2 ct_z2), sl_z2⟩) (c_z2 : PySem.W.codeIn K cd_z2 "is_places" = true) (k_z2 : PySem.W.keepIn K (.ref a_z2) = true)
  (e_z3 : PySem.W.nsIn K mainGlobals "is_place" = some (some (.ref a_z3))) (l_z3 : K.lookup a_z3 = some ⟨oc_z3, od_z3, .func (PySem.W.fnOf "is_place" "is_place" (defArgs (top 10)) (defBody (top 10)) (defScope (top 10)) .none kV_z3 dc_z3 pm_z3 an_z3 cd_z3 ct_z3), sl_z3⟩) (c_z3 : PySem.W.codeIn K cd_z3 "is_place" = true) (k_z3 : PySem.W.keepIn K (.ref a_z3) = true)
  (e_z4 : PySem.W.nsIn K mainGlobals "is_layers" = some (some (.ref a_z4))) (l_z4 : K.lookup a_z4 = some ⟨oc_z4, od_z4, .func (PySem.W.fnOf "is_layers" "is_layers" (defArgs (top 11)) (defBody (top 11)) (defScope (top 11)) .none kV_z4 dc_z4 pm_z4 an_z4 cd_z4 ct_z4), sl_z4⟩) (c_z4 : PySem.W.codeIn K cd_z4 "is_layers" = true) (k_z4 : PySem.W.keepIn K (.ref a_z4) = true)
  (e_z5 : PySem.W.nsIn K mainGlobals "is_moment" = some (some (.ref a_z5))) (l_z5 : K.lookup a_z5 = some ⟨oc_z5, od_z5, .func (PySem.W.fnOf "is_moment" "is_moment" (defArgs (top 12)) (defBody (top 12)) (defScope (top 12)) .none kV_z5 dc_z5 pm_z5 an_z5 cd_z5 ct_z5), sl_z5⟩) (c_z5 : PySem.W.codeIn K cd_z5 "is_moment" = true) (k_z5 : PySem.W.keepIn K (.ref a_z5) = true)
  (e_z6 : PySem.W.nsIn K mainGlobals "is_tie_either_way" = some (some (.ref a_z6))) (l_z6 : K.lookup a_z6 = some ⟨oc_z6, od_z6, .func (PySem.W.fnOf "is_tie_either_way" "is_tie_either_way" (defArgs (top 13)) (defBody (top 13)) (defScope (top 13)) .none kV_z6 dc_z6 pm_z6 an_z6 cd_z6 ct_z6), sl_z6⟩) (c_z6 : PySem.W.codeIn K cd_z6 "is_tie_either_way" = true) (k_z6 : PySem.W.keepIn K (.ref a_z6) = true)
  (e_z7 : PySem.W.nsIn K mainGlobals "is_tie" = some (some (.ref a_z7))) (l_z7 : K.lookup a_z7 = some ⟨oc_z7, od_z7, .func (PySem.W.fnOf "is_tie" "is_tie" (defArgs (top 14)) (defBody (top 14)) (defScope (top 14)) .none kV_z7 dc_z7 pm_z7 an_z7 cd_z7 ct_z7), sl_z7⟩) (c_z7 : PySem.W.codeIn K cd_z7 "is_tie" = true) (k_z7 : PySem.W.keepIn K (.ref a_z7) = true)
  (e_z8 : PySem.W.nsIn K mainGlobals "is_rising" = some (some (.ref a_z8))) (l_z8 : K.lookup a_z8 = some ⟨oc_z8, od_z8, .func (PySem.W.fnOf "is_rising" "is_rising" (defArgs (top 15)) (defBody (top 15)) (defScope (top 15)) .none kV_z8 dc_z8 pm_z8 an_z8 cd_z8 ct_z8), sl_z8⟩) (c_z8 : PySem.W.codeIn K cd_z8 "is_rising" = true) (k_z8 : PySem.W.keepIn K (.ref a_z8) = true)
  (e_z9 : PySem.W.nsIn K mainGlobals "look_at_places" = some (some (.ref a_z9))) (l_z9 : K.lookup a_z9 = some ⟨oc_z9, od_z9, .func (PySem.W.fnOf "look_at_places" "look_at_places" (defArgs (top 16)) (defBody (top 16)) (defScope (top 16)) .none kV_z9 dc_z9 pm_z9 an_z9 cd_z9 ct_z9), sl_z9⟩) (c_z9 : PySem.W.codeIn K cd_z9 "look_at_places" = true) (k_z9 : PySem.W.keepIn K (.ref a_z9) = true)
  (e_z10 : PySem.W.nsIn K mainGlobals "look_at_layers" = some (some (.ref a_z10))) (l_z10 : K.lookup a_z10 = some ⟨oc_z10, od_z10, .func (PySem.W.fnOf "look_at_layers" "look_at_layers" (defArgs (top 17)) (defBody (top 17)) (defScope (top 17)) .none kV_z10 dc_z10 pm_z10 an_z10 cd_z10 ct_z10), sl_z10⟩) (c_z10 : PySem.W.codeIn K cd_z10 "look_at_layers" = true) (k_z10 : PySem.W.keepIn K (.ref a_z10) = true)
  (e_z11 : PySem.W.nsIn K mainGlobals "rim" = some (some (.ref a_z11))) (l_z11 : K.lookup a_z11 = some ⟨oc_z11, od_z11, .func (PySem.W.fnOf "rim" "rim" (defArgs (top 19)) (defBody (top 19)) (defScope (top 19)) .none kV_z11 dc_z11 pm_z11 an_z11 cd_z11 ct_z11), sl_z11⟩) (c_z11 : PySem.W.codeIn K cd_z11 "rim" = true) (k_z11 : PySem.W.keepIn K (.ref a_z11) = true)
  (e_z12 : PySem.W.nsIn K mainGlobals "merged" = some (some (.ref a_z12))) (l_z12 : K.lookup a_z12 = some ⟨oc_z12, od_z12, .func (PySem.W.fnOf "merged" "merged" (defArgs (top 20)) (defBody (top 20)) (defScope (top 20)) .none kV_z12 dc_z12 pm_z12 an_z12 cd_z12 ct_z12), sl_z12⟩) (c_z12 : PySem.W.codeIn K cd_z12 "merged" = true) (k_z12 : PySem.W.keepIn K (.ref a_z12) = true)
  (e_z13 : PySem.W.nsIn K mainGlobals "least_layer" = some (some (.ref a_z13))) (l_z13 : K.lookup a_z13 = some ⟨oc_z13, od_z13, .func (PySem.W.fnOf "least_layer" "least_layer" (defArgs (top 23)) (defBody (top 23)) (defScope (top 23)) .none kV_z13 dc_z13 pm_z13 an_z13 cd_z13 ct_z13), sl_z13⟩) (c_z13 : PySem.W.codeIn K cd_z13 "least_layer" = true) (k_z13 : PySem.W.keepIn K (.ref a_z13) = true)
  (e_z14 : PySem.W.nsIn K mainGlobals "layered" = some (some (.ref a_z14))) (l_z14 : K.lookup a_z14 = some ⟨oc_z14, od_z14, .func (PySem.W.fnOf "layered" "layered" (defArgs (top 22)) (defBody (top 22)) (defScope (top 22)) .none kV_z14 dc_z14 pm_z14 an_z14 cd_z14 ct_z14), sl_z14⟩) (c_z14 : PySem.W.codeIn K cd_z14 "layered" = true) (k_z14 : PySem.W.keepIn K (.ref a_z14) = true)
  (e_z15 : PySem.W.nsIn K mainGlobals "put_in_order" = some (some (.ref a_z15))) (l_z15 : K.lookup a_z15 = some ⟨oc_z15, od_z15, .func (PySem.W.fnOf "put_in_order" "put_in_order" (defArgs (top 27)) (defBody (top 27)) (defScope (top 27)) .none kV_z15 dc_z15 pm_z15 an_z15 cd_z15 ct_z15), sl_z15⟩) (c_z15 : PySem.W.codeIn K cd_z15 "put_in_order" = true) (k_z15 : PySem.W.keepIn K (.ref a_z15) = true)
  (e_z16 : PySem.W.nsIn K mainGlobals "look_for_clash" = some (some (.ref a_z16))) (l_z16 : K.lookup a_z16 = some ⟨oc_z16, od_z16, .func (PySem.W.fnOf "look_for_clash" "look_for_clash" (defArgs (top 28)) (defBody (top 28)) (defScope (top 28)) .none kV_z16 dc_z16 pm_z16 an_z16 cd_z16 ct_z16), sl_z16⟩) (c_z16 : PySem.W.codeIn K cd_z16 "look_for_clash" = true) (k_z16 : PySem.W.keepIn K (.ref a_z16) = true)
  (e_z17 : PySem.W.nsIn K mainGlobals "record_of" = some (some (.ref a_z17))) (l_z17 : K.lookup a_z17 = some ⟨oc_z17, od_z17, .func (PySem.W.fnOf "record_of" "record_of" (defArgs (top 26)) (defBody (top 26)) (defScope (top 26)) .none kV_z17 dc_z17 pm_z17 an_z17 cd_z17 ct_z17), sl_z17⟩) (c_z17 : PySem.W.codeIn K cd_z17 "record_of" = true) (k_z17 : PySem.W.keepIn K (.ref a_z17) = true)
  (e_z18 : PySem.W.nsIn K mainGlobals "is_record" = some (some (.ref a_z18))) (l_z18 : K.lookup a_z18 = some ⟨oc_z18, od_z18, .func (PySem.W.fnOf "is_record" "is_record" (defArgs (top 29)) (defBody (top 29)) (defScope (top 29)) .none kV_z18 dc_z18 pm_z18 an_z18 cd_z18 ct_z18), sl_z18⟩) (c_z18 : PySem.W.codeIn K cd_z18 "is_record" = true) (k_z18 : PySem.W.keepIn K (.ref a_z18) = true)
  (e_z19 : PySem.W.nsIn K mainGlobals "is_net" = some (some (.ref a_z19))) (l_z19 : K.lookup a_z19 = some ⟨oc_z19, od_z19, .func (PySem.W.fnOf "is_net" "is_net" (defArgs (top 31)) (defBody (top 31)) (defScope (top 31)) .none kV_z19 dc_z19 pm_z19 an_z19 cd_z19 ct_z19), sl_z19⟩) (c_z19 : PySem.W.codeIn K cd_z19 "is_net" = true) (k_z19 : PySem.W.keepIn K (.ref a_z19) = true)
  (e_z20 : PySem.W.nsIn K mainGlobals "net_of" = some (some (.ref a_z20))) (l_z20 : K.lookup a_z20 = some ⟨oc_z20, od_z20, .func (PySem.W.fnOf "net_of" "net_of" (defArgs (top 32)) (defBody (top 32)) (defScope (top 32)) .none kV_z20 dc_z20 pm_z20 an_z20 cd_z20 ct_z20), sl_z20⟩) (c_z20 : PySem.W.codeIn K cd_z20 "net_of" = true) (k_z20 : PySem.W.keepIn K (.ref a_z20) = true)
  (e_z21 : PySem.W.nsIn K mainGlobals "_law_pool" = some (some (.ref a_z21))) (l_z21 : K.lookup a_z21 = some ⟨oc_z21, od_z21, .func (PySem.W.fnOf "_law_pool" "_law_pool" (defArgs (top 34)) (defBody (top 34)) (defScope (top 34)) .none kV_z21 dc_z21 pm_z21 an_z21 cd_z21 ct_z21), sl_z21⟩) (c_z21 : PySem.W.codeIn K cd_z21 "_law_pool" = true) (k_z21 : PySem.W.keepIn K (.ref a_z21) = true)
  (e_z22 : PySem.W.nsIn K mainGlobals "_law_take" = some (some (.ref a_z22))) (l_z22 : K.lookup a_z22 = some ⟨oc_z22, od_z22, .func (PySem.W.fnOf "_law_take" "_law_take" (defArgs (top 35)) (defBody (top 35)) (defScope (top 35)) .none kV_z22 dc_z22 pm_z22 an_z22 cd_z22 ct_z22), sl_z22⟩) (c_z22 : PySem.W.codeIn K cd_z22 "_law_take" = true) (k_z22 : PySem.W.keepIn K (.ref a_z22) = true)
  (e_z23 : PySem.W.nsIn K mainGlobals "_law_many" = some (some (.ref a_z23))) (l_z23 : K.lookup a_z23 = some ⟨oc_z23, od_z23, .func (PySem.W.fnOf "_law_many" "_law_many" (defArgs (top 36)) (defBody (top 36)) (defScope (top 36)) .none kV_z23 dc_z23 pm_z23 an_z23 cd_z23 ct_z23), sl_z23⟩) (c_z23 : PySem.W.codeIn K cd_z23 "_law_many" = true) (k_z23 : PySem.W.keepIn K (.ref a_z23) = true)
  (e_z24 : PySem.W.nsIn K mainGlobals "_law_record" = some (some (.ref a_z24))) (l_z24 : K.lookup a_z24 = some ⟨oc_z24, od_z24, .func (PySem.W.fnOf "_law_record" "_law_record" (defArgs (top 37)) (defBody (top 37)) (defScope (top 37)) .none kV_z24 dc_z24 pm_z24 an_z24 cd_z24 ct_z24), sl_z24⟩) (c_z24 : PySem.W.codeIn K cd_z24 "_law_record" = true) (k_z24 : PySem.W.keepIn K (.ref a_z24) = true)
  (e_z25 : PySem.W.nsIn K mainGlobals "_law_since" = some (some (.ref a_z25))) (l_z25 : K.lookup a_z25 = some ⟨oc_z25, od_z25, .func (PySem.W.fnOf "_law_since" "_law_since" (defArgs (top 39)) (defBody (top 39)) (defScope (top 39)) .none kV_z25 dc_z25 pm_z25 an_z25 cd_z25 ct_z25), sl_z25⟩) (c_z25 : PySem.W.codeIn K cd_z25 "_law_since" = true) (k_z25 : PySem.W.keepIn K (.ref a_z25) = true)
  (e_z26 : PySem.W.nsIn K mainGlobals "_law_rim" = some (some (.ref a_z26))) (l_z26 : K.lookup a_z26 = some ⟨oc_z26, od_z26, .func (PySem.W.fnOf "_law_rim" "_law_rim" (defArgs (top 42)) (defBody (top 42)) (defScope (top 42)) .none kV_z26 dc_z26 pm_z26 an_z26 cd_z26 ct_z26), sl_z26⟩) (c_z26 : PySem.W.codeIn K cd_z26 "_law_rim" = true) (k_z26 : PySem.W.keepIn K (.ref a_z26) = true)
  (e_z27 : PySem.W.nsIn K mainGlobals "_law_sides" = some (some (.ref a_z27))) (l_z27 : K.lookup a_z27 = some ⟨oc_z27, od_z27, .func (PySem.W.fnOf "_law_sides" "_law_sides" (defArgs (top 46)) (defBody (top 46)) (defScope (top 46)) .none kV_z27 dc_z27 pm_z27 an_z27 cd_z27 ct_z27), sl_z27⟩) (c_z27 : PySem.W.codeIn K cd_z27 "_law_sides" = true) (k_z27 : PySem.W.keepIn K (.ref a_z27) = true)
  (e_z28 : PySem.W.nsIn K mainGlobals "_law_told" = some (some (.ref a_z28))) (l_z28 : K.lookup a_z28 = some ⟨oc_z28, od_z28, .func (PySem.W.fnOf "_law_told" "_law_told" (defArgs (top 48)) (defBody (top 48)) (defScope (top 48)) .none kV_z28 dc_z28 pm_z28 an_z28 cd_z28 ct_z28), sl_z28⟩) (c_z28 : PySem.W.codeIn K cd_z28 "_law_told" = true) (k_z28 : PySem.W.keepIn K (.ref a_z28) = true)
  (e_z29 : PySem.W.nsIn K mainGlobals "_law_holds" = some (some (.ref a_z29))) (l_z29 : K.lookup a_z29 = some ⟨oc_z29, od_z29, .func (PySem.W.fnOf "_law_holds" "_law_holds" (defArgs (top 49)) (defBody (top 49)) (defScope (top 49)) .none kV_z29 dc_z29 pm_z29 an_z29 cd_z29 ct_z29), sl_z29⟩) (c_z29 : PySem.W.codeIn K cd_z29 "_law_holds" = true) (k_z29 : PySem.W.keepIn K (.ref a_z29) = true)
  (e_z30 : PySem.W.nsIn K mainGlobals "law" = some (some (.ref a_z30))) (l_z30 : K.lookup a_z30 = some ⟨oc_z30, od_z30, .func (PySem.W.fnOf "law" "law" (defArgs (top 50)) (defBody (top 50)) (defScope (top 50)) .none kV_z30 dc_z30 pm_z30 an_z30 cd_z30 ct_z30), sl_z30⟩) (c_z30 : PySem.W.codeIn K cd_z30 "law" = true) (k_z30 : PySem.W.keepIn K (.ref a_z30) = true)
  (z_all : PySem.W.nsIn K mainGlobals "all" = some none)
  (z_bool : PySem.W.nsIn K mainGlobals "bool" = some none)
  (z_enumerate : PySem.W.nsIn K mainGlobals "enumerate" = some none)
  (z_int : PySem.W.nsIn K mainGlobals "int" = some none)
  (z_isinstance : PySem.W.nsIn K mainGlobals "isinstance" = some none)
  (z_len : PySem.W.nsIn K mainGlobals "len" = some none)
  (z_list : PySem.W.nsIn K mainGlobals "list" = some none)
  (z_max : PySem.W.nsIn K mainGlobals "max" = some none)
  (z_min : PySem.W.nsIn K mainGlobals "min" = some none)
  (z_range : PySem.W.nsIn K mainGlobals "range" = some none)
  (z_reversed : PySem.W.nsIn K mainGlobals "reversed" = some none)
  (z_set : PySem.W.nsIn K mainGlobals "set" = some none)
  (z_sorted : PySem.W.nsIn K mainGlobals "sorted" = some none)
  (z_tuple : PySem.W.nsIn K mainGlobals "tuple" = some none)
  (z_zip : PySem.W.nsIn K mainGlobals "zip" = some none)
  (y_MOST_TIES : PySem.W.nsIn K mainGlobals "MOST_TIES" = some (some (.int 60 tk_MOST_TIES))) :
  ∃ fd : FuncData, (∀ (s : Shared) (v : Value), BindsTo s fd ⟨[v], []⟩ [("script", v)])∧∀ base : Heap, K.In base→base.Ns mainGlobals mg→FnOk l.prog w K mg base CX0 8 fa fd ["script"] (spD f_z30):=by
 have e:=hfa.symm.trans (PySem.W.mg_of X G e_z30)
 cases e
 have F_z0:=fun_mk (st:=top 7) l_z0 c_z0 k_z0
 have b_z0:=F_z0.binds1 (ps:=["thing"]) rfl fun _ _ _ _ _ _ _=>rfl
 have F_z1:=fun_mk (st:=top 8) l_z1 c_z1 k_z1
 have b_z1:=F_z1.binds3 (ps:=["thing", "low", "high"]) rfl fun _ _ _ _ _ _ _ _ _=>rfl
 have F_z2:=fun_mk (st:=top 9) l_z2 c_z2 k_z2
 have b_z2:=F_z2.binds1 (ps:=["thing"]) rfl fun _ _ _ _ _ _ _=>rfl
 have F_z3:=fun_mk (st:=top 10) l_z3 c_z3 k_z3
 have b_z3:=F_z3.binds2 (ps:=["n", "thing"]) rfl fun _ _ _ _ _ _ _ _=>rfl
 have F_z4:=fun_mk (st:=top 11) l_z4 c_z4 k_z4
 have b_z4:=F_z4.binds1 (ps:=["thing"]) rfl fun _ _ _ _ _ _ _=>rfl
 have F_z5:=fun_mk (st:=top 12) l_z5 c_z5 k_z5
 have b_z5:=F_z5.binds1 (ps:=["thing"]) rfl fun _ _ _ _ _ _ _=>rfl
 have F_z6:=fun_mk (st:=top 13) l_z6 c_z6 k_z6
 have b_z6:=F_z6.binds2 (ps:=["n", "thing"]) rfl fun _ _ _ _ _ _ _ _=>rfl
 have F_z7:=fun_mk (st:=top 14) l_z7 c_z7 k_z7
 have b_z7:=F_z7.binds2 (ps:=["n", "thing"]) rfl fun _ _ _ _ _ _ _ _=>rfl
 have F_z8:=fun_mk (st:=top 15) l_z8 c_z8 k_z8
 have b_z8:=F_z8.binds1 (ps:=["things"]) rfl fun _ _ _ _ _ _ _=>rfl
 have F_z9:=fun_mk (st:=top 16) l_z9 c_z9 k_z9
 have b_z9:=F_z9.binds1 (ps:=["n"]) rfl fun _ _ _ _ _ _ _=>rfl
 have F_z10:=fun_mk (st:=top 17) l_z10 c_z10 k_z10
 have b_z10:=F_z10.binds1 (ps:=["k"]) rfl fun _ _ _ _ _ _ _=>rfl
 have F_z11:=fun_mk (st:=top 19) l_z11 c_z11 k_z11
 have b_z11:=F_z11.binds2 (ps:=["record", "side"]) rfl fun _ _ _ _ _ _ _ _=>rfl
 have F_z12:=fun_mk (st:=top 20) l_z12 c_z12 k_z12
 have b_z12:=F_z12.binds3 (ps:=["groups", "a", "b"]) rfl fun _ _ _ _ _ _ _ _ _=>rfl
 have F_z13:=fun_mk (st:=top 23) l_z13 c_z13 k_z13
 have b_z13:=F_z13.binds3 (ps:=["layers", "a", "b"]) rfl fun _ _ _ _ _ _ _ _ _=>rfl
 have F_z14:=fun_mk (st:=top 22) l_z14 c_z14 k_z14
 have b_z14:=F_z14.binds3 (ps:=["n", "record", "k"]) rfl fun _ _ _ _ _ _ _ _ _=>rfl
 have F_z15:=fun_mk (st:=top 27) l_z15 c_z15 k_z15
 have b_z15:=F_z15.binds1 (ps:=["thing"]) rfl fun _ _ _ _ _ _ _=>rfl
 have F_z16:=fun_mk (st:=top 28) l_z16 c_z16 k_z16
 have b_z16:=F_z16.binds1 (ps:=["ties"]) rfl fun _ _ _ _ _ _ _=>rfl
 have F_z17:=fun_mk (st:=top 26) l_z17 c_z17 k_z17
 have b_z17:=F_z17.binds2 (ps:=["n", "things"]) rfl fun _ _ _ _ _ _ _ _=>rfl
 have F_z18:=fun_mk (st:=top 29) l_z18 c_z18 k_z18
 have b_z18:=F_z18.binds2 (ps:=["n", "thing"]) rfl fun _ _ _ _ _ _ _ _=>rfl
 have F_z19:=fun_mk (st:=top 31) l_z19 c_z19 k_z19
 have b_z19:=F_z19.binds1 (ps:=["thing"]) rfl fun _ _ _ _ _ _ _=>rfl
 have F_z20:=fun_mk (st:=top 32) l_z20 c_z20 k_z20
 have b_z20:=F_z20.binds3 (ps:=["n", "record", "k"]) rfl fun _ _ _ _ _ _ _ _ _=>rfl
 have F_z21:=fun_mk (st:=top 34) l_z21 c_z21 k_z21
 have b_z21:=F_z21.binds2 (ps:=["script", "k"]) rfl fun _ _ _ _ _ _ _ _=>rfl
 have F_z22:=fun_mk (st:=top 35) l_z22 c_z22 k_z22
 have b_z22:=F_z22.binds2 (ps:=["pool", "many"]) rfl fun _ _ _ _ _ _ _ _=>rfl
 have F_z23:=fun_mk (st:=top 36) l_z23 c_z23 k_z23
 have b_z23:=F_z23.binds1 (ps:=["pool"]) rfl fun _ _ _ _ _ _ _=>rfl
 have F_z24:=fun_mk (st:=top 37) l_z24 c_z24 k_z24
 have b_z24:=F_z24.binds3 (ps:=["pool", "n", "most"]) rfl fun _ _ _ _ _ _ _ _ _=>rfl
 have F_z25:=fun_mk (st:=top 39) l_z25 c_z25 k_z25
 have b_z25:=F_z25.binds2 (ps:=["record", "t"]) rfl fun _ _ _ _ _ _ _ _=>rfl
 have F_z26:=fun_mk (st:=top 42) l_z26 c_z26 k_z26
 have b_z26:=F_z26.binds2 (ps:=["ties", "side"]) rfl fun _ _ _ _ _ _ _ _=>rfl
 have F_z27:=fun_mk (st:=top 46) l_z27 c_z27 k_z27
 have b_z27:=F_z27.binds1 (ps:=["n"]) rfl fun _ _ _ _ _ _ _=>rfl
 have F_z28:=fun_mk (st:=top 48) l_z28 c_z28 k_z28
 have b_z28:=F_z28.binds2 (ps:=["pool", "record"]) rfl fun _ _ _ _ _ _ _ _=>rfl
 have F_z29:=fun_mk (st:=top 49) l_z29 c_z29 k_z29
 have b_z29:=F_z29.binds5 (ps:=["n", "k", "record", "ties", "t"]) rfl fun _ _ _ _ _ _ _ _ _ _ _=>rfl
 have F_z30:=fun_mk (st:=top 50) l_z30 c_z30 k_z30
 refine ⟨PySem.W.fnOf "law" "law" (defArgs (top 50)) (defBody (top 50)) (defScope (top 50)) .none kV_z30 dc_z30 pm_z30 an_z30 cd_z30 ct_z30, fun s v=>.of_eq rfl, fun base Xb _=>?_⟩
 have T : Txt mg K base a_z0 a_z1 a_z2 a_z3 a_z4 a_z5 a_z6 a_z7 a_z8 a_z9 a_z10 a_z11 a_z12 a_z13 a_z14 a_z15 a_z16 a_z17 a_z18 a_z19 a_z20 a_z21 a_z22 a_z23 a_z24 a_z25 a_z26 a_z27 a_z28 a_z29 fa:=⟨PySem.W.mg_none_of X G z_all,PySem.W.mg_none_of X G z_bool,PySem.W.mg_none_of X G z_enumerate,PySem.W.mg_none_of X G z_int,PySem.W.mg_none_of X G z_isinstance,PySem.W.mg_none_of X G z_len,PySem.W.mg_none_of X G z_list,PySem.W.mg_none_of X G z_max,PySem.W.mg_none_of X G z_min,PySem.W.mg_none_of X G z_range,PySem.W.mg_none_of X G z_reversed,PySem.W.mg_none_of X G z_set,PySem.W.mg_none_of X G z_sorted,PySem.W.mg_none_of X G z_tuple,PySem.W.mg_none_of X G z_zip,⟨_,PySem.W.mg_of X G y_MOST_TIES⟩,PySem.W.mg_of X G e_z0,PySem.W.mg_of X G e_z1,PySem.W.mg_of X G e_z2,PySem.W.mg_of X G e_z3,PySem.W.mg_of X G e_z4,PySem.W.mg_of X G e_z5,PySem.W.mg_of X G e_z6,PySem.W.mg_of X G e_z7,PySem.W.mg_of X G e_z8,PySem.W.mg_of X G e_z9,PySem.W.mg_of X G e_z10,PySem.W.mg_of X G e_z11,PySem.W.mg_of X G e_z12,PySem.W.mg_of X G e_z13,PySem.W.mg_of X G e_z14,PySem.W.mg_of X G e_z15,PySem.W.mg_of X G e_z16,PySem.W.mg_of X G e_z17,PySem.W.mg_of X G e_z18,PySem.W.mg_of X G e_z19,PySem.W.mg_of X G e_z20,PySem.W.mg_of X G e_z21,PySem.W.mg_of X G e_z22,PySem.W.mg_of X G e_z23,PySem.W.mg_of X G e_z24,PySem.W.mg_of X G e_z25,PySem.W.mg_of X G e_z26,PySem.W.mg_of X G e_z27,PySem.W.mg_of X G e_z28,PySem.W.mg_of X G e_z29,PySem.W.mg_of X G e_z30⟩
 have G_z0:=ok_z0 (P':=l.prog) (w:=w) (base:=base) T F_z0 
 have G_z1:=ok_z1 (P':=l.prog) (w:=w) (base:=base) T F_z1 F_z0 b_z0 G_z0
 have G_z2:=ok_z2 (P':=l.prog) (w:=w) (base:=base) T F_z2 F_z1 b_z1 G_z1
 have G_z3:=ok_z3 (P':=l.prog) (w:=w) (base:=base) T F_z3 F_z1 b_z1 G_z1
 have G_z4:=ok_z4 (P':=l.prog) (w:=w) (base:=base) T F_z4 F_z1 b_z1 G_z1
 have G_z5:=ok_z5 (P':=l.prog) (w:=w) (base:=base) T F_z5 F_z1 b_z1 G_z1
 have G_z6:=ok_z6 (P':=l.prog) (w:=w) (base:=base) T F_z6 F_z3 b_z3 G_z3 F_z5 b_z5 G_z5
 have G_z7:=ok_z7 (P':=l.prog) (w:=w) (base:=base) T F_z7 F_z6 b_z6 G_z6
 have G_z8:=ok_z8 (P':=l.prog) (w:=w) (base:=base) T F_z8 
 have G_z9:=ok_z9 (P':=l.prog) (w:=w) (base:=base) T F_z9 F_z2 b_z2 G_z2
 have G_z10:=ok_z10 (P':=l.prog) (w:=w) (base:=base) T F_z10 F_z4 b_z4 G_z4
 have G_z11:=ok_z11 (P':=l.prog) (w:=w) (base:=base) T F_z11 
 have G_z12:=ok_z12 (P':=l.prog) (w:=w) (base:=base) T F_z12 
 have G_z13:=ok_z13 (P':=l.prog) (w:=w) (base:=base) T F_z13 
 have G_z14:=ok_z14 (P':=l.prog) (w:=w) (base:=base) T F_z14 F_z10 b_z10 G_z10 F_z12 b_z12 G_z12 F_z13 b_z13 G_z13
 have G_z15:=ok_z15 (P':=l.prog) (w:=w) (base:=base) T F_z15 
 have G_z16:=ok_z16 (P':=l.prog) (w:=w) (base:=base) T F_z16 
 have G_z17:=ok_z17 (P':=l.prog) (w:=w) (base:=base) T F_z17 F_z6 b_z6 G_z6 F_z9 b_z9 G_z9 F_z15 b_z15 G_z15 F_z16 b_z16 G_z16
 have G_z18:=ok_z18 (P':=l.prog) (w:=w) (base:=base) T F_z18 F_z2 b_z2 G_z2 F_z7 b_z7 G_z7 F_z8 b_z8 G_z8
 have G_z19:=ok_z19 (P':=l.prog) (w:=w) (base:=base) T F_z19 F_z4 b_z4 G_z4 F_z14 b_z14 G_z14 F_z18 b_z18 G_z18
 have G_z20:=ok_z20 (P':=l.prog) (w:=w) (base:=base) T F_z20 F_z14 b_z14 G_z14
 have G_z21:=ok_z21 (P':=l.prog) (w:=w) (base:=base) T F_z21 
 have G_z22:=ok_z22 (P':=l.prog) (w:=w) (base:=base) T F_z22 
 have G_z23:=ok_z23 (P':=l.prog) (w:=w) (base:=base) T F_z23 F_z22 b_z22 G_z22
 have G_z24:=ok_z24 (P':=l.prog) (w:=w) (base:=base) T F_z24 F_z22 b_z22 G_z22
 have G_z25:=ok_z25 (P':=l.prog) (w:=w) (base:=base) T F_z25 
 have G_z26:=ok_z26 (P':=l.prog) (w:=w) (base:=base) T F_z26 
 have G_z27:=ok_z27 (P':=l.prog) (w:=w) (base:=base) T F_z27 
 have G_z28:=ok_z28 (P':=l.prog) (w:=w) (base:=base) T F_z28 F_z22 b_z22 G_z22
 have G_z29:=ok_z29 (P':=l.prog) (w:=w) (base:=base) T F_z29 F_z11 b_z11 G_z11 F_z25 b_z25 G_z25 F_z26 b_z26 G_z26 F_z27 b_z27 G_z27
 exact ok_z30 T F_z30 F_z17 b_z17 G_z17 F_z19 b_z19 G_z19 F_z20 b_z20 G_z20 F_z21 b_z21 G_z21 F_z22 b_z22 G_z22 F_z23 b_z23 G_z23 F_z24 b_z24 G_z24 F_z28 b_z28 G_z28 F_z29 b_z29 G_z29
theorem walk {l : PySem.W.OpenLaw} {q : Program} {loose : List Str} {XP : (Str→Option Value)→Heap→Prop} {YP : World→Heap→Prop} {d : DefRec} {K : Params→PySem.W.Frag} (hn : l.most = some 63) (hdf : d.params.defaults = [])
  (hY : ∀ (w : World) (h : Heap),YP w h→(K w.params).In h) (M : ∀ ns : List Int,ns.length≤63→f_z30 [.lst (ns.map Dat.int)] = some (.val (.bl true))) (hK : ∀ w : World,noList (K w.params) = true)
  (F : ∀ (w : World) (mg : Str→Option Value) (fa : Addr) (h : Heap),(K w.params).In h→h.Ns mainGlobals mg→mg d.name = some (.ref fa) →
   ∃ fd : FuncData, (∀ (s : Shared) (u : Value), BindsTo s fd ⟨[u], []⟩ [("script", u)])∧∀ base : Heap, (K w.params).In base→base.Ns mainGlobals mg→FnOk l.prog w (K w.params) mg base CX0 8 fa fd ["script"] (spD f_z30)) :
  PySem.W.WalkO q loose XP YP l.row.toRowW d [] (fun f vs=>PySem.call f vs) :=
 _l.walk_of (n:=63) (k:=8) (x:="script") (CX:=fun _=>CX0) (sp:=fun _=>spD f_z30) hn (by decide) hdf ⟨rfl, by decide, by decide⟩ hY F
  (fun w H a ns hl hO hS=>law_sp (M ns hl) (hK w) hS) fun _ _ _ _ _ z=>z
open PySem PySem.W PySem.W.X
theorem walkX_of {q : Program} {loose : List Str} {XP : (Str→Option Value)→Heap→Prop} {r : RowW} {d : DefRec} {kwd : List (Str×Expr)} {run : Value→List Value→Sem Value} {K : Params→Frag} {as : List Addr} {n t : Nat} (e : ∀ P,as = (K P).map (·.1))
  (W : WalkO q loose XP (fun w h=>(K w.params).In h) r d kwd run) : WalkX q loose XP (obsZ as) (valZ K n t) r d kwd run :=
 fun w s₀ s₁ mg mb G y a o pm cd doc dV kV ho hd hcd hD hmg hg args vals as' L=>W w s₀ s₁ mg mb G (InK.keeps w _ _ (z_facts e y).2.1 L.keeps) a o pm cd doc dV kV ho hd hcd hD hmg hg args vals as'
end Q
noncomputable def PySem.W.Fast.tw17823287440876202229 : PySem.Program:=PySem.Challenge.pw_sinceply_k66_whole_every_side_and_moment
theorem PySem.W.Fast.te17823287440876202229 : PySem.Challenge.pw_sinceply_k66_whole_every_side_and_moment = PySem.W.Fast.tw17823287440876202229:=rfl
open PySem PySem.W PyProof.Rows
set_option maxRecDepth 100000 in
set_option maxHeartbeats 0 in
theorem PySem.Challenge.cw_sinceply_k66_whole_every_side_and_moment_holds : PySem.Challenge.rw_sinceply_k66_whole_every_side_and_moment.Holds := by
 w_on; o_law; z_head; (case hw=>w_witness2)
 k_fill
 refine' Q.walkX_of (fun _=>rfl) (Q.walk (l:=PySem.Challenge.rw_sinceply_k66_whole_every_side_and_moment) rfl rfl (fun w h Y=>Y) P.math ?noL ?fnS)
 case noL=>intro w; rfl
 case fnS =>
  intro w mg fa h KX G hmg
  refine' Q.all_mk KX G hmg ?e_z0 ?l_z0 ?c_z0 ?k_z0 ?e_z1 ?l_z1 ?c_z1 ?k_z1 ?e_z2 ?l_z2 ?c_z2 ?k_z2 ?e_z3 ?l_z3 ?c_z3 ?k_z3 ?e_z4 ?l_z4 ?c_z4 ?k_z4 ?e_z5 ?l_z5 ?c_z5 ?k_z5 ?e_z6 ?l_z6 ?c_z6 ?k_z6 ?e_z7 ?l_z7 ?c_z7 ?k_z7 ?e_z8 ?l_z8 ?c_z8 ?k_z8 ?e_z9 ?l_z9 ?c_z9 ?k_z9 ?e_z10 ?l_z10 ?c_z10 ?k_z10 ?e_z11 ?l_z11 ?c_z11 ?k_z11 ?e_z12 ?l_z12 ?c_z12 ?k_z12 ?e_z13 ?l_z13 ?c_z13 ?k_z13 ?e_z14 ?l_z14 ?c_z14 ?k_z14 ?e_z15 ?l_z15 ?c_z15 ?k_z15 ?e_z16 ?l_z16 ?c_z16 ?k_z16 ?e_z17 ?l_z17 ?c_z17 ?k_z17 ?e_z18 ?l_z18 ?c_z18 ?k_z18 ?e_z19 ?l_z19 ?c_z19 ?k_z19 ?e_z20 ?l_z20 ?c_z20 ?k_z20 ?e_z21 ?l_z21 ?c_z21 ?k_z21 ?e_z22 ?l_z22 ?c_z22 ?k_z22 ?e_z23 ?l_z23 ?c_z23 ?k_z23 ?e_z24 ?l_z24 ?c_z24 ?k_z24 ?e_z25 ?l_z25 ?c_z25 ?k_z25 ?e_z26 ?l_z26 ?c_z26 ?k_z26 ?e_z27 ?l_z27 ?c_z27 ?k_z27 ?e_z28 ?l_z28 ?c_z28 ?k_z28 ?e_z29 ?l_z29 ?c_z29 ?k_z29 ?e_z30 ?l_z30 ?c_z30 ?k_z30 ?z_all ?z_bool ?z_enumerate ?z_int ?z_isinstance ?z_len ?z_list ?z_max ?z_min ?z_range ?z_reversed ?z_set ?z_sorted ?z_tuple ?z_zip ?y_MOST_TIES
  (case e_z0=>k_is)
  (case l_z0=>k_is)
  (case c_z0=>k_is)
  (case k_z0=>k_is)
  (case e_z1=>k_is)
  (case l_z1=>k_is)
  (case c_z1=>k_is)
  (case k_z1=>k_is)
  (case e_z2=>k_is)
  (case l_z2=>k_is)
  (case c_z2=>k_is)
  (case k_z2=>k_is)
  (case e_z3=>k_is)
  (case l_z3=>k_is)
  (case c_z3=>k_is)
  (case k_z3=>k_is)
  (case e_z4=>k_is)
  (case l_z4=>k_is)
  (case c_z4=>k_is)
  (case k_z4=>k_is)
  (case e_z5=>k_is)
  (case l_z5=>k_is)
  (case c_z5=>k_is)
  (case k_z5=>k_is)
  (case e_z6=>k_is)
  (case l_z6=>k_is)
  (case c_z6=>k_is)
  (case k_z6=>k_is)
  (case e_z7=>k_is)
  (case l_z7=>k_is)
  (case c_z7=>k_is)
  (case k_z7=>k_is)
  (case e_z8=>k_is)
  (case l_z8=>k_is)
  (case c_z8=>k_is)
  (case k_z8=>k_is)
  (case e_z9=>k_is)
  (case l_z9=>k_is)
  (case c_z9=>k_is)
  (case k_z9=>k_is)
  (case e_z10=>k_is)
  (case l_z10=>k_is)
  (case c_z10=>k_is)
  (case k_z10=>k_is)
  (case e_z11=>k_is)
  (case l_z11=>k_is)
  (case c_z11=>k_is)
  (case k_z11=>k_is)
  (case e_z12=>k_is)
  (case l_z12=>k_is)
  (case c_z12=>k_is)
  (case k_z12=>k_is)
  (case e_z13=>k_is)
  (case l_z13=>k_is)
  (case c_z13=>k_is)
  (case k_z13=>k_is)
  (case e_z14=>k_is)
  (case l_z14=>k_is)
  (case c_z14=>k_is)
  (case k_z14=>k_is)
  (case e_z15=>k_is)
  (case l_z15=>k_is)
  (case c_z15=>k_is)
  (case k_z15=>k_is)
  (case e_z16=>k_is)
  (case l_z16=>k_is)
  (case c_z16=>k_is)
  (case k_z16=>k_is)
  (case e_z17=>k_is)
  (case l_z17=>k_is)
  (case c_z17=>k_is)
  (case k_z17=>k_is)
  (case e_z18=>k_is)
  (case l_z18=>k_is)
  (case c_z18=>k_is)
  (case k_z18=>k_is)
  (case e_z19=>k_is)
  (case l_z19=>k_is)
  (case c_z19=>k_is)
  (case k_z19=>k_is)
  (case e_z20=>k_is)
  (case l_z20=>k_is)
  (case c_z20=>k_is)
  (case k_z20=>k_is)
  (case e_z21=>k_is)
  (case l_z21=>k_is)
  (case c_z21=>k_is)
  (case k_z21=>k_is)
  (case e_z22=>k_is)
  (case l_z22=>k_is)
  (case c_z22=>k_is)
  (case k_z22=>k_is)
  (case e_z23=>k_is)
  (case l_z23=>k_is)
  (case c_z23=>k_is)
  (case k_z23=>k_is)
  (case e_z24=>k_is)
  (case l_z24=>k_is)
  (case c_z24=>k_is)
  (case k_z24=>k_is)
  (case e_z25=>k_is)
  (case l_z25=>k_is)
  (case c_z25=>k_is)
  (case k_z25=>k_is)
  (case e_z26=>k_is)
  (case l_z26=>k_is)
  (case c_z26=>k_is)
  (case k_z26=>k_is)
  (case e_z27=>k_is)
  (case l_z27=>k_is)
  (case c_z27=>k_is)
  (case k_z27=>k_is)
  (case e_z28=>k_is)
  (case l_z28=>k_is)
  (case c_z28=>k_is)
  (case k_z28=>k_is)
  (case e_z29=>k_is)
  (case l_z29=>k_is)
  (case c_z29=>k_is)
  (case k_z29=>k_is)
  (case e_z30=>k_is)
  (case l_z30=>k_is)
  (case c_z30=>k_is)
  (case k_z30=>k_is)
  (case z_all=>k_is)
  (case z_bool=>k_is)
  (case z_enumerate=>k_is)
  (case z_int=>k_is)
  (case z_isinstance=>k_is)
  (case z_len=>k_is)
  (case z_list=>k_is)
  (case z_max=>k_is)
  (case z_min=>k_is)
  (case z_range=>k_is)
  (case z_reversed=>k_is)
  (case z_set=>k_is)
  (case z_sorted=>k_is)
  (case z_tuple=>k_is)
  (case z_zip=>k_is)
  (case y_MOST_TIES=>k_is)
end
